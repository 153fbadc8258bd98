import Derived.Test.YtlgoihmkgaaemaaGreatGP37
set_option maxHeartbeats 20000000
set_option linter.unusedVariables false
set_option maxRecDepth 100000
set_option linter.unusedSimpArgs false
namespace Go.Proofs.YtlgoihmkgaaemaaGreat
open Go.RowKit Tryz
structure anI (k:aT) (A:Int):Prop where
 m9:dR k.aD=false->A=1
 hand:¬(0<=k.hand/\k.hand<=(k.frames.length:Int)-1)->A=1
 sp:∀i,i<k.aj.length->nj k.aD k.frames.length k.slots.length (ak k.aj i)=false->A=1
 room:¬dJ k.aj<=(k.slots.length:Int)->A=1
 fr:∀i,i<k.frames.length->qX k.aD (aK k.frames i) (gw k.aj 1 i)=false->A=1
 sl:∀i,i<k.slots.length->uw (bI k.slots i) (gw k.aj 2 i)=false->A=1
 yes:dR k.aD=true->(0<=k.hand/\k.hand<=(k.frames.length:Int)-1)->rO k k.aj.length=true->dJ k.aj<=(k.slots.length:Int)->uV k k.frames.length=true->uT k k.slots.length=true->A=0
theorem agl {k:aT} (hc:lh k=true):anI k (sJ k):=by
 have e:sJ k=if sD k then 0 else 1:=by
  unfold sJ;rw[aH (by rw[hc];decide)]
 have no:sD k=false->sJ k=1:=λh=>by rw[e,h];rfl
 refine⟨λh=>no ?_,λh=>no ?_,λi hi h=>no ?_,λh=>no ?_,λi hi h=>no ?_,λi hi h=>no ?_,λh1 h2 h3 h4 h5 h6=>?_⟩
 . unfold sD;rw[h,qK]
 . unfold sD;rw[eH h,qK,Hh]
 . unfold sD;rw[vO (f:=λn=>nj k.aD k.frames.length k.slots.length (ak k.aj n)) (g:=rO k) (λ_=>rfl) _ i hi h];simp
 . unfold sD;rw[eH h];simp
 . unfold sD;rw[vO (f:=λn:Nat=>qX k.aD (aK k.frames n) (gw k.aj 1 n)) (g:=uV k) (λ_=>rfl) _ i hi h];simp
 . unfold sD;rw[vO (f:=λn:Nat=>uw (bI k.slots n) (gw k.aj 2 n)) (g:=uT k) (λ_=>rfl) _ i hi h];simp
 rw[e];unfold sD;rw[h1,dW h2,h3,dW h4,h5,h6];rfl
structure anH (k:aT):Prop where
 check:∀i,i<k.aj.length->bf (ak k.aj i).bu=0
 few:∀i,i<k.aj.length->(ak k.aj i).bl.length<=65025
 ahc:∀kd i,(gw k.aj kd i).n≠0->(gw k.aj kd i).FO.zero=false->(dB k.aD (gw k.aj kd i).page).isSome=true
 pos:∀kd i,0<=(gw k.aj kd i).n
theorem Vt {k:aT} (h:rO k k.aj.length=true):anH k:=by
 have all:∀i,i<k.aj.length->sQ k.aD k.frames.length k.slots.length (ak k.aj i):=λi hi=>JP.1 ((xP (f:=λn=>nj k.aD k.frames.length k.slots.length (ak k.aj n)) (g:=rO k) rfl (λ_=>rfl) _).1 h i hi)
 refine⟨λi hi=>(all i hi).bu,λi hi=>?_,λkd i hn hz=>?_,λkd i=>?_⟩
 . have h1:=yx (all i hi);have h2:=mI (ak k.aj i).bu;omega
 . have N:=Aj k.aj kd i;have b:bY k.aj kd i≠[]:=λe=>hn (by rw[N.n,e];rfl)
   obtain⟨s,hs,e,he,_,_,hx⟩:=oK.1 (N.last b);obtain⟨j,hj,ej⟩:=jE rP hs;have ej:ak k.aj j=s:=ej;have hS:=all j hj;rw[ej] at hS;injection hx with p1 p2;rw[p1];exact hS.aD e.page (hS.MQ e he).1 (by rw[<- p2];exact hz)
 rw[(Aj k.aj kd i).n];omega
theorem XJ (k:aT) (a:gN) (w:World) (hK:iB w a k) (hF:kN k) :
  Calls prog 42 #[.agg (bj a k)] w λe w'=>e=.returned (I (sJ k))/\Below w.heap.size w w':=by
 obtain⟨nS,N⟩:=ex k.aD.length;obtain⟨nF,K⟩:=ex k.frames.length;obtain⟨nL,G⟩:=ex k.slots.length;obtain⟨nP,L⟩:=ex k.aj.length;obtain⟨WA,lQ⟩:=ex (w.alloc (.cells #[.slice a.aS nS a.cS,.slice a.aF nF a.cF,.slice a.aL nL a.cL,.slice a.aP nP a.cP,I k.hand] 30));have Z:Below w.heap.size w WA:=by rw[lQ];exact(aN _ _).alloc (aJ _) _
 have kb:WA.heap[w.heap.size]?=some (.cells #[.slice a.aS nS a.cS,.slice a.aF nF a.cF,.slice a.aL nL a.cL,.slice a.aP nP a.cP,I k.hand] 30 (0,0)):=by rw[lQ];exact bG w _ _
 have KB:Hid (∀V,Below WA.heap.size WA V->V.heap[w.heap.size]?=some (.cells #[.slice a.aS nS a.cS,.slice a.aF nF a.cF,.slice a.aL nL a.cL,.slice a.aP nP a.cP,I k.hand] 30 (0,0))):=λV hb=>aO kb hb (aM kb)
 have Dk:bj a k=#[.slice a.aS nS a.cS,.slice a.aF nF a.cF,.slice a.aL nL a.cL,.slice a.aP nP a.cP,I k.hand]:=by unfold bj;rw[<- N,<- K,<- G,<- L]
 have Pz:=ai ir;have ov:∀{V:World},Below WA.heap.size WA V->Below w.heap.size w V:=λhV=>Z.trans (hV.mono Z.size)
 have Q:Hid (∀V,Below WA.heap.size WA V->Calls prog 81 #[.slice a.aS nS a.cS] V λe w'=>e=.returned (.bool (dR k.aD))/\Below V.heap.size V w'):=λV hV=>by rw[N];exact BW k.aD a.aS a.cS V (hK.aD.below (ov hV)) hF.aD
 have ot:=ai lQ;have eB:=ai Z;rw[Dk];have bX:nS<=140737488351232:=by rw[N];exact hF.aD.1
 have cd:nF<=140737488351232:=by rw[K];exact hF.nf
 have bW:nL<=140737488351232:=by rw[G];exact hF.ns
 have c8:nP<=140737488351232:=by rw[L];exact hF.np
 by_cases hcn:lh k=true
 . have YS:=ai (agl hcn);have Zv:(3<=nF/\nF<=64)/\nL<=512/\(1<=nP/\nP<=4)/\nS<=255:=by rw[N,K,G,L];exact kr hcn
   obtain⟨⟨cb,c5⟩,c7,⟨c6,cc⟩,c9⟩:=Zv;obtain⟨A,hA⟩:=ex (sJ k);rw[<- hA] at YS ⊢;have ar:Hid (∀V i,Below WA.heap.size WA V->i<nP->∃pb po lv aa la ca ap le cp,a.aP=some (Ad pb po)/\(∀U,Below V.heap.size V U->U.cell? (Ad pb (po+i*3))=some (.bool lv)/\U.cell? (Ad pb (po+i*3+1))=some (.slice aa la ca)/\U.cell? (Ad pb (po+i*3+2))=some (.slice ap le cp))/\∀U,Below V.heap.size V U->Calls prog 90 #[.agg #[.slice a.aS nS a.cS,.slice a.aF nF a.cF,.slice a.aL nL a.cL,.slice a.aP nP a.cP,I k.hand],.agg #[.bool lv,.slice aa la ca,.slice ap le cp]] U λe w'=>e=.returned (.bool (nj k.aD k.frames.length k.slots.length (ak k.aj i)))/\Below U.heap.size U w'):=λV i hV hi=>by
    obtain⟨pb,po,e1,e2,e3⟩:=(hK.aj.below (ov hV)) ω;obtain⟨va,ap,cp,c0,c1,c2,c3,c4,_⟩:=e3 i ω;have bS:=c3;obtain⟨aa,ca,rfl,_⟩:=c3;refine⟨pb,po,_,aa,_,ca,ap,_,cp,e1,λU hU=>⟨(hU.cell (p:=(Ad pb (po+i*3))) e2).trans c0,(hU.cell (p:=(Ad pb (po+i*3+1))) e2).trans c1,(hU.cell (p:=(Ad pb (po+i*3+2))) e2).trans c2⟩,λU hU=>?_⟩;have hf:=hF.sp i ω;have:=Na k a (ak k.aj i) aa ap ca cp U (bS.below hU) hf.bu (c4.below hU) hf.bl (hK.aD.below ((ov hV).trans (hU.mono (ov hV).size))) hF.aD ω ω;rw[Dk] at this;exact this
   have aw:rO k k.aj.length=true->Hid (∀V,Below WA.heap.size WA V->Calls prog 91 #[.agg #[.slice a.aS nS a.cS,.slice a.aF nF a.cF,.slice a.aL nL a.cL,.slice a.aP nP a.cP,I k.hand]] V λe w'=>e=.returned (I (dJ k.aj))/\Below V.heap.size V w'):=λhs V hV=>by
    have:=aaI k a V (hK.aj.below (ov hV)) (Vt hs).check ω;rw[Dk] at this;exact this
   have Sr:rO k k.aj.length=true->Hid (∀V kd i,Below WA.heap.size WA V->∃nn np J q1 q2 q3 q4,gw k.aj kd i=⟨nn,np,J,⟨q1,q2,q3,q4⟩⟩/\0<=nn/\(nn≠0->q4=false->(dB k.aD np).isSome=true)/\Calls prog 92 #[.agg #[.slice a.aS nS a.cS,.slice a.aF nF a.cF,.slice a.aL nL a.cL,.slice a.aP nP a.cP,I k.hand],I kd,I i] V λe w'=>e=.returned (.tuple #[I nn,I np,.bool J,.agg #[I q1,I q2,I q3,.bool q4]])/\Below V.heap.size V w'):=λhs V kd i hV=>by
    have f:=Vt hs;have h1:=TV k a kd i V (hK.aj.below (ov hV)) f.check ω f.few;have h2:=f.ahc kd i;have h3:=f.pos kd i;rw[Dk] at h1;exact⟨_,_,_,_,_,_,_,rfl,h3,h2,h1⟩
   have bp:dR k.aD=true->Hid (∀V q1 q2 q3 q4 p,Below WA.heap.size WA V->(q4=false->(dB k.aD p).isSome=true)->Calls prog 93 #[.agg #[.slice a.aS nS a.cS,.slice a.aF nF a.cF,.slice a.aL nL a.cL,.slice a.aP nP a.cP,I k.hand],.agg #[I q1,I q2,I q3,.bool q4],I p] V λe w'=>e=.returned (.string (fM k.aD p q4))/\Below V.heap.size V w'):=λhr V q1 q2 q3 q4 p hV hz=>by
    have:=Rz k a q1 q2 q3 q4 p V (hK.aD.below (ov hV)) hF.aD hr hz;rw[Dk] at this;exact this
   have VL:Hid (∀V i,Below WA.heap.size WA V->i<nF->∃fb fo,a.aF=some (Ad fb fo)/\V.cell? (Ad fb (fo+i*4))=some (.string (aK k.frames i).data)/\V.cell? (Ad fb (fo+i*4+1))=some (I (aK k.frames i).refs)/\V.cell? (Ad fb (fo+i*4+2))=some (.bool (aK k.frames i).ja)/\V.cell? (Ad fb (fo+i*4+3))=some (.bool (aK k.frames i).seen)):=λV i hV hi=>by
    obtain⟨fb,fo,e1,e2,e3⟩:=(hK.frames.below (ov hV)) ω;have z:=e3 i ω 0 ω;rw[jt] at z;exact⟨fb,fo,e1,z,e3 i ω 1 ω,e3 i ω 2 ω,e3 i ω 3 ω⟩
   have VF:Hid (∀V i,Below WA.heap.size WA V->i<nL->∃fb fo,a.aL=some (Ad fb fo)/\V.cell? (Ad fb (fo+i*2))=some (.string (bI k.slots i).data)/\V.cell? (Ad fb (fo+i*2+1))=some (I (bI k.slots i).refs)):=λV i hV hi=>by
    obtain⟨fb,fo,e1,e2,e3⟩:=(hK.slots.below (ov hV)) ω;have z:=e3 i ω 0 ω;rw[jt] at z;exact⟨fb,fo,e1,z,e3 i ω 1 ω⟩
   have a1:=ai K;have a0:=ai G;have ad:=ai L;rw[<- K,<- G] at ar;obtain⟨k0,k1,k2,k3,k4⟩:=kj (KB.o WA (aN _ _));have Fp:Hid (∀V,Calls prog 33 #[I (nF:Int),I 3,I 64] V λe w'=>e=.returned (.bool true)/\V=w'):=λV=>by
    have:=Pz.o (nF:Int) 3 64 V;rw[dW ω] at this;exact this
   have ZB:Hid (∀V,Calls prog 33 #[I (nP:Int),I 1,I 4] V λe w'=>e=.returned (.bool true)/\V=w'):=λV=>by
    have:=Pz.o (nP:Int) 1 4 V;rw[dW ω] at this;exact this
   have aq:=ai (λV=>Pz.o k.hand 0 ((nF:Int)-1) V);obtain⟨hb,b0⟩:=ex (decide (0<=k.hand/\k.hand<=(nF:Int)-1));rw[<- b0] at aq;have ay:=ai b0;obtain⟨rs,a2⟩:=ex (dR k.aD);rw[<- a2] at Q;have Me:=ai a2;clear hK hF Z kb lQ Dk ov hcn hA b0 a2 Pz N K G L;go_enter func42,ntmps42;go_upto_region 1 with fail;rw[<- ot.o];go_upto_region 3 with(first
    | (have _:=q;go_at_call 33;refine(ZB.o _).mono ?_;rintro e w2 ⟨rfl,rfl⟩)
    | (go_at_call 33;refine(Fp.o _).mono ?_;rintro e w1 ⟨rfl,rfl⟩;have q:=trivial))
   cases rs with
   | false =>
    have e0:A=1:=YS.o.m9 Me.o.symm;subst e0;go_wp2_with (go_at_call 81;refine(Q.o _ (aN _ _)).mono ?_;rintro e w1 ⟨rfl,B⟩;have dz:=ai B;clear B);go_ret;exact⟨rfl,eB.o.trans (dz.o.mono eB.o.size)⟩
   | true =>
   have a2:dR k.aD=true:=Me.o.symm;have ae:=bp a2;have bi:=ai a2;clear a2 bp;cases hb with
   | false =>
    have e0:A=1:=YS.o.hand (by rw[<- a1.o];exact zG ay.o.symm);subst e0;go_wp2_with (first | (go_at_call 81;refine(Q.o _ (aN _ _)).mono ?_;rintro e w1 ⟨rfl,B⟩;have dz:=ai B;obtain⟨k0,k1,k2,k3,k4⟩:=kj (KB.o _ B);clear B) | (go_at_call 33;refine(aq.o _).mono ?_;rintro e w2 ⟨rfl,rfl⟩));go_ret;exact⟨rfl,eB.o.trans (dz.o.mono eB.o.size)⟩
   | true =>
   have b4:Hid (0<=k.hand/\k.hand<=(k.frames.length:Int)-1):=(show 0<=k.hand/\k.hand<=(k.frames.length:Int)-1 by rw[<- a1.o];exact kr ay.o.symm);go_upto_region 5 with(first | (go_at_call 81;refine(Q.o _ (aN _ _)).mono ?_;rintro e w1 ⟨rfl,B⟩;have dz:=ai B;obtain⟨k0,k1,k2,k3,k4⟩:=kj (KB.o _ B);clear B) | (go_at_call 33;refine(aq.o _).mono ?_;rintro e w2 ⟨rfl,rfl⟩));have av:Hid (∀i,rO k (i+1)=(rO k i&&nj k.aD nF nL (ak k.aj i))):=λ_=>by rw[a1.o,a0.o];exact(rfl:_=_)
   have Tg:Hid (∀i,i<nP->nj k.aD nF nL (ak k.aj i)=false->A=1):=λi hi h=>YS.o.sp i (by have:=ad.o;omega) (by rw[<- a1.o,<- a0.o];exact h)
   clear k0 k1 k2 k3 k4 Fp ZB aq Q ay Me;go_wp2;go_loopw [3] (λiv wq=>∃i:Nat,i<=nP/\iv=I (i:Int)/\rO k i=true/\Below WA.heap.size WA wq) (λiv _=>nP-(intOf iv).toNat)
   case atStart=>exact⟨0,ω,rfl,rfl,dz.o⟩
   case round =>
    obtain⟨i,hi,rfl,ac,NV⟩:=hrel;have F:=ai ac;have Ja:=ai NV;obtain⟨k0,k1,k2,k3,k4⟩:=kj (KB.o wr NV);by_cases hlt:i<nP
    . have bb:(i:Int)<(nP:Int):=by omega
      obtain⟨pb,po,lv,aa,la,ca,ap,le,cp,bt,M,al⟩:=ar.o wr i NV hlt;have bm:=ai (av.o i);have Uw:=ai (Tg.o i hlt);obtain⟨bv,b6⟩:=ex (nj k.aD nF nL (ak k.aj i));rw[<- b6] at al bm Uw;have yL:=iH wr;rw[bt] at al k3 KB;have am:∀x:cM wr.heap.size wr,x.world.cell? (Ad w.heap.size 0)=some (.slice a.aS nS a.cS):=λx=>aA (KB.o _ (Ja.o.trans (x.keeps.mono Ja.o.size))) 0 rfl
      have an:∀x:cM wr.heap.size wr,x.world.cell? (Ad w.heap.size 1)=some (.slice a.aF nF a.cF):=λx=>aA (KB.o _ (Ja.o.trans (x.keeps.mono Ja.o.size))) 1 rfl
      have ah:∀x:cM wr.heap.size wr,x.world.cell? (Ad w.heap.size 2)=some (.slice a.aL nL a.cL):=λx=>aA (KB.o _ (Ja.o.trans (x.keeps.mono Ja.o.size))) 2 rfl
      have a9:∀x:cM wr.heap.size wr,x.world.cell? (Ad w.heap.size 3)=some (.slice (some (Ad pb po)) nP a.cP):=λx=>aA (KB.o _ (Ja.o.trans (x.keeps.mono Ja.o.size))) 3 rfl
      have ag:∀x:cM wr.heap.size wr,x.world.cell? (Ad w.heap.size 4)=some (I k.hand):=λx=>aA (KB.o _ (Ja.o.trans (x.keeps.mono Ja.o.size))) 4 rfl
      have s0:∀x:cM wr.heap.size wr,x.world.cell? (Ad pb (po+i*3))=some (.bool lv):=λx=>(M _ x.keeps).1
      have s1:∀x:cM wr.heap.size wr,x.world.cell? (Ad pb (po+i*3+1))=some (.slice aa la ca):=λx=>(M _ x.keeps).2.1
      have s2:∀x:cM wr.heap.size wr,x.world.cell? (Ad pb (po+i*3+2))=some (.slice ap le cp):=λx=>(M _ x.keeps).2.2
      have Cu:=ai al;clear M al b6 ac NV ar av Tg aw Sr ae VL VF;go_upto_region 8 with fail;refine cB κ κ ?_
      repeat (first | go_big_quiet_step ((go_at_call 90;exact gZ _ Cu.o)) | quiet_step ((go_at_call 90;exact gZ _ Cu.o)))
      refine fL ?_;rintro _ ⟨X,rfl⟩;have mh:=ai (Ja.o.trans (X.keeps.mono Ja.o.size));clear s0 s1 s2 am an ah a9 ag yL;cases bv with
      | false =>
       have e0:A=1:=Uw.o rfl;subst e0;go_wp2;go_ret;exact⟨rfl,eB.o.trans (mh.o.mono eB.o.size)⟩
      | true =>
       have a3:Hid (rO k (i+1)=true):=(show rO k (i+1)=true by rw[bm.o,F.o];rfl);go_wp2;go_roundw
       case rel=>exact⟨i+1,ω,by go_num,a3.o,mh.o⟩
       case measure=>simp[intOf];omega
    obtain rfl:nP=i:=by omega
    have ab:rO k k.aj.length=true:=by rw[<- ad.o];exact ac
    have aY:=aw ab;have af:=Sr ab;have b9:=ai ab;have MG:=xL k.aj k.aj.length;have bP:0<=dJ k.aj/\dJ k.aj<=65025*1000000:=by
     have:=ad.o;unfold dJ;omega
    have aH:Hid (¬dJ k.aj<=(nL:Int)->A=1):=λh=>YS.o.room (by rw[<- a0.o];exact h)
    have b8:Hid (dJ k.aj<=(nL:Int)->dJ k.aj<=(k.slots.length:Int)):=λh=>by rw[<- a0.o];exact h
    obtain⟨RM,aE⟩:=ex (dJ k.aj);rw[<- aE] at aY bP aH;have b5:=ai aE;have yL:=iH wr;have am:∀x:cM wr.heap.size wr,x.world.cell? (Ad w.heap.size 0)=some (.slice a.aS nS a.cS):=λx=>aA (KB.o _ (Ja.o.trans (x.keeps.mono Ja.o.size))) 0 rfl
    have an:∀x:cM wr.heap.size wr,x.world.cell? (Ad w.heap.size 1)=some (.slice a.aF nF a.cF):=λx=>aA (KB.o _ (Ja.o.trans (x.keeps.mono Ja.o.size))) 1 rfl
    have ah:∀x:cM wr.heap.size wr,x.world.cell? (Ad w.heap.size 2)=some (.slice a.aL nL a.cL):=λx=>aA (KB.o _ (Ja.o.trans (x.keeps.mono Ja.o.size))) 2 rfl
    have a9:∀x:cM wr.heap.size wr,x.world.cell? (Ad w.heap.size 3)=some (.slice a.aP nP a.cP):=λx=>aA (KB.o _ (Ja.o.trans (x.keeps.mono Ja.o.size))) 3 rfl
    have ag:∀x:cM wr.heap.size wr,x.world.cell? (Ad w.heap.size 4)=some (I k.hand):=λx=>aA (KB.o _ (Ja.o.trans (x.keeps.mono Ja.o.size))) 4 rfl
    have aC:=ai (λV (hV:Below wr.heap.size wr V)=>aY.o V (Ja.o.trans (hV.mono Ja.o.size)));clear ab aw Sr MG aE ac NV ar av Tg aY hlt;go_upto_region 10 with fail;refine cB κ κ ?_
    repeat (first | go_big_quiet_step ((go_at_call 91;exact gZ _ aC.o)) | quiet_step ((go_at_call 91;exact gZ _ aC.o)))
    refine fL ?_;rintro _ ⟨X,rfl⟩;have mh:=ai (Ja.o.trans (X.keeps.mono Ja.o.size));clear am an ah a9 ag yL aC k0 k1 k2 k3 k4;by_cases hr:RM<=(nL:Int)
    . have bE:¬(nL:Int)<RM:=by omega
      have bn:Hid (dJ k.aj<=(k.slots.length:Int)):=b8.o (by rw[<- b5.o];exact hr);have aG:Hid (∀i:Nat,uV k (i+1)=(uV k i&&qX k.aD (aK k.frames i) (gw k.aj 1 i))):=λ_=>rfl
      have Mk:Hid (∀i:Nat,i<nF->qX k.aD (aK k.frames i) (gw k.aj 1 i)=false->A=1):=λi hi h=>YS.o.fr i (by have:=a1.o;omega) h
      clear aH b8 hr b5;go_wp2;go_loopw [4] (λiv wq=>∃i:Nat,i<=nF/\iv=I (i:Int)/\uV k i=true/\Below WA.heap.size WA wq) (λiv _=>nF-(intOf iv).toNat)
      case atStart=>exact⟨0,ω,rfl,rfl,mh.o⟩
      case round =>
       obtain⟨i,hi,rfl,Y,NV⟩:=hrel;have a8:=ai Y;have Ja:=ai NV;obtain⟨k0,k1,k2,k3,k4⟩:=kj (KB.o wr NV);by_cases hlt:i<nF
       . have bb:(i:Int)<(nF:Int):=by omega
         obtain⟨fb,fo,a6,z0,z1,z2,z3⟩:=VL.o wr i NV hlt;have F:=ai (aG.o i);have Uw:=ai (Mk.o i hlt);obtain⟨f,hf⟩:=ex (aK k.frames i);rw[<- hf] at z0 z1 z2 z3 F Uw;obtain⟨d,rf,dy,sn⟩:=f;simp only at z0 z1 z2 z3;obtain⟨W1,T⟩:=ex (wr.alloc (.cells #[.string d,I rf,.bool dy,.bool sn] 169));have B:Below wr.heap.size wr W1:=by rw[T];exact(aN _ _).alloc (aJ _) _
         have a7:W1.heap[wr.heap.size]?=some (.cells #[.string d,I rf,.bool dy,.bool sn] 169 (0,0)):=by rw[T];exact bG _ _ _
         have Tf:=NV.trans (B.mono NV.size);have jo:=ai Tf;have H0:=ai a7;have Fp:=ai T;obtain⟨nn,np,J,q1,q2,q3,q4,tR,bx,b3,M⟩:=af.o W1 1 (i:Int) Tf;rw[tR] at F Uw;have ao:=ai M;have bz:=ai b3;rw[a6] at k1;go_upto_region 16 with fail;rw[<- Fp.o];obtain⟨xb,O7⟩:=ex wr.heap.size;rw[<- O7] at H0 ⊢;clear T B a7 Tf Y NV hf tR b3 M O7 k0 k1 k2 k3 k4 z0 z1 z2 z3 a6;obtain⟨k0,k1,k2,k3,k4⟩:=kj (KB.o W1 jo.o);go_upto_region 17 with(go_at_call 92;refine ao.o.mono ?_;rintro e w2 ⟨rfl,a5⟩;have iI:=ai a5;clear a5);have R:Below W1.heap.size W1 (w2.alloc (.cells #[I q1,I q2,I q3,.bool q4] 139)):=iI.o.alloc iI.o.size _;have O:=ai (bG w2 #[I q1,I q2,I q3,.bool q4] 139);obtain⟨W3,a4⟩:=ex (w2.alloc (.cells #[I q1,I q2,I q3,.bool q4] 139));obtain⟨yb,bd⟩:=ex w2.heap.size;rw[<- a4] at R O ⊢;rw[<- bd] at O ⊢;have kE:=ai (jo.o.trans (R.mono jo.o.size));have W:=ai (aO H0.o R (aM H0.o));clear a4 bd R k0 k1 k2 k3 k4;obtain⟨BD,au⟩:=ex (!(qX k.aD ⟨d,rf,dy,sn⟩ ⟨nn,np,J,⟨q1,q2,q3,q4⟩⟩));have Tk:=ai au;have ba:Hid (qX k.aD ⟨d,rf,dy,sn⟩ ⟨nn,np,J,⟨q1,q2,q3,q4⟩⟩=!BD):=(show qX k.aD ⟨d,rf,dy,sn⟩ ⟨nn,np,J,⟨q1,q2,q3,q4⟩⟩=!BD by rw[au,Bool.not_not]);rw[ba.o] at F Uw;clear au ba;go_cut [135] (λc wx=>c=.bool BD/\Below W3.heap.size W3 wx)
         case first =>
          have yL:=iH W3;have am:∀x:cM W3.heap.size W3,x.world.cell? (Ad w.heap.size 0)=some (.slice a.aS nS a.cS):=λx=>aA (KB.o _ (kE.o.trans (x.keeps.mono kE.o.size))) 0 rfl
          have an:∀x:cM W3.heap.size W3,x.world.cell? (Ad w.heap.size 1)=some (.slice a.aF nF a.cF):=λx=>aA (KB.o _ (kE.o.trans (x.keeps.mono kE.o.size))) 1 rfl
          have ah:∀x:cM W3.heap.size W3,x.world.cell? (Ad w.heap.size 2)=some (.slice a.aL nL a.cL):=λx=>aA (KB.o _ (kE.o.trans (x.keeps.mono kE.o.size))) 2 rfl
          have a9:∀x:cM W3.heap.size W3,x.world.cell? (Ad w.heap.size 3)=some (.slice a.aP nP a.cP):=λx=>aA (KB.o _ (kE.o.trans (x.keeps.mono kE.o.size))) 3 rfl
          have ag:∀x:cM W3.heap.size W3,x.world.cell? (Ad w.heap.size 4)=some (I k.hand):=λx=>aA (KB.o _ (kE.o.trans (x.keeps.mono kE.o.size))) 4 rfl
          have x0:∀x:cM W3.heap.size W3,x.world.cell? (Ad xb 0)=some (.string d):=λx=>aA (aO W.o x.keeps (aM W.o)) 0 rfl
          have x1:∀x:cM W3.heap.size W3,x.world.cell? (Ad xb 1)=some (I rf):=λx=>aA (aO W.o x.keeps (aM W.o)) 1 rfl
          have x2:∀x:cM W3.heap.size W3,x.world.cell? (Ad xb 2)=some (.bool dy):=λx=>aA (aO W.o x.keeps (aM W.o)) 2 rfl
          have x3:∀x:cM W3.heap.size W3,x.world.cell? (Ad xb 3)=some (.bool sn):=λx=>aA (aO W.o x.keeps (aM W.o)) 3 rfl
          have y0:∀x:cM W3.heap.size W3,x.world.cell? (Ad yb 0)=some (I q1):=λx=>aA (aO O.o x.keeps (aM O.o)) 0 rfl
          have y1:∀x:cM W3.heap.size W3,x.world.cell? (Ad yb 1)=some (I q2):=λx=>aA (aO O.o x.keeps (aM O.o)) 1 rfl
          have y2:∀x:cM W3.heap.size W3,x.world.cell? (Ad yb 2)=some (I q3):=λx=>aA (aO O.o x.keeps (aM O.o)) 2 rfl
          have y3:∀x:cM W3.heap.size W3,x.world.cell? (Ad yb 3)=some (.bool q4):=λx=>aA (aO O.o x.keeps (aM O.o)) 3 rfl
          have bq:Hid (∀V,Below W3.heap.size W3 V->nn≠0->Calls prog 93 #[.agg #[.slice a.aS nS a.cS,.slice a.aF nF a.cF,.slice a.aL nL a.cL,.slice a.aP nP a.cP,I k.hand],.agg #[I q1,I q2,I q3,.bool q4],I np] V λe w'=>e=.returned (.string (fM k.aD np q4))/\Below V.heap.size V w'):=λV hV hne=>ae.o V q1 q2 q3 q4 np (kE.o.trans (hV.mono kE.o.size)) (bz.o hne)
          clear F Uw a8 af ae VL VF aG Mk YS b9 bn b4 bi a1 a0 ad;by_cases h1:rf=nn
          . have H1:=ai h1;subst h1;by_cases h2:rf=0
            . subst h2;by_cases h3:d.size=0
              . have az:d=⟨#[]⟩:=by
                 obtain⟨⟨l⟩⟩:=d;have:l.length=0:=h3;have e:=List.length_eq_zero_iff.1 this;subst e;rfl
                subst az;cases dy with
                | true =>
                 as_aux_lemma =>
                  refine cB κ κ ?_
                  repeat (first | go_big_quiet_step (fail) | quiet_step (fail))
                  refine fL ?_;intro _ y;obtain⟨x,b⟩:=y;subst b;go_wp2;go_meet;exact⟨by rw[Tk.o];simp[qX,nk] <;> rfl,x.keeps⟩
                | false =>
                 cases sn with
                 | true =>
                  as_aux_lemma =>
                   refine cB κ κ ?_
                   repeat (first | go_big_quiet_step (fail) | quiet_step (fail))
                   refine fL ?_;intro _ y;obtain⟨x,b⟩:=y;subst b;go_wp2;go_meet;exact⟨by rw[Tk.o];simp[qX,nk] <;> rfl,x.keeps⟩
                 | false =>
                  as_aux_lemma =>
                   refine cB κ κ ?_
                   repeat (first | go_big_quiet_step (fail) | quiet_step (fail))
                   refine fL ?_;intro _ y;obtain⟨x,b⟩:=y;subst b;go_wp2;go_meet;exact⟨by rw[Tk.o];simp[qX,nk] <;> rfl,x.keeps⟩
              have hd:d.toList.isEmpty=false:=by
               rw[Ea];obtain⟨⟨l⟩⟩:=d;cases l with
               | nil=>exact absurd rfl h3
               | cons x r=>rfl
              have bA:(d.toList==[])=false:=by
               cases hq:d.toList with
               | nil=>rw[hq] at hd;cases hd
               | cons x r=>rfl
              as_aux_lemma =>
               refine cB κ κ ?_
               repeat (first | go_big_quiet_step (fail) | quiet_step (fail))
               refine fL ?_;intro _ y;obtain⟨x,b⟩:=y;subst b;go_wp2;go_meet;exact⟨by rw[Tk.o];simp[qX,nk,h3],x.keeps⟩
            have b2:(rf==0)=false:=by simpa using h2
            have NP:0<rf:=by omega
            cases J with
            | false =>
             as_aux_lemma =>
              refine cB κ κ ?_
              repeat (first | go_big_quiet_step (fail) | quiet_step (fail))
              refine fL ?_;intro _ y;obtain⟨x,b⟩:=y;subst b;go_wp2;go_meet;exact⟨by rw[Tk.o];simp[qX,nk,NP],x.keeps⟩
            | true =>
             by_cases h4:d.size=16
             . have aX:((d.size:Int) != 16)=false:=by rw[h4];rfl
               cases dy with
               | true =>
                as_aux_lemma =>
                 refine cB κ κ ?_
                 repeat (first | go_big_quiet_step (fail) | quiet_step (fail))
                 refine fL ?_;intro _ y;obtain⟨x,b⟩:=y;subst b;go_wp2;go_meet;exact⟨by rw[Tk.o];simp[qX,nk,NP,h2,h4],x.keeps⟩
               | false =>
                have PF:=ai (λV hV=>bq.o V hV h2)
                as_aux_lemma =>
                 refine cB κ κ ?_
                 repeat (first | go_big_quiet_step ((go_at_call 93;exact gZ _ PF.o)) | quiet_step ((go_at_call 93;exact gZ _ PF.o)))
                 refine fL ?_;intro _ y;obtain⟨x,b⟩:=y;subst b;go_wp2;go_meet;exact⟨by rw[Tk.o];simp[qX,nk,NP,h2,h4,aaD,bne],x.keeps⟩
             have aX:((d.size:Int) != 16)=true:=by rw[Kj];omega
             as_aux_lemma =>
              refine cB κ κ ?_
              repeat (first | go_big_quiet_step (fail) | quiet_step (fail))
              refine fL ?_;intro _ y;obtain⟨x,b⟩:=y;subst b;go_wp2;go_meet;exact⟨by rw[Tk.o];simp[qX,nk,NP,h2,h4],x.keeps⟩
          have b1:(rf != nn)=true:=by simpa using h1
          as_aux_lemma =>
           refine cB κ κ ?_
           repeat (first | go_big_quiet_step (fail) | quiet_step (fail))
           refine fL ?_;intro _ y;obtain⟨x,b⟩:=y;subst b;go_wp2;go_meet;exact⟨by rw[Tk.o];simp[qX,nk,h1],x.keeps⟩
         case rest =>
          obtain⟨rfl,bL⟩:=hcut;have ZI:=ai (kE.o.trans (bL.mono kE.o.size));cases BD with
          | true =>
           have e0:A=1:=Uw.o rfl;subst e0;go_wp2;go_ret;exact⟨rfl,eB.o.trans (ZI.o.mono eB.o.size)⟩
          | false =>
           have a3:Hid (uV k (i+1)=true):=(show uV k (i+1)=true by rw[F.o,a8.o];rfl);go_wp2;go_roundw
           case rel=>exact⟨i+1,ω,by go_num,a3.o,ZI.o⟩
           case measure=>simp[intOf];omega
       obtain rfl:nF=i:=by omega
       have bs:Hid (uV k k.frames.length=true):=(show uV k k.frames.length=true by rw[<- a1.o];exact Y);have bo:Hid (∀i:Nat,uT k (i+1)=(uT k i&&uw (bI k.slots i) (gw k.aj 2 i))):=λ_=>rfl
       have YK:Hid (∀i:Nat,i<nL->uw (bI k.slots i) (gw k.aj 2 i)=false->A=1):=λi hi h=>YS.o.sl i (by have:=a0.o;omega) h
       clear aG Mk VL ae Y NV hlt;go_wp2;go_loopw [10] (λiv wq=>∃i:Nat,i<=nL/\iv=I (i:Int)/\uT k i=true/\Below WA.heap.size WA wq) (λiv _=>nL-(intOf iv).toNat)
       case atStart=>exact⟨0,ω,rfl,rfl,Ja.o⟩
       case round =>
        obtain⟨i,hi,rfl,Y,NV⟩:=hrel;have a8:=ai Y;have bF:=ai NV;obtain⟨k0,k1,k2,k3,k4⟩:=kj (KB.o wr NV);by_cases hlt:i<nL
        . have bb:(i:Int)<(nL:Int):=by omega
          obtain⟨fb,fo,a6,z0,z1⟩:=VF.o wr i NV hlt;have F:=ai (bo.o i);have Uw:=ai (YK.o i hlt);obtain⟨f,hf⟩:=ex (bI k.slots i);rw[<- hf] at z0 z1 F Uw;obtain⟨d,rf⟩:=f;simp only at z0 z1;obtain⟨W1,T⟩:=ex (wr.alloc (.cells #[.string d,I rf] 171));have B:Below wr.heap.size wr W1:=by rw[T];exact(aN _ _).alloc (aJ _) _
          have a7:W1.heap[wr.heap.size]?=some (.cells #[.string d,I rf] 171 (0,0)):=by rw[T];exact bG _ _ _
          have Tf:=NV.trans (B.mono NV.size);have jo:=ai Tf;have H0:=ai a7;have Fp:=ai T;obtain⟨nn,np,J,q1,q2,q3,q4,tR,bx,_,M⟩:=af.o W1 2 (i:Int) Tf;rw[tR] at F Uw;have ao:=ai M;rw[a6] at k2;go_upto_region 23 with fail;rw[<- Fp.o];obtain⟨xb,O7⟩:=ex wr.heap.size;rw[<- O7] at H0 ⊢;clear T B a7 Tf Y NV hf tR M O7 k0 k1 k2 k3 k4 z0 z1 a6;obtain⟨k0,k1,k2,k3,k4⟩:=kj (KB.o W1 jo.o);go_upto_region 24 with(go_at_call 92;refine ao.o.mono ?_;rintro e w2 ⟨rfl,a5⟩;have iI:=ai a5;clear a5);have R:Below W1.heap.size W1 (w2.alloc (.cells #[I q1,I q2,I q3,.bool q4] 139)):=iI.o.alloc iI.o.size _;obtain⟨W3,a4⟩:=ex (w2.alloc (.cells #[I q1,I q2,I q3,.bool q4] 139));rw[<- a4] at R ⊢;have kE:=ai (jo.o.trans (R.mono jo.o.size));obtain⟨x0,x1⟩:=s8 (aO H0.o R (aM H0.o));have yZ:Hid (uw ⟨d,rf⟩ ⟨nn,np,J,⟨q1,q2,q3,q4⟩⟩=uw ⟨d,rf⟩ ⟨nn,np,J,⟨q1,q2,q3,q4⟩⟩):=rfl;clear a4 R k0 k1 k2 k3 k4 af VF bo YK ao H0 iI;by_cases h1:rf=nn
          . subst h1;by_cases h2:rf=0
            . subst h2;by_cases h3:d.size=0
              . have az:d=⟨#[]⟩:=by
                 obtain⟨⟨l⟩⟩:=d;have:l.length=0:=h3;have e:=List.length_eq_zero_iff.1 this;subst e;rfl
                subst az;have a3:Hid (uT k (i+1)=true):=(show uT k (i+1)=true by rw[F.o,a8.o,yZ.o];simp[uw,oa] <;> rfl);go_wp2;go_roundw
                case rel=>exact⟨i+1,ω,by go_num,a3.o,kE.o⟩
                case measure=>simp[intOf];omega
              have hd:d.toList.isEmpty=false:=by
               rw[Ea];obtain⟨⟨l⟩⟩:=d;cases l with
               | nil=>exact absurd rfl h3
               | cons x r=>rfl
              have bA:(d.toList==[])=false:=by
               cases hq:d.toList with
               | nil=>rw[hq] at hd;cases hd
               | cons x r=>rfl
              have e0:=Uw.o (by rw[yZ.o];simp[uw,oa,h3]);subst e0;go_wp2;go_ret;exact⟨rfl,eB.o.trans (kE.o.mono eB.o.size)⟩
            have b2:(rf==0)=false:=by simpa using h2
            have NP:0<rf:=by omega
            cases J with
            | false =>
             have e0:=Uw.o (by rw[yZ.o];simp[uw,oa,NP]);subst e0;go_wp2;go_ret;exact⟨rfl,eB.o.trans (kE.o.mono eB.o.size)⟩
            | true =>
             by_cases h4:d.size=16
             . have aX:((d.size:Int) != 16)=false:=by rw[h4];rfl
               have a3:Hid (uT k (i+1)=true):=(show uT k (i+1)=true by rw[F.o,a8.o,yZ.o];simp[uw,oa,NP,h2,h4]);go_wp2;go_roundw
               case rel=>exact⟨i+1,ω,by go_num,a3.o,kE.o⟩
               case measure=>simp[intOf];omega
             have aX:((d.size:Int) != 16)=true:=by rw[Kj];omega
             have e0:=Uw.o (by rw[yZ.o];simp[uw,oa,NP,h2,h4]);subst e0;go_wp2;go_ret;exact⟨rfl,eB.o.trans (kE.o.mono eB.o.size)⟩
          have b1:(rf != nn)=true:=by simpa using h1
          have e0:=Uw.o (by rw[yZ.o];simp[uw,oa,h1]);subst e0;go_wp2;go_ret;exact⟨rfl,eB.o.trans (kE.o.mono eB.o.size)⟩
        obtain rfl:nL=i:=by omega
        have e0:A=0:=YS.o.yes bi.o b4.o b9.o bn.o bs.o (by rw[<- a0.o];exact Y);subst e0;go_wp2;go_ret;exact⟨rfl,eB.o.trans (bF.o.mono eB.o.size)⟩
    have bE:(nL:Int)<RM:=by omega
    have e0:A=1:=aH.o hr;subst e0;go_wp2;go_ret;exact⟨rfl,eB.o.trans (mh.o.mono eB.o.size)⟩
 have Zx:sJ k=2:=by
  unfold sJ;rw[aQ (by simpa using hcn)]
 rw[Zx];have Zv:¬((3<=nF/\nF<=64)/\nL<=512/\(1<=nP/\nP<=4)/\nS<=255):=by rw[N,K,G,L];exact λg=>hcn (dW g)
 obtain⟨k0,k1,k2,k3,k4⟩:=kj (KB.o WA (aN _ _));have Fp:=ai (λV=>Pz.o (nF:Int) 3 64 V);have ZB:=ai (λV=>Pz.o (nP:Int) 1 4 V);rcases(show ¬(3<=(nF:Int)/\(nF:Int)<=64)\/((3<=(nF:Int)/\(nF:Int)<=64)/\512<(nL:Int))\/((3<=(nF:Int)/\(nF:Int)<=64)/\¬512<(nL:Int)/\¬(1<=(nP:Int)/\(nP:Int)<=4))\/((3<=(nF:Int)/\(nF:Int)<=64)/\¬512<(nL:Int)/\(1<=(nP:Int)/\(nP:Int)<=4)/\255<(nS:Int)) by omega) with g | ⟨g,g1⟩ | ⟨g,g1,g2⟩ | ⟨g,g1,g2,g3⟩
 . rw[eH g] at Fp;clear hK hF Z kb lQ Dk ov hcn Zx Zv Pz N K G L Q;go_enter func42,ntmps42;go_upto_region 1 with fail;rw[<- ot.o];go_wp2_with (first
    | (have _:=q;go_at_call 33;refine(ZB.o _).mono ?_;rintro e w2 ⟨rfl,rfl⟩)
    | (go_at_call 33;refine(Fp.o _).mono ?_;rintro e w1 ⟨rfl,rfl⟩;have q:=trivial))
   go_ret;exact⟨rfl,eB.o⟩
 . rw[dW g] at Fp;clear hK hF Z kb lQ Dk ov hcn Zx Zv Pz N K G L Q;go_enter func42,ntmps42;go_upto_region 1 with fail;rw[<- ot.o];go_wp2_with (first
    | (have _:=q;go_at_call 33;refine(ZB.o _).mono ?_;rintro e w2 ⟨rfl,rfl⟩)
    | (go_at_call 33;refine(Fp.o _).mono ?_;rintro e w1 ⟨rfl,rfl⟩;have q:=trivial))
   go_ret;exact⟨rfl,eB.o⟩
 . rw[dW g] at Fp;rw[eH g2] at ZB;clear hK hF Z kb lQ Dk ov hcn Zx Zv Pz N K G L Q;go_enter func42,ntmps42;go_upto_region 1 with fail;rw[<- ot.o];go_wp2_with (first
    | (have _:=q;go_at_call 33;refine(ZB.o _).mono ?_;rintro e w2 ⟨rfl,rfl⟩)
    | (go_at_call 33;refine(Fp.o _).mono ?_;rintro e w1 ⟨rfl,rfl⟩;have q:=trivial))
   go_ret;exact⟨rfl,eB.o⟩
 rw[dW g] at Fp;rw[dW g2] at ZB;clear hK hF Z kb lQ Dk ov hcn Zx Zv Pz N K G L Q;go_enter func42,ntmps42;go_upto_region 1 with fail;rw[<- ot.o];go_wp2_with (first
  | (have _:=q;go_at_call 33;refine(ZB.o _).mono ?_;rintro e w2 ⟨rfl,rfl⟩)
  | (go_at_call 33;refine(Fp.o _).mono ?_;rintro e w1 ⟨rfl,rfl⟩;have q:=trivial))
 go_ret;exact⟨rfl,eB.o⟩
end Go.Proofs.YtlgoihmkgaaemaaGreat
