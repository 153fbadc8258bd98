import Derived.Test.YtlgoihmkgaaemaaGreatGP22
set_option maxHeartbeats 20000000
set_option linter.unusedVariables false
set_option maxRecDepth 100000
set_option linter.unusedSimpArgs false
namespace Go.Proofs.YtlgoihmkgaaemaaGreat
open Go.RowKit Tryz
def pU (k:aT) (sp a:Int) (d:ByteArray):aT×(Int×Int)×Int:=if jk k sp d.size 1 [1]≠0 then (gU,(0,0),jk k sp d.size 1 [1]) else if (dh (ak k.aj sp.toNat).bu a d.size 1).1≠0 then (gU,dh (ak k.aj sp.toNat).bu a d.size 1,0) else (nY k sp.toNat a d,(0,0),0)
theorem ac8 (V:World):dE iL 1 0 (V.alloc (.cells #[I 1] 3)) (some (Ad V.heap.size 0)) [1]:=λ_=>by
 have h:=bG V #[I 1] 3;refine⟨V.heap.size,0,rfl,aM h,λi hi j hj=>?_⟩;obtain rfl:j=0:=by omega
 have hi:i<1:=hi;obtain rfl:i=0:=by omega
 exact aA h 0 rfl
theorem Xl (FE:si) (k:aT) (a:gN) (sp ad:Int) (d:ByteArray) (w:World) (hK:iB w a k) (hF:kN k) (hsp:cR sp) (had:cR ad) :
  Calls prog 265 #[.agg (bj a k),I sp,I ad,.string d] w (dY w (pU k sp ad d).1 [.agg #[I (pU k sp ad d).2.1.1,I (pU k sp ad d).2.1.2],I (pU k sp ad d).2.2]):=by
 obtain⟨WA,lQ⟩:=ex (((w.alloc (.cells (bj a k) 30)).alloc (.cells #[Nl,Nl,Nl,Nl,I 0] 30)).alloc (.cells #[I 0,I 0] 75));have M:Below w.heap.size w WA:=by rw[lQ];exact(((aN _ _).alloc (aJ _) _).alloc ξ _).alloc (by simp;omega) _
 have kb:WA.heap[w.heap.size]?=some (.cells (bj a k) 30 (0,0)):=by grind [bB,bG]
 have rb:WA.heap[w.heap.size+1]?=some (.cells #[Nl,Nl,Nl,Nl,I 0] 30 (0,0)):=by
  grind [bB,bG,World.size_alloc]
 have fb:WA.heap[w.heap.size+1+1]?=some (.cells #[I 0,I 0] 75 (0,0)):=by
  grind [bG,World.size_alloc]
 have R:WA.heap.size=w.heap.size+3:=by simp_all
 obtain⟨WB,G⟩:=ex (WA.alloc (.cells #[I 1] 3));have h:Below w.heap.size w WB:=by grind [Below.alloc]
 have r:dE iL 1 0 WB (some (Ad WA.heap.size 0)) [1]:=by grind [ac8]
 have Q:WB.heap.size=w.heap.size+4:=by simp_all
 have RB:Hid (∀V,Below WB.heap.size WB V->V.heap[w.heap.size+1]?=some (.cells #[Nl,Nl,Nl,Nl,I 0] 30 (0,0))):=λV hb=>aO (by grind [bB]) hb ω
 have FB:Hid (∀V,Below WB.heap.size WB V->V.heap[w.heap.size+1+1]?=some (.cells #[I 0,I 0] 75 (0,0))):=λV hb=>aO (by grind [bB]) hb ω
 have k0:WA.cell? (Ad w.heap.size 0)=some (.slice a.aS k.aD.length a.cS):=aA kb 0 rfl;have k1:WA.cell? (Ad w.heap.size 1)=some (.slice a.aF k.frames.length a.cF):=aA kb 1 rfl;have k2:WA.cell? (Ad w.heap.size 2)=some (.slice a.aL k.slots.length a.cL):=aA kb 2 rfl;have k3:WA.cell? (Ad w.heap.size 3)=some (.slice a.aP k.aj.length a.cP):=aA kb 3 rfl;have k4:WA.cell? (Ad w.heap.size 4)=some (I k.hand):=aA kb 4 rfl;have ot:=ai lQ;have Y:=ai G;have dz:=ai h;by_cases c:jk k sp (d.size:Int) 1 [1]=0
 . obtain⟨N,hn,a5⟩:=Li c;obtain⟨hR,QF,hj,QJ⟩:=sH N;obtain⟨j,ah⟩:∃j:Nat,sp=(j:Int):=⟨sp.toNat,ω⟩;subst ah;rw[kq] at hj QJ;have zu:=ai (IE FE k a (j:Int) (d.size:Int) 1 [1] (some (Ad WA.heap.size 0)) 1 WB (hK.below h) hF hsp r ξ c);rw[show([1]:List Int).length=1 from rfl] at zu;have Vb:w.heap.size+1≠w.heap.size+1+1:=by omega
   have ag:=ai (ω:w.heap.size+1+1<WB.heap.size);by_cases hf:(dh (ak k.aj j).bu ad (d.size:Int) 1).1=0
   . obtain⟨a7,aq,a9,F⟩:=yq hn.1 hn.2 hf;have vW:eZ k j (ad/16):=by
      have:=F 0 ω ω;rw[Kk] at this;exact this
     have A:eZ k j (dH ad (d.size:Int)):=by
      have:=F ((d.size:Int)-1) ω ω;unfold dH;rw[show ad+(d.size:Int)-1=ad+((d.size:Int)-1) by omega];exact this
     have RH:=qd hR hj ad (d.size:Int) 1 vW A;have ae:=hR.c;have T:0<(bk k j ad (d.size:Int) 1).2.frames.length:=by rw[RH.kept.nf];omega
     have QK:(bk k j ad (d.size:Int) 1).1.length<=2:=by
      rw[(Cg k j ad (d.size:Int) 1).2.2];unfold oH
      grind
     have Pb:∀m,m<(bk k j ad (d.size:Int) 1).1.length->(bk k j ad (d.size:Int) 1).1.getD m 0<(bk k j ad (d.size:Int) 1).2.frames.length:=λm hm=>by
      rw[RH.kept.nf];by_cases z:dH ad (d.size:Int)=ad/16
      . have e:(bk k j ad (d.size:Int) 1).1=[(fD k j ad 1).1]:=by unfold bk;rw[aQ z]
        rw[e] at hm ⊢;have hm:m<1:=hm;obtain rfl:m=0:=by omega
        exact RH.one.2
      have e:(bk k j ad (d.size:Int) 1).1=[(fD k j ad 1).1,(kO k j ad (d.size:Int) 1).1]:=by unfold bk;rw[aH z]
      rw[e] at hm ⊢;have hm:m<2:=hm;rcases(ω:m=0\/m=1) with rfl | rfl
      . exact RH.one.2
      exact(RH.two z).2
     have ZM:∀m,m<(bk k j ad (d.size:Int) 1).1.length->(aK (bk k j ad (d.size:Int) 1).2.frames ((bk k j ad (d.size:Int) 1).1.getD m 0)).data.size<=1000:=λm hm=>by
      have hi:=Pb m hm;by_cases z:(aK (bk k j ad (d.size:Int) 1).2.frames ((bk k j ad (d.size:Int) 1).1.getD m 0)).refs=0
      . have:=(RH.right.Bt _ hi).zero ((RH.right.Bt _ hi).nil z);rw[this];show(0:Nat)<=1000;omega
      have:=(RH.right.Bt _ hi).size ((RH.right.Bt _ hi).ne z);omega
     have O:EF (fq k j) ad (d.size:Int):=⟨qg hR hj vW,qg hR hj A⟩;have a0:=Cm O hn.1 hn.2;have W:=zW O hn.1 hn.2;have NT:=yt hR hj ad (d.size:Int) 1 vW A;have am:=W;have ap:(iT (iV (bk k j ad (d.size:Int) 1).2.frames (bk k j ad (d.size:Int) 1).1 (bk k j ad (d.size:Int) 1).1.length) (ad%16).toNat d).size=(tH (fq k j) ad (d.size:Int)).size:=by
      rw[NT];exact LN _ _ _ ω
     have ab:(bk k j ad (d.size:Int) 1).1.length*16=(tH (fq k j) ad (d.size:Int)).size:=by
      rw[(Cg k j ad (d.size:Int) 1).2.2];unfold oH;split at W <;> rename_i z
      . rw[aQ z];omega
      rw[aH z];omega
     have aa:(tH (fq k j) ad (d.size:Int)).size<=32:=by omega
     have J:Hid (∀V,Calls prog 124 #[.string (iV (bk k j ad (d.size:Int) 1).2.frames (bk k j ad (d.size:Int) 1).1 (bk k j ad (d.size:Int) 1).1.length),I (((ad%16).toNat:Nat):Int),.string d] V λe w'=>e=.returned (.tuple #[.string (iT (iV (bk k j ad (d.size:Int) 1).2.frames (bk k j ad (d.size:Int) 1).1 (bk k j ad (d.size:Int) 1).1.length) (ad%16).toNat d),I 0])/\Below V.heap.size V w'):=λV=>J5 _ d (ad%16).toNat V (by rw[NT];omega) (by rw[NT];omega)
     have ar:ad.tmod 16=(((ad%16).toNat:Nat):Int):=by
      rw[aeX ω];omega
     have a1:=zR hR hj ad d hn.1 hn.2 vW A;have a6:=a1.aD;have hA:pU k (j:Int) ad d=(nY k j ad d,(0,0),0):=by
      unfold pU;rw[aH (λx=>x c),kq,aH (λx=>x hf)]
     rw[hA];have yZ:Hid (∀V S mb hs,cD k.aD hs->bO WB.heap.size mb 158 (jq k) V S (aV k hs)->Below w.heap.size w V->V.heap[w.heap.size+1]?=some (.cells #[Nl,Nl,Nl,Nl,I 0] 30 (0,0))->V.heap[w.heap.size+1+1]?=some (.cells #[I 0,I 0] 75 (0,0))->Calls prog 272 #[.pointer (some (Ad mb 0)),I (j:Int),I ad,I (d.size:Int),I 1] V λe w'=>∃av nv cv,e=.returned (.tuple #[.slice av nv cv,.agg #[I 0,I 0]])/\(∀V',Below w'.heap.size w' V'->Calls prog 273 #[.pointer (some (Ad mb 0)),.slice av nv cv] V' λe w''=>e=.returned (.string (iV (bk k j ad (d.size:Int) 1).2.frames (bk k j ad (d.size:Int) 1).1 (bk k j ad (d.size:Int) 1).1.length))/\w''=V')/\(∀V',Below w'.heap.size w' V'->Calls prog 278 #[.pointer (some (Ad mb 0)),.slice av nv cv,.string (iT (iV (bk k j ad (d.size:Int) 1).2.frames (bk k j ad (d.size:Int) 1).1 (bk k j ad (d.size:Int) 1).1.length) (ad%16).toNat d)] V' λe w''=>∃aS nS cS aF nF cF aL nL cL aP nP cP hd,e=.returned (.tuple #[])/\w''.cell? (Ad mb 0)=some (.slice aS nS cS)/\w''.cell? (Ad mb 1)=some (.slice aF nF cF)/\w''.cell? (Ad mb 2)=some (.slice aL nL cL)/\w''.cell? (Ad mb 3)=some (.slice aP nP cP)/\w''.cell? (Ad mb 4)=some (I hd)/\w''.heap[w.heap.size+1]?=some (.cells #[Nl,Nl,Nl,Nl,I 0] 30 (0,0))/\w''.heap[w.heap.size+1+1]?=some (.cells #[I 0,I 0] 75 (0,0))/\(∀U,aI (λb=>b=w.heap.size+1\/b=w.heap.size+1+1) w'' U->dY w (nY k j ad d) [.agg #[I 0,I 0],I 0] (.returned (.tuple #[.agg #[.slice aS nS cS,.slice aF nF cF,.slice aL nL cL,.slice aP nP cP,I hd],.agg #[I 0,I 0],I 0])) U))):=λV S mb hs hsame hV hbV hrV hfV=>by
      have an:=hR.Al hsame;refine(IH (aV k hs) S V j ad (d.size:Int) 1 hV an hj had hn hf (N9 hR.m9 hsame)).mono λe w' ⟨av,cv,S',e1,Ao,hk',hc'⟩=>?_
      rw[tE hR hj vW hsame] at hk' e1 Ao;have O9:∀b,b<WB.heap.size->S.lab b=.no:=λb hb=>BC.1 λx=>by have:=(hV.vD b x).1;omega
      have QN:=ag.o;have X:Below w.heap.size w w':=aI.below hbV hc'.kp hbV.size (λb hb=>by have:=(hV.vD b hb).1;omega);have Te:w.heap.size+1<w'.heap.size:=gm (aM hrV) hc'.kp.size;have a8:w.heap.size+1+1<w'.heap.size:=gm (aM hfV) hc'.kp.size;have uv:S'.lab (w.heap.size+1)=.no:=hc'.no _ (aM hrV) (O9 _ ω);have xE:S'.lab (w.heap.size+1+1)=.no:=hc'.no _ (aM hfV) (O9 _ QN);have ac:=hc'.keep hrV (O9 _ ω);have al:=hc'.keep hfV (O9 _ QN);refine⟨av,_,cv,e1,λV' hb'=>?_,λV' hb'=>?_⟩
      . exact Oc (aV (bk k j ad (d.size:Int) 1).2 hs) S' V' (bk k j ad (d.size:Int) 1).1 av cv (hk'.below hb') (Ao.ch (cU.below hb')) (λm hm=>Pb m hm) QK (λm hm=>ZM m hm) T
      refine(aas (aV (bk k j ad (d.size:Int) 1).2 hs) S' V' (bk k j ad (d.size:Int) 1).1 (iT (iV (bk k j ad (d.size:Int) 1).2.frames (bk k j ad (d.size:Int) 1).1 (bk k j ad (d.size:Int) 1).1.length) (ad%16).toNat d) av cv (hk'.below hb') (Ao.ch (cU.below hb')) (λm hm=>Pb m hm) QK ω ω T).mono λe w'' ⟨e2,hk2,hc2⟩=>?_
      rw[CT] at hk2;have q:bO WB.heap.size mb 158 (jq k) w'' S' (aV (nY k j ad d) hs):=hk2;clear hk2;obtain⟨aS,cS,eS,_⟩:=bh q.aD;obtain⟨aF,cF,eF,_⟩:=bh q.frames;obtain⟨aL,cL,eL,_⟩:=bh q.slots;obtain⟨aP,cP,eP,_⟩:=bh q.aj;have c0:=q.c0;have c1:=q.c1;have c2:=q.c2;have c3:=q.c3;rw[eS] at c0;rw[eF] at c1;rw[eL] at c2;rw[eP] at c3;have a4:Below w.heap.size w w'':=aI.below (X.trans (hb'.mono X.size)) hc2.kp (gj X.size hb'.size) (λb hb=>by have:=(hk'.vD b hb).1;omega);refine⟨aS,_,cS,aF,_,cF,aL,_,cL,aP,_,cP,_,e2,c0,c1,c2,c3,q.c4,hc2.keep (aO ac hb' Te) uv,hc2.keep (aO al hb' a8) xE,λU hU=>⟨S',hs,by rw[a6];omega,by rw[eS,eF,eL,eP];rfl,?_,?_⟩⟩
      . exact(q.toKr.kp hU (λb hb e=>hb (by rcases e with e | e <;> rw[e] <;> first | exact uv | exact xE))).mono ω
      exact aI.below a4 hU a4.size (λb e=>ω)
     obtain⟨P,hP⟩:=ex (dY w (nY k j ad d) [.agg #[I 0,I 0],I 0]);rw[<- hP] at yZ;generalize (iT (iV (bk k j ad (d.size:Int) 1).2.frames (bk k j ad (d.size:Int) 1).1 (bk k j ad (d.size:Int) 1).1.length) (ad%16).toNat d)=LD at yZ J;generalize (iV (bk k j ad (d.size:Int) 1).2.frames (bk k j ad (d.size:Int) 1).1 (bk k j ad (d.size:Int) 1).1.length)=JD at yZ J;generalize (ad%16).toNat=md at J ar;show Calls _ _ _ _ (dY w (nY k j ad d) [.agg #[I 0,I 0],I 0]);rw[<- hP];have Sp:Hid (Calls prog 271 #[.agg (bj a k),I (j:Int),I (d.size:Int),I 1,.slice (some (Ad WA.heap.size 0)) 1 1] WB λe w'=>∃mb S hs,e=.returned (.tuple #[.pointer (some (Ad mb 0)),I 0])/\cD k.aD hs/\bO WB.heap.size mb 158 (jq k) w' S (aV k hs)/\Below WB.heap.size WB w'):=zu.o;unfold bj at Sp ot ⊢;clear hK hF hsp had hA c hP lQ G M h kb rb fb r R Q zu hf a7 aq a9 F vW A hR N hn a5 hj QJ QF RH ae T QK Pb ZM O a0 W am NT ap ab aa a1 a6;go_enter func265,ntmps265;go_upto_region 1 with fail;rw[<- ot.o];go_upto_region 7 with(first
      | (go_at_call 271;rw[<- Y.o];refine Sp.o.mono ?_;rintro e w1 ⟨mb,S1,af,rfl,y,B,h⟩;have iI:=ai (dz.o.trans (h.mono dz.o.size));have R1:=ai (RB.o _ h);have F1:=ai (FB.o _ h);have Dg:=ai B;have ZE:=ai y;clear h B y)
      | (go_at_call 272;refine(yZ.o _ _ _ _ ZE.o Dg.o iI.o R1.o F1.o).mono ?_;rintro e w2 ⟨av,nv,cv,rfl,a2,a3⟩;have au:=ai a2;have ao:=ai a3;clear a2 a3;have X2:=ai (bG w2 #[I 0,I 0] 75);obtain⟨x0,x1⟩:=s8 X2.o))
     have HA:=ai ((aN w2.heap.size w2).alloc (aJ _) (.cells #[I 0,I 0] 75));generalize w2.alloc (.cells #[I 0,I 0] 75)=W3 at HA ⊢;clear x0 x1 X2;go_wp2_with (first
      | (go_at_call 273;refine(au.o _ HA.o).mono ?_;rintro e w4 ⟨rfl,rfl⟩)
      | (go_at_call 124;refine(J.o _).mono ?_;rintro e w5 ⟨rfl,Hp⟩;have J0:=ai (HA.o.trans (Hp.mono HA.o.size));clear Hp)
      | (go_at_call 278;refine(ao.o _ J0.o).mono ?_;rintro e w6 ⟨aS,nS,cS,aF,nF,cF,aL,nL,cL,aP,nP,cP,hd,rfl,p0,p1,p2,p3,p4,r6,f6,L⟩;have R6:=ai r6;have F6:=ai f6;have Dh:=ai L;clear r6 f6 L;obtain⟨y0,y1,y2,y3,y4⟩:=kj R6.o;obtain⟨z0,z1⟩:=s8 F6.o;have f0:=br R6.o 0;have f1:=br R6.o 1;have f2:=br R6.o 2;have f3:=br R6.o 3;have f4:=br R6.o 4;have g0:=br F6.o 0;have g1:=br F6.o 1))
     have h7:=ai (λV=>En R6.o F6.o Vb (.slice aS nS cS) (.slice aF nF cF) (.slice aL nL cL) (.slice aP nP cP) (I hd) (I 0) (I 0) (V:=V));obtain⟨q1,q2,q3⟩:=h7.out _ rfl;obtain⟨y0,y1,y2,y3,y4⟩:=kj q1;obtain⟨z0,z1⟩:=s8 q2;refine bW (v:=.tuple #[.agg #[.slice aS nS cS,.slice aF nF cF,.slice aL nL cL,.slice aP nP cP,I hd],.agg #[I 0,I 0],I 0]) (by simp[results,results265,go_sem,y0,y1,y2,y3,y4,z0,z1]) rfl ?_;exact Dh.o _ q3
   have hA:pU k (j:Int) ad d=(gU,dh (ak k.aj j).bu ad (d.size:Int) 1,0):=by
    unfold pU
    grind
   rw[hA];obtain⟨FA,Z⟩:=ex (dh (ak k.aj j).bu ad (d.size:Int) 1);have yZ:Hid (∀V S mb hs,cD k.aD hs->bO WB.heap.size mb 158 (jq k) V S (aV k hs)->Calls prog 272 #[.pointer (some (Ad mb 0)),I (j:Int),I ad,I (d.size:Int),I 1] V λe w'=>e=.returned (.tuple #[Nl,.agg #[I FA.1,I FA.2]])/\Below V.heap.size V w'):=λV S mb hs hsame hV=>by
    rw[Z];exact Gb (aV k hs) S V j ad (d.size:Int) 1 hV (hR.Al hsame) hj had hn hf
   rw[<- Z] at hf ⊢;have Zu:(FA.1 != 0)=true:=by grind
   have Sp:Hid (Calls prog 271 #[.agg (bj a k),I (j:Int),I (d.size:Int),I 1,.slice (some (Ad WA.heap.size 0)) 1 1] WB λe w'=>∃mb S hs,e=.returned (.tuple #[.pointer (some (Ad mb 0)),I 0])/\cD k.aD hs/\bO WB.heap.size mb 158 (jq k) w' S (aV k hs)/\Below WB.heap.size WB w'):=zu.o;obtain⟨f0,f1⟩:=FA;simp only at yZ Zu ⊢;have eW:Hid (∀V,Below w.heap.size w V->dY w gU [.agg #[I f0,I f1],I 0] (.returned (.tuple #[.agg #[Nl,Nl,Nl,Nl,I 0],.agg #[I f0,I f1],I 0])) V):=λV hV=>vM _ hV
   generalize dY w gU [.agg #[I f0,I f1],I 0]=P at eW ⊢;unfold bj at Sp ot ⊢;clear hK hF hsp had hA c lQ G M h kb rb fb r R Q zu hf hR N hn a5 hj QJ QF Z;go_enter func265,ntmps265;go_upto_region 1 with fail;rw[<- ot.o];go_upto_region 6 with(first
    | (go_at_call 271;rw[<- Y.o];refine Sp.o.mono ?_;rintro e w1 ⟨mb,S1,af,rfl,y,B,h⟩;have iI:=ai (dz.o.trans (h.mono dz.o.size));have R1:=ai (RB.o _ h);have F1:=ai (FB.o _ h);have Dg:=ai B;have ZE:=ai y;clear h B y)
    | (go_at_call 272;refine(yZ.o _ _ _ _ ZE.o Dg.o).mono ?_;rintro e w2 ⟨rfl,K⟩;have R2:=ai (aO R1.o K (aM R1.o));have F2:=ai (aO F1.o K (aM F1.o));have kE:=ai (iI.o.trans (K.mono iI.o.size));have X2:=ai (bG w2 #[I f0,I f1] 75);obtain⟨x0,x1⟩:=s8 X2.o;clear K))
   have R3:=ai (bB R2.o (.cells #[I f0,I f1] 75));have F3:=ai (bB F2.o (.cells #[I f0,I f1] 75));have vX:=ai (kE.o.alloc kE.o.size (.cells #[I f0,I f1] 75));have aw:=aM F2.o;generalize w2.alloc (.cells #[I f0,I f1] 75)=W3 at R3 F3 vX x0 x1 ⊢;obtain⟨y0,y1,y2,y3,y4⟩:=kj R3.o;obtain⟨z0,z1⟩:=s8 F3.o;have e0:=br R3.o 0;have e1:=br R3.o 1;have e2:=br R3.o 2;have e3:=br R3.o 3;have e4:=br R3.o 4;have g0:=br F3.o 0;have g1:=br F3.o 1;have h7:=ai (λV=>En R3.o F3.o Vb Nl Nl Nl Nl (I 0) (I f0) (I f1) (V:=V));go_region;go_wp2;obtain⟨q1,q2,q3⟩:=h7.out _ rfl;obtain⟨y0,y1,y2,y3,y4⟩:=kj q1;obtain⟨z0,z1⟩:=s8 q2;refine bW (v:=.tuple #[.agg #[Nl,Nl,Nl,Nl,I 0],.agg #[I f0,I f1],I 0]) (by simp[results,results265,go_sem,y0,y1,y2,y3,y4,z0,z1]) rfl ?_;exact eW.o _ (aI.below vX.o (q3.trans (aI.drew _ _) (λ_ _ g=>g)) vX.o.size (λb e=>ω))
 have hA:pU k sp ad d=(gU,(0,0),jk k sp (d.size:Int) 1 [1]):=by unfold pU;grind
 rw[hA];have zu:=ai (Ga k a sp (d.size:Int) 1 [1] (some (Ad WA.heap.size 0)) 1 WB (hK.below h) hF hsp r ξ c);rw[show([1]:List Int).length=1 from rfl] at zu;generalize jk k sp (d.size:Int) 1 [1]=C at zu c ⊢;have cb:(C != 0)=true:=by grind
 have eW:Hid (∀V,Below w.heap.size w V->dY w gU [.agg #[I 0,I 0],I C] (.returned (.tuple #[.agg #[Nl,Nl,Nl,Nl,I 0],.agg #[I 0,I 0],I C])) V):=λV hV=>vM _ hV
 generalize dY w gU [.agg #[I 0,I 0],I C]=P at eW ⊢;unfold bj at zu ot ⊢;clear hK hF hsp had hA c lQ G M h kb rb fb r R Q;go_enter func265,ntmps265;go_upto_region 1 with fail;rw[<- ot.o];go_upto_region 3 with(go_at_call 271;rw[<- Y.o];refine zu.o.mono ?_;rintro e w1 ⟨rfl,h⟩;have iI:=ai (dz.o.trans (h.mono dz.o.size));have R1:=ai (RB.o _ h);have F1:=ai (FB.o _ h);clear h);obtain⟨y0,y1,y2,y3,y4⟩:=kj R1.o;obtain⟨z0,z1⟩:=s8 F1.o;have f0:=br R1.o 0;have f1:=br R1.o 1;have f2:=br R1.o 2;have f3:=br R1.o 3;have f4:=br R1.o 4;have g0:=br F1.o 0;have g1:=br F1.o 1;have h7:=ai (λV=>En R1.o F1.o ω Nl Nl Nl Nl (I 0) (I 0) (I 0) (V:=V));go_wp2;obtain⟨q1,q2,q3⟩:=h7.out _ rfl;obtain⟨y0,y1,y2,y3,y4⟩:=kj q1;obtain⟨z0,z1⟩:=s8 q2;refine bW (v:=.tuple #[.agg #[Nl,Nl,Nl,Nl,I 0],.agg #[I 0,I 0],I C]) (by simp[results,results265,go_sem,y0,y1,y2,y3,y4,z0,z1]) rfl ?_;exact eW.o _ (aI.below iI.o q3 iI.o.size (λb e=>ω))
theorem Sa {k:aT} (h:bg k) {hs:List bD} (s:cD k.aD hs):dD (aV k hs)=0:=(wV _).2 (h.Al s)
theorem Xm (w:World) (C:Array Value) (t:TypeId):∃WA,(w.alloc (.cells C t)).alloc (.cells #[Nl,Nl,Nl,Nl,I 0] 30)=WA/\Below w.heap.size w WA/\WA.heap[w.heap.size]?=some (.cells C t (0,0))/\w.heap.size+1<WA.heap.size/\∀V,Below WA.heap.size WA V->V.heap[w.heap.size+1]?=some (.cells #[Nl,Nl,Nl,Nl,I 0] 30 (0,0)):=by
 have rb:((w.alloc (.cells C t)).alloc (.cells #[Nl,Nl,Nl,Nl,I 0] 30)).heap[w.heap.size+1]?=some (.cells #[Nl,Nl,Nl,Nl,I 0] 30 (0,0)):=by grind [bG,World.size_alloc]
 exact⟨_,rfl,by simp[aN,pG],by grind [bB,bG],aM rb,λV hb=>aO rb hb (aM rb)⟩
theorem Rl (FE:si) {k:aT} {a:gN} {w WA:World} (hK:iB w a k) (hF:kN k) (hR:bg k) (hb0:Below w.heap.size w WA) (V:World) (mb:Nat) (hV:Below WA.heap.size WA V) (vW:WA.heap.size<=mb) (hm2:V.heap[mb]?=some (.cells (tY a k) 158 (0,0))) :
  Calls prog 267 #[.pointer (some (Ad mb 0))] V λe w'=>e=.returned (.tuple #[])/\∃S hs,cD k.aD hs/\bO WA.heap.size mb 158 (jq k) w' S (aV k hs)/\(∀b,S.lab b≠.no->b=mb\/V.heap.size<=b)/\aI (λb=>b=mb) V w'/\Below WA.heap.size WA w' :=
 (Rp FE k a mb V (hK.below (hb0.trans (hV.mono hb0.size))) (AA hR hF) hm2 WA.heap.size vW).mono λe w' ⟨h1,S,hs,h2,h3,h4,h5⟩=>⟨h1,S,hs,h2,h3,h4,h5,aI.below hV h5 hV.size (λb e=>ω)⟩
def anB (D:Nat->Prop) (w W:World) (mb:Nat) (k':aT):Prop:=∃aS nS cS aF nF cF aL nL cL aP cP hd,(W.cell? (Ad mb 0)=some (.slice aS nS cS)/\W.cell? (Ad mb 1)=some (.slice aF nF cF)/\W.cell? (Ad mb 2)=some (.slice aL nL cL)/\W.cell? (Ad mb 3)=some (.slice aP k'.aj.length cP)/\W.cell? (Ad mb 4)=some (I hd))/\∀vs U,aI D W U->dY w k' vs (.returned (.tuple (Value.agg #[.slice aS nS cS,.slice aF nF cF,.slice aL nL cL,.slice aP k'.aj.length cP,I hd]::vs).toArray)) U
variable {W:World} (l:List aU) (ao:Option Addr) (n cap:Nat) (page aY:Int)
theorem JG {w WA:World} {mb:Nat} {S:gv} {k k':aT} {hs:List bD} {X:List Value} (h:bO WA.heap.size mb 158 X W S (aV k' hs)) (hs1:cD k.aD hs) (e:k'.aD=k.aD) (hb0:Below w.heap.size w WA) (hbl:Below WA.heap.size WA W) {D:Nat->Prop} (hD:∀b,D b->w.heap.size<=b/\b<WA.heap.size) :
  anB D w W mb k':=by
 obtain⟨aS,cS,eS,_⟩:=bh h.aD;obtain⟨aF,cF,eF,_⟩:=bh h.frames;obtain⟨aL,cL,eL,_⟩:=bh h.slots;obtain⟨aP,cP,eP,_⟩:=bh h.aj;rw[h.len] at eP;change S.vP=.slice aP k'.aj.length cP at eP;have ov:Below w.heap.size w W:=hb0.trans (hbl.mono hb0.size);refine⟨aS,_,cS,aF,_,cF,aL,_,cL,aP,cP,_,⟨eS ▸ h.c0,eF ▸ h.c1,eL ▸ h.c2,eP ▸ h.c3,h.c4⟩,λvs U hU=>⟨S,hs,e ▸ hs1,by rw[eS,eF,eL,eP];rfl,(h.toKr.kp hU (λb hb g=>?_)).mono hb0.size,aI.below ov hU ov.size (λb g=>(hD b g).1)⟩⟩;have:=(h.vD b hb).1;have:=hD b g;omega
theorem Eo {rb:Nat} (hr:W.heap[rb]?=some (.cells #[Nl,Nl,Nl,Nl,I 0] 30 (0,0))) (s f l p h:Value) {V:World} (hV:V=((((W.setCell (Ad rb 0) s).setCell (Ad rb 1) f).setCell (Ad rb 2) l).setCell (Ad rb 3) p).setCell (Ad rb 4) h) :
  V.heap[rb]?=some (.cells #[s,f,l,p,h] 30 (0,0))/\aI (λb=>b=rb) W V:=by
 subst hV;refine⟨dm (dm (dm (dm (dm hr 0 s) 1 f) 2 l) 3 p) 4 h,?_⟩;have k:∀(A:World) (j:Nat) (v:Value),aI (λb=>b=rb) A (A.setCell (Ad rb j) v):=λA j v=>aI.set _ A (Ad rb j) v rfl
 exact((((k _ _ _).trans (k _ _ _) (λ_ _ g=>g)).trans (k _ _ _) (λ_ _ g=>g)).trans (k _ _ _) (λ_ _ g=>g)).trans (k _ _ _) (λ_ _ g=>g)
theorem Qz {fn:Func} {R:Ending->World->Prop} {a:Act} {rb:Nat} {s f l p h v:Value} (hr:W.heap[rb]?=some (.cells #[Nl,Nl,Nl,Nl,I 0] 30 (0,0)))
  (hfin:∀U,aI (λb=>b=rb) W U->R (.returned v) U) {V:World} (hV:V=((((W.setCell (Ad rb 0) s).setCell (Ad rb 1) f).setCell (Ad rb 2) l).setCell (Ad rb 3) p).setCell (Ad rb 4) h\/V=(((((W.setCell (Ad rb 0) s).setCell (Ad rb 1) f).setCell (Ad rb 2) l).setCell (Ad rb 3) p).setCell (Ad rb 4) h).drew:=by first | with_reducible exact .inl rfl | with_reducible exact .inr rfl)
  (hres:V.cell? (Ad rb 0)=some s/\V.cell? (Ad rb 1)=some f/\V.cell? (Ad rb 2)=some l/\V.cell? (Ad rb 3)=some p/\V.cell? (Ad rb 4)=some h->(results fn a.tmps).run prog V=.ok v V:=by(rintro⟨y0,y1,y2,y3,y4⟩;simp[results,results260,results261,results274,results30,go_sem,y0,y1,y2,y3,y4])) (hd:a.defers=[]:=by rfl):bodyPost prog fn R .ret a V:=by
 obtain⟨h1,h2⟩:=Eo hr s f l p h rfl;rcases hV with rfl | rfl
 . exact bW (hres (kj h1)) hd (hfin _ h2)
 exact bW (hres (kj (aO h1 (aN _ _).drew (aM h1)))) hd (hfin _ (h2.trans (aI.drew _ _) (λ_ _ g=>g)))
theorem Az {w:World} {vs:List Value} {fn:Func} {a:Act} {s f l p h:Value} (hr:W.heap[w.heap.size+1]?=some (.cells #[Nl,Nl,Nl,Nl,I 0] 30 (0,0))) (hb:Below w.heap.size w W)
  {V:World} (hV:V=((((W.setCell (Ad (w.heap.size+1) 0) s).setCell (Ad (w.heap.size+1) 1) f).setCell (Ad (w.heap.size+1) 2) l).setCell (Ad (w.heap.size+1) 3) p).setCell (Ad (w.heap.size+1) 4) h\/V=(((((W.setCell (Ad (w.heap.size+1) 0) s).setCell (Ad (w.heap.size+1) 1) f).setCell (Ad (w.heap.size+1) 2) l).setCell (Ad (w.heap.size+1) 3) p).setCell (Ad (w.heap.size+1) 4) h).drew:=by first | with_reducible exact .inl rfl | with_reducible exact .inr rfl)
  (hres:V.cell? (Ad (w.heap.size+1) 0)=some s/\V.cell? (Ad (w.heap.size+1) 1)=some f/\V.cell? (Ad (w.heap.size+1) 2)=some l/\V.cell? (Ad (w.heap.size+1) 3)=some p/\V.cell? (Ad (w.heap.size+1) 4)=some h->(results fn a.tmps).run prog V=.ok (.tuple (Value.agg #[Nl,Nl,Nl,Nl,I 0]::vs).toArray) V:=by(rintro⟨y0,y1,y2,y3,y4⟩;simp[results,results260,results261,results274,results30,go_sem,y0,y1,y2,y3,y4])) (hd:a.defers=[]:=by rfl):bodyPost prog fn (dY w gU vs) .ret a V :=
 Qz hr (λU hU=>vM vs (aI.below hb hU hb.size (λb e=>ω))) hV hres hd
def uH (k:aT) (sp:Int):aT×Int:=if fR k sp≠0 then (gU,fR k sp) else (ql k sp.toNat,0)
theorem Xn (e:bK) (w:World):Calls prog 269 #[.agg #[I e.page,I e.kind,I e.loc]] w λr w'=>r=.returned (.bool true)/\Below w.heap.size w w':=by
 go_enter func269,ntmps269;go_wp2;go_ret;simp[aN,pG]
theorem aar (FE:si) (k:aT) (a:gN) (sp:Int) (w:World) (hK:iB w a k) (hF:kN k) (hsp:cR sp) :
  Calls prog 260 #[.agg (bj a k),I sp] w (dY w (uH k sp).1 [I (uH k sp).2]):=by
 obtain⟨WA,lQ,F,kb,Y,rb⟩:=Xm w (bj a k) 30;obtain⟨k0,k1,k2,k3,k4⟩:=kj kb;have ot:=ai lQ;have eB:=ai F;have RB:=ai rb;have G:=yP k a sp WA (hK.below F) hF hsp;generalize hP:dY w (uH k sp).1 [I (uH k sp).2]=P;by_cases c:fR k sp=0
 . obtain⟨hR,QF,hj,_⟩:=sH c;obtain⟨j,rfl⟩:∃j:Nat,sp=(j:Int):=⟨sp.toNat,ω⟩;rw[show uH k (j:Int)=(ql k j,0) by grind [uH]] at hP;have HP:=ai hP;rw[kq] at hj;have HJ:=ai hj;have U:Hid ((ql k j).aD=k.aD):=(pB k j (λ_=>true)).1;have W:=ai (Rl FE hK hF hR F);have zu:=ai (AB G c);have R:Hid (∀V S mb hs,cD k.aD hs->bO WA.heap.size mb 158 (jq k) V S (aV k hs)->Calls prog 268 #[.pointer (some (Ad mb 0)),I (j:Int),.func (.func 269) #[] #[]] V (fP WA.heap.size mb 158 (jq k) V S (.tuple #[]) (aV (dn k j (λ_=>true)) hs))):=λV S mb hs hsame hV=>by
    rw[<- uW];exact CP 269 [] 0 (.inr (.inr ⟨rfl,rfl⟩)) (aV k hs) S V j (λ_=>true) hV (hR.Al hsame) hj (λV' e _=>Xn e V')
   unfold bj at zu ot ⊢;clear hK hF hsp c hP lQ F kb rb G hR hj QF FE;go_enter func260,ntmps260;go_upto_region 1 with fail;rw[ot.o];go_upto_region 6 with(first
    | (go_at_call 76;refine zu.o.mono ?_;rintro e w1 ⟨mb,rfl,h⟩;have H1:=ai h;clear h)
    | (go_at_call 267;refine(W.o _ _ H1.o.2.2 H1.o.1 H1.o.2.1).mono ?_;rintro e w2 ⟨rfl,S,hs,h⟩;have H2:=ai h;clear h)
    | (go_at_call 268;refine(R.o _ _ _ _ H2.o.1 H2.o.2.1).mono ?_;rintro e w3 ⟨rfl,S',h⟩;have H3:=ai h;clear h))
   obtain⟨Q,mL,_,_,K⟩:=H2.o;obtain⟨B,O⟩:=H3.o;have r:j<(aV (dn k j (λ_=>true)) hs).aj.length:=by
    show j<(dn k j (λ_=>true)).aj.length;rw[iW,gX];exact HJ.o
   obtain⟨pb,cP,A⟩:=B.toKr.sp ω;have hz:=B.zero r A.v;have L:Below WA.heap.size WA w3:=aI.below K O.kp K.size (λb hb=>(mL.vD b hb).1);have M:=aI.below L hz.2.kp L.size (λb hb=>(B.vD b hb).1);obtain⟨aS,nS,cS,aF,nF,cF,aL,nL,cL,aP,X,hd,q,J⟩:=JG (k':=ql k j) (D:=λb=>b=w.heap.size+1) hz.1 Q U.o eB.o M (λb e=>ω);have Dh:=ai J;have R3:=ai (RB.o _ M);have HQ:=ai q;have c3:=B.c3;rw[A.v] at c3;have T:(j:Int)<((aV (dn k j (λ_=>true)) hs).aj.length:Int):=by omega
   have x0:=A.x0 j r;have x1:=A.x1 j r;have x2:=A.x2 j r;have fz:=A.fz;generalize (aV (dn k j (λ_=>true)) hs).aj.length=N at c3 T;clear Q mL K B O r A hz L M J q;go_upto_region 7 with fail;generalize (((w3.setCell (Ad pb (j*3)) (.bool false)).setCell (Ad pb (j*3+1)) Nl).setCell (Ad pb (j*3+2)) Nl)=W3 at R3 Dh HQ ⊢;clear x0 x1 x2 fz c3;have q:=HQ.o;have y:=kj R3.o;have f:=br R3.o;go_wp2;obtain rfl:=HP.o;exact Qz R3.o (Dh.o _)
 rw[show uH k sp=(gU,fR k sp) by grind [uH]] at hP;have HP:=ai hP;have zu:=ai (Cf G c);generalize fR k sp=C at zu HP c;have cb:(C != 0)=true:=by grind
 unfold bj at zu ot ⊢;clear hK hF hsp c hP lQ F kb rb G FE;go_enter func260,ntmps260;go_upto_region 1 with fail;rw[ot.o];go_upto_region 3 with(go_at_call 76;refine zu.o.mono ?_;rintro e w1 ⟨rfl,h⟩;have R1:=ai (RB.o _ h);have vX:=ai (eB.o.trans (h.mono eB.o.size));clear h);have y:=kj R1.o;have f:=br R1.o;go_wp2;obtain rfl:=HP.o;exact Az R1.o vX.o
theorem aao (q:Int) (x y z:Nat) (w:World) (h:eN w (.slice ao n cap) l) (hf:dG l) (hp:cR page) (hn:cR aY) (hx:w.cell? (Ad x 0)=some (I page)) (hy:w.cell? (Ad y 0)=some (I aY)) (hz:w.cell? (Ad z 0)=some (I q)) :
  Calls prog 275 #[.slice ao n cap,.pointer (some (Ad x 0)),.pointer (some (Ad y 0)),.pointer (some (Ad z 0))] w λe w'=>∃ar nr cr,e=.returned (.tuple #[.slice ar nr cr,I (jz l page aY q).2])/\eO w.heap.size w' (.slice ar nr cr) (jz l page aY q).1/\Below w.heap.size w w':=by
 have HM:Hid (Calls prog 115 #[.slice ao n cap,I page,I aY,I q] w λe w'=>∃ar nr cr,e=.returned (.tuple #[.slice ar nr cr,I (jz l page aY q).2])/\eO w.heap.size w' (.slice ar nr cr) (jz l page aY q).1/\Below w.heap.size w w'):=(SU l (.slice ao n cap) page aY q w h hf hp hn).mono λe w' ⟨r,h1,h2,h3⟩=>by
  obtain⟨ar,cr,er,_⟩:=bh h2
  grind
 clear h hf hp hn;go_enter func275,ntmps275;go_wp2_with (go_at_call 115;refine HM.o.mono ?_;rintro e w1 ⟨ar,nr,cr,rfl,h2,h3⟩;have H2:=ai h2;have H3:=ai h3;clear h2 h3);refine bW (v:=.tuple #[.slice ar nr cr,I (jz l page aY q).2]) (by simp[results]) rfl ?_
 grind [Hid.o]
theorem TL (x y:Nat) (w:World) (h:eN w (.slice ao n cap) l) (hf:dG l) (hp:cR page) (hn:cR aY) (hx:w.cell? (Ad x 0)=some (I page)) (hy:w.cell? (Ad y 0)=some (I aY)) :
  Calls prog 279 #[.slice ao n cap,.pointer (some (Ad x 0)),.pointer (some (Ad y 0))] w λe w'=>∃ar nr cr,e=.returned (.tuple #[.slice ar nr cr,I (gL l page aY).2])/\eO w.heap.size w' (.slice ar nr cr) (gL l page aY).1/\Below w.heap.size w w':=by
 have HM:Hid (Calls prog 280 #[.slice ao n cap,I page,I aY] w λe w'=>∃ar nr cr,e=.returned (.tuple #[.slice ar nr cr,I (gL l page aY).2])/\eO w.heap.size w' (.slice ar nr cr) (gL l page aY).1/\Below w.heap.size w w'):=(Zk l (.slice ao n cap) page aY w h hf hp hn).mono λe w' ⟨r,h1,h2,h3⟩=>by
  obtain⟨ar,cr,er,_⟩:=bh h2
  grind
 clear h hf hp hn;go_enter func279,ntmps279;go_wp2_with (go_at_call 280;refine HM.o.mono ?_;rintro e w1 ⟨ar,nr,cr,rfl,h2,h3⟩;have H2:=ai h2;have H3:=ai h3;clear h2 h3);refine bW (v:=.tuple #[.slice ar nr cr,I (gL l page aY).2]) (by simp[results]) rfl ?_
 grind [Hid.o]
theorem Pm (q:Int) (x y z:Nat) (w:World) (h:eN w (.slice ao n cap) l) (hf:dG l) (hp:cR page) (hn:cR aY) (hx:w.cell? (Ad x 0)=some (I page)) (hy:w.cell? (Ad y 0)=some (I aY)) (hz:w.cell? (Ad z 0)=some (I q)) :
  Calls prog 276 #[.slice ao n cap,.pointer (some (Ad x 0)),.pointer (some (Ad y 0)),.pointer (some (Ad z 0))] w λe w'=>∃ar nr cr,e=.returned (.tuple #[.slice ar nr cr,I (fV l page aY q).2])/\eO w.heap.size w' (.slice ar nr cr) (fV l page aY q).1/\Below w.heap.size w w':=by
 have HM:Hid (Calls prog 277 #[.slice ao n cap,I page,I aY,I q] w λe w'=>∃ar nr cr,e=.returned (.tuple #[.slice ar nr cr,I (fV l page aY q).2])/\eO w.heap.size w' (.slice ar nr cr) (fV l page aY q).1/\Below w.heap.size w w'):=(SS l (.slice ao n cap) page aY q w h hf hp hn).mono λe w' ⟨r,h1,h2,h3⟩=>by
  obtain⟨ar,cr,er,_⟩:=bh h2
  grind
 clear h hf hp hn;go_enter func276,ntmps276;go_wp2_with (go_at_call 277;refine HM.o.mono ?_;rintro e w1 ⟨ar,nr,cr,rfl,h2,h3⟩;have H2:=ai h2;have H3:=ai h3;clear h2 h3);refine bW (v:=.tuple #[.slice ar nr cr,I (fV l page aY q).2]) (by simp[results]) rfl ?_
 grind [Hid.o]
theorem TM (e:bK) (x:Nat) (w:World) (hx:w.cell? (Ad x 0)=some (.slice ao n cap)) (h:eN w (.slice ao n cap) l) (hf:dG l) :
  Calls prog 285 #[.agg #[I e.page,I e.kind,I e.loc],.pointer (some (Ad x 0))] w λr w'=>r=.returned (.bool (kR l e))/\Below w.heap.size w w':=by
 obtain⟨WA,lQ⟩:=ex (w.alloc (.cells #[I e.page,I e.kind,I e.loc] 174));have hb:Below w.heap.size w WA:=by grind [Below.refl,Below.alloc]
 have q:x<w.heap.size:=nu w _ hx;have xA:WA.cell? (Ad x 0)=some (.slice ao n cap):=(hb.cell (p:=(Ad x 0)) q).trans hx;have BN:WA.heap[w.heap.size]?=some (.cells #[I e.page,I e.kind,I e.loc] 174 (0,0)):=by grind [bG]
 have e0:WA.cell? (Ad w.heap.size 0)=some (I e.page):=aA BN 0 rfl;have HF:=ai (zg l (.slice ao n cap) e.page WA (h.below hb) hf);have HB:=ai hb;have ot:=ai lQ;unfold kR;generalize bc l e.page=r at HF ⊢;obtain⟨⟨pg,ps,pr,zr⟩,ok⟩:=r;have PF:Hid (Calls prog 77 #[.slice ao n cap,I e.page] WA λe w'=>e=.returned (.tuple #[.agg #[I pg,I ps,I pr,.bool zr],.bool ok])/\Below WA.heap.size WA w'):=HF.o;clear lQ hb BN hx h hf HF;go_enter func285,ntmps285;go_upto_region 1 with fail;rw[<- ot.o];go_wp2_with (go_at_call 77;refine PF.o.mono ?_;rintro e w1 ⟨rfl,b⟩;have dz:=ai (HB.o.trans (b.mono HB.o.size));clear b);go_ret;exact⟨ξ,dz.o.alloc dz.o.size _⟩
end Go.Proofs.YtlgoihmkgaaemaaGreat
