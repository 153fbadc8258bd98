import Derived.Test.YtlgoihmkgaaemaaGreatGM21
set_option maxHeartbeats 20000000
set_option linter.unusedVariables false
set_option maxRecDepth 100000
set_option linter.unusedSimpArgs false
namespace Go.Proofs.YtlgoihmkgaaemaaGreat
open Go.RowKit
def qa (k:aR) (sp a n way:Int):aR×ByteArray×(Int×Int)×Int:=if iP k sp n way [0,2]≠0 then (ed,⟨#[]⟩,(0,0),iP k sp n way [0,2]) else if (bN (ak k.aj sp.toNat).aT a n way).1≠0 then (ed,⟨#[]⟩,bN (ak k.aj sp.toNat).aT a n way,0) else ((aZ k sp.toNat a n way).2,l5 k sp.toNat a n way,(0,0),0)
theorem aaQ (V:World):dW iz 1 0 (V.alloc (.cells #[I 0,I 2] 3)) (some (Ad V.heap.size 0)) [0,2]:=fun _=>by
 have h:=bD V #[I 0,I 2] 3;refine⟨V.heap.size,0,rfl,aI h,fun i hi j hj=>?_⟩;obtain rfl:j=0:=by omega
 have hi:i<2:=hi;rcases(show i=0∨i=1 by omega) with rfl | rfl
 · exact aq h 0 rfl
 · exact aq h 1 rfl
theorem Yp (GV:ra) (k:aR) (a:ja) (sp ad n way:Int) (w:World) (hK:jo w a k) (hF:o7 k) (hsp:cK sp) (had:cK ad) :
  Calls Tryz.prog 262 #[.agg (bc a k),I sp,I ad,I n,I way] w (b9 w (qa k sp ad n way).1 [.string (qa k sp ad n way).2.1,.agg #[I (qa k sp ad n way).2.2.1.1,I (qa k sp ad n way).2.2.1.2],I (qa k sp ad n way).2.2.2]):=by
 obtain⟨WA,mj⟩:=ex (((w.alloc (.cells (bc a k) 30)).alloc (.cells #[Nl,Nl,Nl,Nl,I 0] 30)).alloc (.cells #[I 0,I 0] 75));have hb0:Below w.heap.size w WA:=by rw[mj];exact(((aJ _ _).alloc (aH _) _).alloc (by simp) _).alloc (by simp;omega) _
 have kb:WA.heap[w.heap.size]?=some (.cells (bc a k) 30 (0,0)):=by grind [bl,bD]
 have rb:WA.heap[w.heap.size+1]?=some (.cells #[Nl,Nl,Nl,Nl,I 0] 30 (0,0)):=by
  grind [bl,bD,World.size_alloc]
 have fb:WA.heap[w.heap.size+1+1]?=some (.cells #[I 0,I 0] 75 (0,0)):=by
  grind [bD,World.size_alloc]
 have hsz:WA.heap.size=w.heap.size+3:=by simp_all
 obtain⟨WB,hWB⟩:=ex (WA.alloc (.cells #[I 0,I 2] 3));have hb1:Below w.heap.size w WB:=by grind [Below.alloc]
 have hrow:dW iz 1 0 WB (some (Ad WA.heap.size 0)) [0,2]:=by grind [aaQ]
 have aac:WB.heap.size=w.heap.size+4:=by simp_all
 have RB:Hid (∀V,Below WB.heap.size WB V->V.heap[w.heap.size+1]?=some (.cells #[Nl,Nl,Nl,Nl,I 0] 30 (0,0))):=fun V hb=>aN (by grind [bl]) hb (by omega)
 have FB:Hid (∀V,Below WB.heap.size WB V->V.heap[w.heap.size+1+1]?=some (.cells #[I 0,I 0] 75 (0,0))):=fun V hb=>aN (by grind [bl]) hb (by omega)
 have k0:WA.cell? (Ad w.heap.size 0)=some (.slice a.aS k.aM.length a.cS):=aq kb 0 rfl;have k1:WA.cell? (Ad w.heap.size 1)=some (.slice a.aF k.frames.length a.cF):=aq kb 1 rfl;have k2:WA.cell? (Ad w.heap.size 2)=some (.slice a.aL k.slots.length a.cL):=aq kb 2 rfl;have k3:WA.cell? (Ad w.heap.size 3)=some (.slice a.aP k.aj.length a.cP):=aq kb 3 rfl;have k4:WA.cell? (Ad w.heap.size 4)=some (I k.hand):=aq kb 4 rfl;have se:=ai mj;have HWB:=ai hWB;have cM:=ai hb1;by_cases c:iP k sp n way [0,2]=0
 · obtain⟨hlv,hn,hwy⟩:=Kp c;obtain⟨hR,IQ,hj,tX⟩:=rC hlv;obtain⟨j,hje⟩:∃j:Nat,sp=(j:Int):=⟨sp.toNat,by omega⟩;subst hje;rw[lD] at hj tX;have Ah:=ai (Hw GV k a (j:Int) n way [0,2] (some (Ad WA.heap.size 0)) 2 WB (hK.below hb1) hF hsp hrow (by simp) c);rw[show([0,2]:List Int).length=2 from rfl] at Ah;have TF:w.heap.size+1≠w.heap.size+1+1:=by omega
   have HLB:=ai (show w.heap.size+1+1<WB.heap.size by omega);by_cases hf:(bN (ak k.aj j).aT ad n way).1=0
   · obtain⟨hf0,hal,hau,hmap⟩:=rD hn.1 hn.2 hf;have nC:dX k j (ad/16):=by
      have:=hmap 0 (by omega) (by omega);rw[C3] at this;exact this
     have hm2:dX k j (cj ad n):=by
      have:=hmap (n-1) (by omega) (by omega);unfold cj;rw[show ad+n-1=ad+(n-1) by omega];exact this
     have RH:=nT hR hj ad n way nC hm2;have hrk:=RH.kept.aM;have hcc:=hR.c;have ac3:0<(aZ k j ad n way).2.frames.length:=by rw[RH.kept.nf];omega
     have PB:(aZ k j ad n way).1.length<=2:=by
      rw[(AU k j ad n way).2.2];unfold nO
      grind
     have NY:∀m,m<(aZ k j ad n way).1.length->(aZ k j ad n way).1.getD m 0<(aZ k j ad n way).2.frames.length:=fun m hm=>by
      rw[RH.kept.nf];by_cases z:cj ad n=ad/16
      · have e:(aZ k j ad n way).1=[(eU k j ad way).1]:=by unfold aZ;rw[aB z]
        rw[e] at hm ⊢;have hm:m<1:=hm;obtain rfl:m=0:=by omega
        exact RH.one.2
      · have e:(aZ k j ad n way).1=[(eU k j ad way).1,(kx k j ad n way).1]:=by unfold aZ;rw[au z]
        rw[e] at hm ⊢;have hm:m<2:=hm;rcases(show m=0∨m=1 by omega) with rfl | rfl
        · exact RH.one.2
        · exact(RH.two z).2
     have Xv:∀m,m<(aZ k j ad n way).1.length->(aD (aZ k j ad n way).2.frames ((aZ k j ad n way).1.getD m 0)).data.size<=1000:=fun m hm=>by
      have hi:=NY m hm;by_cases z:(aD (aZ k j ad n way).2.frames ((aZ k j ad n way).1.getD m 0)).refs=0
      · have:=(RH.right.zt _ hi).zero ((RH.right.zt _ hi).nil z);rw[this];show(0:Nat)<=1000;omega
      · have:=(RH.right.zt _ hi).size ((RH.right.zt _ hi).ne z);omega
     have hPg:DX (cC k j) ad n:=⟨o8 hR hj nC,o8 hR hj hm2⟩;have hfit:=A5 hPg hn.1 hn.2;have hjs:=y9 hPg hn.1 hn.2;have MJ:=xE hR hj ad n way nC hm2;have HPT:Hid (∀V,Calls Tryz.prog 171 #[.string (iH (aZ k j ad n way).2.frames (aZ k j ad n way).1 (aZ k j ad n way).1.length),I (((ad%16).toNat:Nat):Int),I n] V fun e w'=>e=.returned (.tuple #[.string (l5 k j ad n way),I 0])/\Below V.heap.size V w'):=fun V=>by
      have:=Gt (iH (aZ k j ad n way).2.frames (aZ k j ad n way).1 (aZ k j ad n way).1.length) (ad%16).toNat n.toNat V (by rw[MJ];omega) (by rw[MJ];omega);rw[show((n.toNat:Nat):Int)=n by omega] at this;exact this
     have aiS:ad.tmod 16=(((ad%16).toNat:Nat):Int):=by
      rw[ace (by omega)];omega
     have hA:qa k (j:Int) ad n way=((aZ k j ad n way).2,l5 k j ad n way,(0,0),0):=by
      unfold qa;rw[au (fun x=>x c),lD,au (fun x=>x hf)]
     rw[hA];have Hi:Hid (∀V S mb hs,cE k.aM hs->bH WB.heap.size mb 158 (ie k) V S (aU k hs)->Below w.heap.size w V->V.heap[w.heap.size+1]?=some (.cells #[Nl,Nl,Nl,Nl,I 0] 30 (0,0))->V.heap[w.heap.size+1+1]?=some (.cells #[I 0,I 0] 75 (0,0))->Calls Tryz.prog 272 #[.pointer (some (Ad mb 0)),I (j:Int),I ad,I n,I way] V fun e w'=>∃av nv cv aS nS cS aF nF cF aL nL cL aP nP cP hd,e=.returned (.tuple #[.slice av nv cv,.agg #[I 0,I 0]])/\w'.cell? (Ad mb 0)=some (.slice aS nS cS)/\w'.cell? (Ad mb 1)=some (.slice aF nF cF)/\w'.cell? (Ad mb 2)=some (.slice aL nL cL)/\w'.cell? (Ad mb 3)=some (.slice aP nP cP)/\w'.cell? (Ad mb 4)=some (I hd)/\mb<w'.heap.size/\(∀V',Below w'.heap.size w' V'->Calls Tryz.prog 273 #[.pointer (some (Ad mb 0)),.slice av nv cv] V' fun e w''=>e=.returned (.string (iH (aZ k j ad n way).2.frames (aZ k j ad n way).1 (aZ k j ad n way).1.length))/\w''=V')/\w'.heap[w.heap.size+1]?=some (.cells #[Nl,Nl,Nl,Nl,I 0] 30 (0,0))/\w'.heap[w.heap.size+1+1]?=some (.cells #[I 0,I 0] 75 (0,0))/\Below w.heap.size w w'/\(∀U,aC (fun b=>b=w.heap.size+1∨b=w.heap.size+1+1) w' U->b9 w (aZ k j ad n way).2 [.string (l5 k j ad n way),.agg #[I 0,I 0],I 0] (.returned (.tuple #[.agg #[.slice aS nS cS,.slice aF nF cF,.slice aL nL cL,.slice aP nP cP,I hd],.string (l5 k j ad n way),.agg #[I 0,I 0],I 0])) U)):=fun V S mb hs hsame hV hbV hrV hfV=>by
      have hR':=hR.xR hsame;refine(Hx (aU k hs) S V j ad n way hV hR' hj had hn hf (MT hR.mn hsame)).mono fun e w' ⟨av,cv,S',e1,zq,hk',hc'⟩=>?_
      rw[sL hR hj nC hsame] at hk' e1 zq;have NW:∀b,b<WB.heap.size->S.lab b=.no:=fun b hb=>yM.1 fun x=>by have:=(hV.yq b x).1;omega
      have hbd:=HLB.o;obtain⟨aS,cS,eS,_⟩:=bh hk'.aM;obtain⟨aF,cF,eF,_⟩:=bh hk'.frames;obtain⟨aL,cL,eL,_⟩:=bh hk'.slots;obtain⟨aP,cP,eP,_⟩:=bh hk'.aj;have c0:=hk'.c0;have c1:=hk'.c1;have c2:=hk'.c2;have c3:=hk'.c3;rw[eS] at c0;rw[eF] at c1;rw[eL] at c2;rw[eP] at c3;have hbl:Below w.heap.size w w':=aC.below hbV hc'.kp hbV.size (fun b hb=>by have:=(hV.yq b hb).1;omega);refine⟨av,_,cv,aS,_,cS,aF,_,cF,aL,_,cL,aP,_,cP,_,e1,c0,c1,c2,c3,hk'.c4,hk'.lt,fun V' hb'=>?_,hc'.keep hrV (NW _ (by omega)),hc'.keep hfV (NW _ hbd),hbl,fun U hU=>⟨S',hs,by rw[hrk];omega,by rw[eS,eF,eL,eP];rfl,?_,?_⟩⟩
      · exact MW (aU (aZ k j ad n way).2 hs) S' V' (aZ k j ad n way).1 av cv (hk'.below hb') (zq.ch (cI.below hb')) (fun m hm=>NY m hm) PB (fun m hm=>Xv m hm) ac3
      · exact(hk'.toKr.kp hU (fun b hb e=>hb (hc'.no b (by have:=aI hfV;omega) (NW b (by omega))))).mono (by omega)
      · exact aC.below hbl hU hbl.size (fun b e=>by omega)
     obtain⟨P,hP⟩:=ex (b9 w (aZ k j ad n way).2 [.string (l5 k j ad n way),.agg #[I 0,I 0],I 0]);rw[<- hP] at Hi;obtain⟨LD,hLD⟩:=ex (l5 k j ad n way);rw[<- hLD] at Hi HPT;obtain⟨JD,hJD⟩:=ex (iH (aZ k j ad n way).2.frames (aZ k j ad n way).1 (aZ k j ad n way).1.length);rw[<- hJD] at Hi HPT;obtain⟨md,hmd⟩:=ex ((ad%16).toNat);rw[<- hmd] at HPT aiS;show Calls _ _ _ _ (b9 w (aZ k j ad n way).2 [.string (l5 k j ad n way),.agg #[I 0,I 0],I 0]);rw[<- hP];have wX:Hid (Calls Tryz.prog 271 #[.agg (bc a k),I (j:Int),I n,I way,.slice (some (Ad WA.heap.size 0)) 2 2] WB fun e w'=>∃mb S hs,e=.returned (.tuple #[.pointer (some (Ad mb 0)),I 0])/\cE k.aM hs/\bH WB.heap.size mb 158 (ie k) w' S (aU k hs)/\Below WB.heap.size WB w'):=Ah.o;unfold bc at wX se ⊢;clear hK hF hsp had hA c hP mj hWB hb0 hb1 kb rb fb hrow hsz aac Ah hf hf0 hal hau hmap nC hm2 hrk hR hlv hn hwy hj tX IQ RH hcc ac3 PB NY Xv hPg hfit hjs MJ hLD hJD hmd;go_enter Tryz.func262,Tryz.ntmps262;go_upto_region 1 with fail;rw[<- se.o];go_upto_region 7 with(first
      | (go_at_call 271;rw[<- HWB.o];refine wX.o.mono ?_;rintro e w1 ⟨mb,S1,hs1,rfl,hs2,hk1,hb1⟩;have gP:=ai (cM.o.trans (hb1.mono cM.o.size));have R1:=ai (RB.o _ hb1);have F1:=ai (FB.o _ hb1);have uY:=ai hk1;have yr:=ai hs2;clear hb1 hk1 hs2)
      | (go_at_call 272;refine(Hi.o _ _ _ _ yr.o uY.o gP.o R1.o F1.o).mono ?_;rintro e w2 ⟨av,nv,cv,aS,nS,cS,aF,nF,cF,aL,nL,cL,aP,nP,cP,hd,rfl,m0,m1,m2,m3,m4,MH,hjo,hr2,hf2,hb2,hfin⟩;have HJO:=ai hjo;clear hjo;have R2:=ai hr2;have F2:=ai hf2;have Ai:=ai hfin;have X2:=ai (bD w2 #[I 0,I 0] 75);obtain⟨x0,x1⟩:=qR X2.o;clear hr2 hf2 hb2 hfin))
     have R3:=ai (bl R2.o (.cells #[I 0,I 0] 75));have F3:=ai (bl F2.o (.cells #[I 0,I 0] 75));have HA:=ai ((aJ w2.heap.size w2).alloc (aH _) (.cells #[I 0,I 0] 75));have p0:=(HA.o.cell (p:=(Ad mb 0)) MH).trans m0;have p1:=(HA.o.cell (p:=(Ad mb 1)) MH).trans m1;have p2:=(HA.o.cell (p:=(Ad mb 2)) MH).trans m2;have p3:=(HA.o.cell (p:=(Ad mb 3)) MH).trans m3;have p4:=(HA.o.cell (p:=(Ad mb 4)) MH).trans m4;obtain⟨W3,hW3⟩:=ex (w2.alloc (.cells #[I 0,I 0] 75));rw[<- hW3] at R3 F3 HA p0 p1 p2 p3 p4 ⊢;clear hW3 m0 m1 m2 m3 m4 x0 x1;obtain⟨y0,y1,y2,y3,y4⟩:=iI R3.o;obtain⟨z0,z1⟩:=qR F3.o;have f0:=aQ R3.o 0;have f1:=aQ R3.o 1;have f2:=aQ R3.o 2;have f3:=aQ R3.o 3;have f4:=aQ R3.o 4;have g0:=aQ F3.o 0;have g1:=aQ F3.o 1;have h7:=ai (fun V=>Dx R3.o F3.o TF (.slice aS nS cS) (.slice aF nF cF) (.slice aL nL cL) (.slice aP nP cP) (I hd) (I 0) (I 0) (V:=V));go_wp2_with (first
      | (go_at_call 273;refine(HJO.o _ HA.o).mono ?_;rintro e w4 ⟨rfl,rfl⟩)
      | (go_at_call 171;refine(HPT.o _).mono ?_;rintro e w5 ⟨rfl,LV⟩;have Xq:=ai LV;have R5:=ai (aN R3.o LV (aI R3.o));have F5:=ai (aN F3.o LV (aI F3.o));have HML:mb<w4.heap.size:=fV MH HA.o.size;have p0:=(LV.cell (p:=(Ad mb 0)) HML).trans p0;have p1:=(LV.cell (p:=(Ad mb 1)) HML).trans p1;have p2:=(LV.cell (p:=(Ad mb 2)) HML).trans p2;have p3:=(LV.cell (p:=(Ad mb 3)) HML).trans p3;have p4:=(LV.cell (p:=(Ad mb 4)) HML).trans p4;obtain⟨y0,y1,y2,y3,y4⟩:=iI R5.o;obtain⟨z0,z1⟩:=qR F5.o;have f0:=aQ R5.o 0;have f1:=aQ R5.o 1;have f2:=aQ R5.o 2;have f3:=aQ R5.o 3;have f4:=aQ R5.o 4;have g0:=aQ F5.o 0;have g1:=aQ F5.o 1;clear LV))
     have h7:=ai (fun V=>Dx R5.o F5.o TF (.slice aS nS cS) (.slice aF nF cF) (.slice aL nL cL) (.slice aP nP cP) (I hd) (I 0) (I 0) (V:=V));obtain⟨q1,q2,q3⟩:=h7.out _ rfl;obtain⟨y0,y1,y2,y3,y4⟩:=iI q1;obtain⟨z0,z1⟩:=qR q2;refine bK (v:=.tuple #[.agg #[.slice aS nS cS,.slice aF nF cF,.slice aL nL cL,.slice aP nP cP,I hd],.string LD,.agg #[I 0,I 0],I 0]) (by simp[results,Tryz.results262,go_sem,y0,y1,y2,y3,y4,z0,z1]) rfl ?_;exact Ai.o _ (((aC.bY HA.o).trans (aC.bY Xq.o) (fun _ _ g=>g)).trans q3 (fun _ _ g=>g))
   · have hA:qa k (j:Int) ad n way=(ed,⟨#[]⟩,bN (ak k.aj j).aT ad n way,0):=by
      unfold qa
      grind
     rw[hA];obtain⟨FA,hFA⟩:=ex (bN (ak k.aj j).aT ad n way);have Hi:Hid (∀V S mb hs,cE k.aM hs->bH WB.heap.size mb 158 (ie k) V S (aU k hs)->Calls Tryz.prog 272 #[.pointer (some (Ad mb 0)),I (j:Int),I ad,I n,I way] V fun e w'=>e=.returned (.tuple #[Nl,.agg #[I FA.1,I FA.2]])/\Below V.heap.size V w'):=fun V S mb hs hsame hV=>by
      rw[hFA];exact Fi (aU k hs) S V j ad n way hV (hR.xR hsame) hj had hn hf
     rw[<- hFA] at hf ⊢;have LU:(FA.1 != 0)=true:=by grind
     have wX:Hid (Calls Tryz.prog 271 #[.agg (bc a k),I (j:Int),I n,I way,.slice (some (Ad WA.heap.size 0)) 2 2] WB fun e w'=>∃mb S hs,e=.returned (.tuple #[.pointer (some (Ad mb 0)),I 0])/\cE k.aM hs/\bH WB.heap.size mb 158 (ie k) w' S (aU k hs)/\Below WB.heap.size WB w'):=Ah.o;obtain⟨f0,f1⟩:=FA;simp only at Hi LU ⊢;have dm:Hid (∀V,Below w.heap.size w V->b9 w ed [.string ⟨#[]⟩,.agg #[I f0,I f1],I 0] (.returned (.tuple #[.agg #[Nl,Nl,Nl,Nl,I 0],.string ⟨#[]⟩,.agg #[I f0,I f1],I 0])) V):=fun V hV=>qw _ hV
     obtain⟨P,hP⟩:=ex (b9 w ed [.string ⟨#[]⟩,.agg #[I f0,I f1],I 0]);rw[<- hP] at dm ⊢;unfold bc at wX se ⊢;clear hK hF hsp had hA c hP mj hWB hb0 hb1 kb rb fb hrow hsz aac Ah hf hR hlv hn hwy hj tX IQ hFA;go_enter Tryz.func262,Tryz.ntmps262;go_upto_region 1 with fail;rw[<- se.o];go_upto_region 6 with(first
      | (go_at_call 271;rw[<- HWB.o];refine wX.o.mono ?_;rintro e w1 ⟨mb,S1,hs1,rfl,hs2,hk1,hb1⟩;have gP:=ai (cM.o.trans (hb1.mono cM.o.size));have R1:=ai (RB.o _ hb1);have F1:=ai (FB.o _ hb1);have uY:=ai hk1;have yr:=ai hs2;clear hb1 hk1 hs2)
      | (go_at_call 272;refine(Hi.o _ _ _ _ yr.o uY.o).mono ?_;rintro e w2 ⟨rfl,hb2⟩;have R2:=ai (aN R1.o hb2 (aI R1.o));have F2:=ai (aN F1.o hb2 (aI F1.o));have m7:=ai (gP.o.trans (hb2.mono gP.o.size));have X2:=ai (bD w2 #[I f0,I f1] 75);obtain⟨x0,x1⟩:=qR X2.o;clear hb2))
     have R3:=ai (bl R2.o (.cells #[I f0,I f1] 75));have F3:=ai (bl F2.o (.cells #[I f0,I f1] 75));have sX:=ai (m7.o.alloc m7.o.size (.cells #[I f0,I f1] 75));have hl3:=aI F2.o;obtain⟨W3,hW3⟩:=ex (w2.alloc (.cells #[I f0,I f1] 75));rw[<- hW3] at R3 F3 sX x0 x1 ⊢;clear hW3;obtain⟨y0,y1,y2,y3,y4⟩:=iI R3.o;obtain⟨z0,z1⟩:=qR F3.o;have e0:=aQ R3.o 0;have e1:=aQ R3.o 1;have e2:=aQ R3.o 2;have e3:=aQ R3.o 3;have e4:=aQ R3.o 4;have g0:=aQ F3.o 0;have g1:=aQ F3.o 1;have h7:=ai (fun V=>Dx R3.o F3.o TF Nl Nl Nl Nl (I 0) (I f0) (I f1) (V:=V));go_region;go_wp2;obtain⟨q1,q2,q3⟩:=h7.out _ rfl;obtain⟨y0,y1,y2,y3,y4⟩:=iI q1;obtain⟨z0,z1⟩:=qR q2;refine bK (v:=.tuple #[.agg #[Nl,Nl,Nl,Nl,I 0],.string ⟨#[]⟩,.agg #[I f0,I f1],I 0]) (by simp[results,Tryz.results262,go_sem,y0,y1,y2,y3,y4,z0,z1]) rfl ?_;exact dm.o _ (aC.below sX.o (q3.trans (aC.drew _ _) (fun _ _ g=>g)) sX.o.size (fun b e=>by omega))
 · have hA:qa k sp ad n way=(ed,⟨#[]⟩,(0,0),iP k sp n way [0,2]):=by unfold qa;grind
   rw[hA];have Ah:=ai (Fg k a sp n way [0,2] (some (Ad WA.heap.size 0)) 2 WB (hK.below hb1) hF hsp hrow (by simp) c);rw[show([0,2]:List Int).length=2 from rfl] at Ah;obtain⟨C,hC⟩:=ex (iP k sp n way [0,2]);rw[<- hC] at Ah c ⊢;have cb:(C != 0)=true:=by grind
   have dm:Hid (∀V,Below w.heap.size w V->b9 w ed [.string ⟨#[]⟩,.agg #[I 0,I 0],I C] (.returned (.tuple #[.agg #[Nl,Nl,Nl,Nl,I 0],.string ⟨#[]⟩,.agg #[I 0,I 0],I C])) V):=fun V hV=>qw _ hV
   obtain⟨P,hP⟩:=ex (b9 w ed [.string ⟨#[]⟩,.agg #[I 0,I 0],I C]);rw[<- hP] at dm ⊢;unfold bc at Ah se ⊢;clear hK hF hsp had hA hC c hP mj hWB hb0 hb1 kb rb fb hrow hsz aac;go_enter Tryz.func262,Tryz.ntmps262;go_upto_region 1 with fail;rw[<- se.o];go_upto_region 3 with(go_at_call 271;rw[<- HWB.o];refine Ah.o.mono ?_;rintro e w1 ⟨rfl,hb1⟩;have gP:=ai (cM.o.trans (hb1.mono cM.o.size));have R1:=ai (RB.o _ hb1);have F1:=ai (FB.o _ hb1);clear hb1)
   obtain⟨y0,y1,y2,y3,y4⟩:=iI R1.o;obtain⟨z0,z1⟩:=qR F1.o;have f0:=aQ R1.o 0;have f1:=aQ R1.o 1;have f2:=aQ R1.o 2;have f3:=aQ R1.o 3;have f4:=aQ R1.o 4;have g0:=aQ F1.o 0;have g1:=aQ F1.o 1;have h7:=ai (fun V=>Dx R1.o F1.o (by omega) Nl Nl Nl Nl (I 0) (I 0) (I 0) (V:=V));go_wp2;obtain⟨q1,q2,q3⟩:=h7.out _ rfl;obtain⟨y0,y1,y2,y3,y4⟩:=iI q1;obtain⟨z0,z1⟩:=qR q2;refine bK (v:=.tuple #[.agg #[Nl,Nl,Nl,Nl,I 0],.string ⟨#[]⟩,.agg #[I 0,I 0],I C]) (by simp[results,Tryz.results262,go_sem,y0,y1,y2,y3,y4,z0,z1]) rfl ?_;exact dm.o _ (aC.below gP.o q3 gP.o.size (fun b e=>by omega))
open Go.RowKit
def oQ (k:aR) (sp a:Int) (d:ByteArray):aR×(Int×Int)×Int:=if iP k sp d.size 1 [1]≠0 then (ed,(0,0),iP k sp d.size 1 [1]) else if (bN (ak k.aj sp.toNat).aT a d.size 1).1≠0 then (ed,bN (ak k.aj sp.toNat).aT a d.size 1,0) else (ll k sp.toNat a d,(0,0),0)
theorem aaR (V:World):dW iz 1 0 (V.alloc (.cells #[I 1] 3)) (some (Ad V.heap.size 0)) [1]:=fun _=>by
 have h:=bD V #[I 1] 3;refine⟨V.heap.size,0,rfl,aI h,fun i hi j hj=>?_⟩;obtain rfl:j=0:=by omega
 have hi:i<1:=hi;obtain rfl:i=0:=by omega
 exact aq h 0 rfl
theorem Vl (GV:ra) (k:aR) (a:ja) (sp ad:Int) (d:ByteArray) (w:World) (hK:jo w a k) (hF:o7 k) (hsp:cK sp) (had:cK ad) :
  Calls Tryz.prog 265 #[.agg (bc a k),I sp,I ad,.string d] w (b9 w (oQ k sp ad d).1 [.agg #[I (oQ k sp ad d).2.1.1,I (oQ k sp ad d).2.1.2],I (oQ k sp ad d).2.2]):=by
 obtain⟨WA,mj⟩:=ex (((w.alloc (.cells (bc a k) 30)).alloc (.cells #[Nl,Nl,Nl,Nl,I 0] 30)).alloc (.cells #[I 0,I 0] 75));have hb0:Below w.heap.size w WA:=by rw[mj];exact(((aJ _ _).alloc (aH _) _).alloc (by simp) _).alloc (by simp;omega) _
 have kb:WA.heap[w.heap.size]?=some (.cells (bc a k) 30 (0,0)):=by grind [bl,bD]
 have rb:WA.heap[w.heap.size+1]?=some (.cells #[Nl,Nl,Nl,Nl,I 0] 30 (0,0)):=by
  grind [bl,bD,World.size_alloc]
 have fb:WA.heap[w.heap.size+1+1]?=some (.cells #[I 0,I 0] 75 (0,0)):=by
  grind [bD,World.size_alloc]
 have hsz:WA.heap.size=w.heap.size+3:=by simp_all
 obtain⟨WB,hWB⟩:=ex (WA.alloc (.cells #[I 1] 3));have hb1:Below w.heap.size w WB:=by grind [Below.alloc]
 have hrow:dW iz 1 0 WB (some (Ad WA.heap.size 0)) [1]:=by grind [aaR]
 have aac:WB.heap.size=w.heap.size+4:=by simp_all
 have RB:Hid (∀V,Below WB.heap.size WB V->V.heap[w.heap.size+1]?=some (.cells #[Nl,Nl,Nl,Nl,I 0] 30 (0,0))):=fun V hb=>aN (by grind [bl]) hb (by omega)
 have FB:Hid (∀V,Below WB.heap.size WB V->V.heap[w.heap.size+1+1]?=some (.cells #[I 0,I 0] 75 (0,0))):=fun V hb=>aN (by grind [bl]) hb (by omega)
 have k0:WA.cell? (Ad w.heap.size 0)=some (.slice a.aS k.aM.length a.cS):=aq kb 0 rfl;have k1:WA.cell? (Ad w.heap.size 1)=some (.slice a.aF k.frames.length a.cF):=aq kb 1 rfl;have k2:WA.cell? (Ad w.heap.size 2)=some (.slice a.aL k.slots.length a.cL):=aq kb 2 rfl;have k3:WA.cell? (Ad w.heap.size 3)=some (.slice a.aP k.aj.length a.cP):=aq kb 3 rfl;have k4:WA.cell? (Ad w.heap.size 4)=some (I k.hand):=aq kb 4 rfl;have se:=ai mj;have HWB:=ai hWB;have cM:=ai hb1;by_cases c:iP k sp (d.size:Int) 1 [1]=0
 · obtain⟨hlv,hn,hwy⟩:=Kp c;obtain⟨hR,IQ,hj,tX⟩:=rC hlv;obtain⟨j,hje⟩:∃j:Nat,sp=(j:Int):=⟨sp.toNat,by omega⟩;subst hje;rw[lD] at hj tX;have Ah:=ai (Hw GV k a (j:Int) (d.size:Int) 1 [1] (some (Ad WA.heap.size 0)) 1 WB (hK.below hb1) hF hsp hrow (by simp) c);rw[show([1]:List Int).length=1 from rfl] at Ah;have TF:w.heap.size+1≠w.heap.size+1+1:=by omega
   have HLB:=ai (show w.heap.size+1+1<WB.heap.size by omega);by_cases hf:(bN (ak k.aj j).aT ad (d.size:Int) 1).1=0
   · obtain⟨hf0,hal,hau,hmap⟩:=rD hn.1 hn.2 hf;have nC:dX k j (ad/16):=by
      have:=hmap 0 (by omega) (by omega);rw[C3] at this;exact this
     have hm2:dX k j (cj ad (d.size:Int)):=by
      have:=hmap ((d.size:Int)-1) (by omega) (by omega);unfold cj;rw[show ad+(d.size:Int)-1=ad+((d.size:Int)-1) by omega];exact this
     have RH:=nT hR hj ad (d.size:Int) 1 nC hm2;have hcc:=hR.c;have ac3:0<(aZ k j ad (d.size:Int) 1).2.frames.length:=by rw[RH.kept.nf];omega
     have PB:(aZ k j ad (d.size:Int) 1).1.length<=2:=by
      rw[(AU k j ad (d.size:Int) 1).2.2];unfold nO
      grind
     have NY:∀m,m<(aZ k j ad (d.size:Int) 1).1.length->(aZ k j ad (d.size:Int) 1).1.getD m 0<(aZ k j ad (d.size:Int) 1).2.frames.length:=fun m hm=>by
      rw[RH.kept.nf];by_cases z:cj ad (d.size:Int)=ad/16
      · have e:(aZ k j ad (d.size:Int) 1).1=[(eU k j ad 1).1]:=by unfold aZ;rw[aB z]
        rw[e] at hm ⊢;have hm:m<1:=hm;obtain rfl:m=0:=by omega
        exact RH.one.2
      · have e:(aZ k j ad (d.size:Int) 1).1=[(eU k j ad 1).1,(kx k j ad (d.size:Int) 1).1]:=by unfold aZ;rw[au z]
        rw[e] at hm ⊢;have hm:m<2:=hm;rcases(show m=0∨m=1 by omega) with rfl | rfl
        · exact RH.one.2
        · exact(RH.two z).2
     have Xv:∀m,m<(aZ k j ad (d.size:Int) 1).1.length->(aD (aZ k j ad (d.size:Int) 1).2.frames ((aZ k j ad (d.size:Int) 1).1.getD m 0)).data.size<=1000:=fun m hm=>by
      have hi:=NY m hm;by_cases z:(aD (aZ k j ad (d.size:Int) 1).2.frames ((aZ k j ad (d.size:Int) 1).1.getD m 0)).refs=0
      · have:=(RH.right.zt _ hi).zero ((RH.right.zt _ hi).nil z);rw[this];show(0:Nat)<=1000;omega
      · have:=(RH.right.zt _ hi).size ((RH.right.zt _ hi).ne z);omega
     have hPg:DX (cC k j) ad (d.size:Int):=⟨o8 hR hj nC,o8 hR hj hm2⟩;have hfit:=A5 hPg hn.1 hn.2;have hjs:=y9 hPg hn.1 hn.2;have MJ:=xE hR hj ad (d.size:Int) 1 nC hm2;have aoq:=hjs;have hlL:(iw (iH (aZ k j ad (d.size:Int) 1).2.frames (aZ k j ad (d.size:Int) 1).1 (aZ k j ad (d.size:Int) 1).1.length) (ad%16).toNat d).size=(nI (cC k j) ad (d.size:Int)).size:=by
      rw[MJ];exact KO _ _ _ (by omega)
     have hpl:(aZ k j ad (d.size:Int) 1).1.length*16=(nI (cC k j) ad (d.size:Int)).size:=by
      rw[(AU k j ad (d.size:Int) 1).2.2];unfold nO;split at hjs <;> rename_i z
      · rw[aB z];omega
      · rw[au z];omega
     have aoK:(nI (cC k j) ad (d.size:Int)).size<=32:=by omega
     have HLY:Hid (∀V,Calls Tryz.prog 124 #[.string (iH (aZ k j ad (d.size:Int) 1).2.frames (aZ k j ad (d.size:Int) 1).1 (aZ k j ad (d.size:Int) 1).1.length),I (((ad%16).toNat:Nat):Int),.string d] V fun e w'=>e=.returned (.tuple #[.string (iw (iH (aZ k j ad (d.size:Int) 1).2.frames (aZ k j ad (d.size:Int) 1).1 (aZ k j ad (d.size:Int) 1).1.length) (ad%16).toNat d),I 0])/\Below V.heap.size V w'):=fun V=>Jr _ d (ad%16).toNat V (by rw[MJ];omega) (by rw[MJ];omega)
     have aiS:ad.tmod 16=(((ad%16).toNat:Nat):Int):=by
      rw[ace (by omega)];omega
     have hST:=vK hR hj ad d hn.1 hn.2 nC hm2;have hsk:=hST.aM;have hA:oQ k (j:Int) ad d=(ll k j ad d,(0,0),0):=by
      unfold oQ;rw[au (fun x=>x c),lD,au (fun x=>x hf)]
     rw[hA];have Hi:Hid (∀V S mb hs,cE k.aM hs->bH WB.heap.size mb 158 (ie k) V S (aU k hs)->Below w.heap.size w V->V.heap[w.heap.size+1]?=some (.cells #[Nl,Nl,Nl,Nl,I 0] 30 (0,0))->V.heap[w.heap.size+1+1]?=some (.cells #[I 0,I 0] 75 (0,0))->Calls Tryz.prog 272 #[.pointer (some (Ad mb 0)),I (j:Int),I ad,I (d.size:Int),I 1] V fun e w'=>∃av nv cv,e=.returned (.tuple #[.slice av nv cv,.agg #[I 0,I 0]])/\(∀V',Below w'.heap.size w' V'->Calls Tryz.prog 273 #[.pointer (some (Ad mb 0)),.slice av nv cv] V' fun e w''=>e=.returned (.string (iH (aZ k j ad (d.size:Int) 1).2.frames (aZ k j ad (d.size:Int) 1).1 (aZ k j ad (d.size:Int) 1).1.length))/\w''=V')/\(∀V',Below w'.heap.size w' V'->Calls Tryz.prog 278 #[.pointer (some (Ad mb 0)),.slice av nv cv,.string (iw (iH (aZ k j ad (d.size:Int) 1).2.frames (aZ k j ad (d.size:Int) 1).1 (aZ k j ad (d.size:Int) 1).1.length) (ad%16).toNat d)] V' fun e w''=>∃aS nS cS aF nF cF aL nL cL aP nP cP hd,e=.returned (.tuple #[])/\w''.cell? (Ad mb 0)=some (.slice aS nS cS)/\w''.cell? (Ad mb 1)=some (.slice aF nF cF)/\w''.cell? (Ad mb 2)=some (.slice aL nL cL)/\w''.cell? (Ad mb 3)=some (.slice aP nP cP)/\w''.cell? (Ad mb 4)=some (I hd)/\w''.heap[w.heap.size+1]?=some (.cells #[Nl,Nl,Nl,Nl,I 0] 30 (0,0))/\w''.heap[w.heap.size+1+1]?=some (.cells #[I 0,I 0] 75 (0,0))/\(∀U,aC (fun b=>b=w.heap.size+1∨b=w.heap.size+1+1) w'' U->b9 w (ll k j ad d) [.agg #[I 0,I 0],I 0] (.returned (.tuple #[.agg #[.slice aS nS cS,.slice aF nF cF,.slice aL nL cL,.slice aP nP cP,I hd],.agg #[I 0,I 0],I 0])) U))):=fun V S mb hs hsame hV hbV hrV hfV=>by
      have hR':=hR.xR hsame;refine(Hx (aU k hs) S V j ad (d.size:Int) 1 hV hR' hj had hn hf (MT hR.mn hsame)).mono fun e w' ⟨av,cv,S',e1,zq,hk',hc'⟩=>?_
      rw[sL hR hj nC hsame] at hk' e1 zq;have NW:∀b,b<WB.heap.size->S.lab b=.no:=fun b hb=>yM.1 fun x=>by have:=(hV.yq b x).1;omega
      have hbd:=HLB.o;have hbl:Below w.heap.size w w':=aC.below hbV hc'.kp hbV.size (fun b hb=>by have:=(hV.yq b hb).1;omega);have PC:w.heap.size+1<w'.heap.size:=fV (aI hrV) hc'.kp.size;have hl2:w.heap.size+1+1<w'.heap.size:=fV (aI hfV) hc'.kp.size;have q9:S'.lab (w.heap.size+1)=.no:=hc'.no _ (aI hrV) (NW _ (by omega));have n2:S'.lab (w.heap.size+1+1)=.no:=hc'.no _ (aI hfV) (NW _ hbd);have hr':=hc'.keep hrV (NW _ (by omega));have hf':=hc'.keep hfV (NW _ hbd);refine⟨av,_,cv,e1,fun V' hb'=>?_,fun V' hb'=>?_⟩
      · exact MW (aU (aZ k j ad (d.size:Int) 1).2 hs) S' V' (aZ k j ad (d.size:Int) 1).1 av cv (hk'.below hb') (zq.ch (cI.below hb')) (fun m hm=>NY m hm) PB (fun m hm=>Xv m hm) ac3
      · refine(Yu (aU (aZ k j ad (d.size:Int) 1).2 hs) S' V' (aZ k j ad (d.size:Int) 1).1 (iw (iH (aZ k j ad (d.size:Int) 1).2.frames (aZ k j ad (d.size:Int) 1).1 (aZ k j ad (d.size:Int) 1).1.length) (ad%16).toNat d) av cv (hk'.below hb') (zq.ch (cI.below hb')) (fun m hm=>NY m hm) PB (by omega) (by omega) ac3).mono fun e w'' ⟨e2,hk2,hc2⟩=>?_
        rw[BV] at hk2;have hk3:bH WB.heap.size mb 158 (ie k) w'' S' (aU (ll k j ad d) hs):=hk2;clear hk2;obtain⟨aS,cS,eS,_⟩:=bh hk3.aM;obtain⟨aF,cF,eF,_⟩:=bh hk3.frames;obtain⟨aL,cL,eL,_⟩:=bh hk3.slots;obtain⟨aP,cP,eP,_⟩:=bh hk3.aj;have c0:=hk3.c0;have c1:=hk3.c1;have c2:=hk3.c2;have c3:=hk3.c3;rw[eS] at c0;rw[eF] at c1;rw[eL] at c2;rw[eP] at c3;have ac8:Below w.heap.size w w'':=aC.below (hbl.trans (hb'.mono hbl.size)) hc2.kp (gT hbl.size hb'.size) (fun b hb=>by have:=(hk'.yq b hb).1;omega);refine⟨aS,_,cS,aF,_,cF,aL,_,cL,aP,_,cP,_,e2,c0,c1,c2,c3,hk3.c4,hc2.keep (aN hr' hb' PC) q9,hc2.keep (aN hf' hb' hl2) n2,fun U hU=>⟨S',hs,by rw[hsk];omega,by rw[eS,eF,eL,eP];rfl,?_,?_⟩⟩
        · exact(hk3.toKr.kp hU (fun b hb e=>hb (by rcases e with e | e <;> rw[e] <;> first | exact q9 | exact n2))).mono (by omega)
        · exact aC.below ac8 hU ac8.size (fun b e=>by omega)
     obtain⟨P,hP⟩:=ex (b9 w (ll k j ad d) [.agg #[I 0,I 0],I 0]);rw[<- hP] at Hi;obtain⟨LD,hLD⟩:=ex ((iw (iH (aZ k j ad (d.size:Int) 1).2.frames (aZ k j ad (d.size:Int) 1).1 (aZ k j ad (d.size:Int) 1).1.length) (ad%16).toNat d));rw[<- hLD] at Hi HLY;obtain⟨JD,hJD⟩:=ex ((iH (aZ k j ad (d.size:Int) 1).2.frames (aZ k j ad (d.size:Int) 1).1 (aZ k j ad (d.size:Int) 1).1.length));rw[<- hJD] at Hi HLY;obtain⟨md,hmd⟩:=ex ((ad%16).toNat);rw[<- hmd] at HLY aiS;show Calls _ _ _ _ (b9 w (ll k j ad d) [.agg #[I 0,I 0],I 0]);rw[<- hP];have wX:Hid (Calls Tryz.prog 271 #[.agg (bc a k),I (j:Int),I (d.size:Int),I 1,.slice (some (Ad WA.heap.size 0)) 1 1] WB fun e w'=>∃mb S hs,e=.returned (.tuple #[.pointer (some (Ad mb 0)),I 0])/\cE k.aM hs/\bH WB.heap.size mb 158 (ie k) w' S (aU k hs)/\Below WB.heap.size WB w'):=Ah.o;unfold bc at wX se ⊢;clear hK hF hsp had hA c hP mj hWB hb0 hb1 kb rb fb hrow hsz aac Ah hf hf0 hal hau hmap nC hm2 hR hlv hn hwy hj tX IQ RH hcc ac3 PB NY Xv hPg hfit hjs aoq MJ hlL hpl aoK hST hsk hLD hJD hmd;go_enter Tryz.func265,Tryz.ntmps265;go_upto_region 1 with fail;rw[<- se.o];go_upto_region 7 with(first
      | (go_at_call 271;rw[<- HWB.o];refine wX.o.mono ?_;rintro e w1 ⟨mb,S1,hs1,rfl,hs2,hk1,hb1⟩;have gP:=ai (cM.o.trans (hb1.mono cM.o.size));have R1:=ai (RB.o _ hb1);have F1:=ai (FB.o _ hb1);have uY:=ai hk1;have yr:=ai hs2;clear hb1 hk1 hs2)
      | (go_at_call 272;refine(Hi.o _ _ _ _ yr.o uY.o gP.o R1.o F1.o).mono ?_;rintro e w2 ⟨av,nv,cv,rfl,hjo,hpa⟩;have HJO:=ai hjo;have HPA:=ai hpa;clear hjo hpa;have X2:=ai (bD w2 #[I 0,I 0] 75);obtain⟨x0,x1⟩:=qR X2.o))
     have HA:=ai ((aJ w2.heap.size w2).alloc (aH _) (.cells #[I 0,I 0] 75));obtain⟨W3,hW3⟩:=ex (w2.alloc (.cells #[I 0,I 0] 75));rw[<- hW3] at HA ⊢;clear hW3 x0 x1 X2;go_wp2_with (first
      | (go_at_call 273;refine(HJO.o _ HA.o).mono ?_;rintro e w4 ⟨rfl,rfl⟩)
      | (go_at_call 124;refine(HLY.o _).mono ?_;rintro e w5 ⟨rfl,LV⟩;have Xq:=ai (HA.o.trans (LV.mono HA.o.size));clear LV)
      | (go_at_call 278;refine(HPA.o _ Xq.o).mono ?_;rintro e w6 ⟨aS,nS,cS,aF,nF,cF,aL,nL,cL,aP,nP,cP,hd,rfl,p0,p1,p2,p3,p4,r6,f6,hfin⟩;have R6:=ai r6;have F6:=ai f6;have Ai:=ai hfin;clear r6 f6 hfin;obtain⟨y0,y1,y2,y3,y4⟩:=iI R6.o;obtain⟨z0,z1⟩:=qR F6.o;have f0:=aQ R6.o 0;have f1:=aQ R6.o 1;have f2:=aQ R6.o 2;have f3:=aQ R6.o 3;have f4:=aQ R6.o 4;have g0:=aQ F6.o 0;have g1:=aQ F6.o 1))
     have h7:=ai (fun V=>Dx R6.o F6.o TF (.slice aS nS cS) (.slice aF nF cF) (.slice aL nL cL) (.slice aP nP cP) (I hd) (I 0) (I 0) (V:=V));obtain⟨q1,q2,q3⟩:=h7.out _ rfl;obtain⟨y0,y1,y2,y3,y4⟩:=iI q1;obtain⟨z0,z1⟩:=qR q2;refine bK (v:=.tuple #[.agg #[.slice aS nS cS,.slice aF nF cF,.slice aL nL cL,.slice aP nP cP,I hd],.agg #[I 0,I 0],I 0]) (by simp[results,Tryz.results265,go_sem,y0,y1,y2,y3,y4,z0,z1]) rfl ?_;exact Ai.o _ q3
   · have hA:oQ k (j:Int) ad d=(ed,bN (ak k.aj j).aT ad (d.size:Int) 1,0):=by
      unfold oQ
      grind
     rw[hA];obtain⟨FA,hFA⟩:=ex (bN (ak k.aj j).aT ad (d.size:Int) 1);have Hi:Hid (∀V S mb hs,cE k.aM hs->bH WB.heap.size mb 158 (ie k) V S (aU k hs)->Calls Tryz.prog 272 #[.pointer (some (Ad mb 0)),I (j:Int),I ad,I (d.size:Int),I 1] V fun e w'=>e=.returned (.tuple #[Nl,.agg #[I FA.1,I FA.2]])/\Below V.heap.size V w'):=fun V S mb hs hsame hV=>by
      rw[hFA];exact Fi (aU k hs) S V j ad (d.size:Int) 1 hV (hR.xR hsame) hj had hn hf
     rw[<- hFA] at hf ⊢;have LU:(FA.1 != 0)=true:=by grind
     have wX:Hid (Calls Tryz.prog 271 #[.agg (bc a k),I (j:Int),I (d.size:Int),I 1,.slice (some (Ad WA.heap.size 0)) 1 1] WB fun e w'=>∃mb S hs,e=.returned (.tuple #[.pointer (some (Ad mb 0)),I 0])/\cE k.aM hs/\bH WB.heap.size mb 158 (ie k) w' S (aU k hs)/\Below WB.heap.size WB w'):=Ah.o;obtain⟨f0,f1⟩:=FA;simp only at Hi LU ⊢;have dm:Hid (∀V,Below w.heap.size w V->b9 w ed [.agg #[I f0,I f1],I 0] (.returned (.tuple #[.agg #[Nl,Nl,Nl,Nl,I 0],.agg #[I f0,I f1],I 0])) V):=fun V hV=>qw _ hV
     obtain⟨P,hP⟩:=ex (b9 w ed [.agg #[I f0,I f1],I 0]);rw[<- hP] at dm ⊢;unfold bc at wX se ⊢;clear hK hF hsp had hA c hP mj hWB hb0 hb1 kb rb fb hrow hsz aac Ah hf hR hlv hn hwy hj tX IQ hFA;go_enter Tryz.func265,Tryz.ntmps265;go_upto_region 1 with fail;rw[<- se.o];go_upto_region 6 with(first
      | (go_at_call 271;rw[<- HWB.o];refine wX.o.mono ?_;rintro e w1 ⟨mb,S1,hs1,rfl,hs2,hk1,hb1⟩;have gP:=ai (cM.o.trans (hb1.mono cM.o.size));have R1:=ai (RB.o _ hb1);have F1:=ai (FB.o _ hb1);have uY:=ai hk1;have yr:=ai hs2;clear hb1 hk1 hs2)
      | (go_at_call 272;refine(Hi.o _ _ _ _ yr.o uY.o).mono ?_;rintro e w2 ⟨rfl,hb2⟩;have R2:=ai (aN R1.o hb2 (aI R1.o));have F2:=ai (aN F1.o hb2 (aI F1.o));have m7:=ai (gP.o.trans (hb2.mono gP.o.size));have X2:=ai (bD w2 #[I f0,I f1] 75);obtain⟨x0,x1⟩:=qR X2.o;clear hb2))
     have R3:=ai (bl R2.o (.cells #[I f0,I f1] 75));have F3:=ai (bl F2.o (.cells #[I f0,I f1] 75));have sX:=ai (m7.o.alloc m7.o.size (.cells #[I f0,I f1] 75));have hl3:=aI F2.o;obtain⟨W3,hW3⟩:=ex (w2.alloc (.cells #[I f0,I f1] 75));rw[<- hW3] at R3 F3 sX x0 x1 ⊢;clear hW3;obtain⟨y0,y1,y2,y3,y4⟩:=iI R3.o;obtain⟨z0,z1⟩:=qR F3.o;have e0:=aQ R3.o 0;have e1:=aQ R3.o 1;have e2:=aQ R3.o 2;have e3:=aQ R3.o 3;have e4:=aQ R3.o 4;have g0:=aQ F3.o 0;have g1:=aQ F3.o 1;have h7:=ai (fun V=>Dx R3.o F3.o TF Nl Nl Nl Nl (I 0) (I f0) (I f1) (V:=V));go_region;go_wp2;obtain⟨q1,q2,q3⟩:=h7.out _ rfl;obtain⟨y0,y1,y2,y3,y4⟩:=iI q1;obtain⟨z0,z1⟩:=qR q2;refine bK (v:=.tuple #[.agg #[Nl,Nl,Nl,Nl,I 0],.agg #[I f0,I f1],I 0]) (by simp[results,Tryz.results265,go_sem,y0,y1,y2,y3,y4,z0,z1]) rfl ?_;exact dm.o _ (aC.below sX.o (q3.trans (aC.drew _ _) (fun _ _ g=>g)) sX.o.size (fun b e=>by omega))
 · have hA:oQ k sp ad d=(ed,(0,0),iP k sp (d.size:Int) 1 [1]):=by unfold oQ;grind
   rw[hA];have Ah:=ai (Fg k a sp (d.size:Int) 1 [1] (some (Ad WA.heap.size 0)) 1 WB (hK.below hb1) hF hsp hrow (by simp) c);rw[show([1]:List Int).length=1 from rfl] at Ah;obtain⟨C,hC⟩:=ex (iP k sp (d.size:Int) 1 [1]);rw[<- hC] at Ah c ⊢;have cb:(C != 0)=true:=by grind
   have dm:Hid (∀V,Below w.heap.size w V->b9 w ed [.agg #[I 0,I 0],I C] (.returned (.tuple #[.agg #[Nl,Nl,Nl,Nl,I 0],.agg #[I 0,I 0],I C])) V):=fun V hV=>qw _ hV
   obtain⟨P,hP⟩:=ex (b9 w ed [.agg #[I 0,I 0],I C]);rw[<- hP] at dm ⊢;unfold bc at Ah se ⊢;clear hK hF hsp had hA hC c hP mj hWB hb0 hb1 kb rb fb hrow hsz aac;go_enter Tryz.func265,Tryz.ntmps265;go_upto_region 1 with fail;rw[<- se.o];go_upto_region 3 with(go_at_call 271;rw[<- HWB.o];refine Ah.o.mono ?_;rintro e w1 ⟨rfl,hb1⟩;have gP:=ai (cM.o.trans (hb1.mono cM.o.size));have R1:=ai (RB.o _ hb1);have F1:=ai (FB.o _ hb1);clear hb1)
   obtain⟨y0,y1,y2,y3,y4⟩:=iI R1.o;obtain⟨z0,z1⟩:=qR F1.o;have f0:=aQ R1.o 0;have f1:=aQ R1.o 1;have f2:=aQ R1.o 2;have f3:=aQ R1.o 3;have f4:=aQ R1.o 4;have g0:=aQ F1.o 0;have g1:=aQ F1.o 1;have h7:=ai (fun V=>Dx R1.o F1.o (by omega) Nl Nl Nl Nl (I 0) (I 0) (I 0) (V:=V));go_wp2;obtain⟨q1,q2,q3⟩:=h7.out _ rfl;obtain⟨y0,y1,y2,y3,y4⟩:=iI q1;obtain⟨z0,z1⟩:=qR q2;refine bK (v:=.tuple #[.agg #[Nl,Nl,Nl,Nl,I 0],.agg #[I 0,I 0],I C]) (by simp[results,Tryz.results265,go_sem,y0,y1,y2,y3,y4,z0,z1]) rfl ?_;exact dm.o _ (aC.below gP.o q3 gP.o.size (fun b e=>by omega))
open Go.RowKit
theorem QK {k:aR} (h:aY k) {hs:List bG} (s:cE k.aM hs):gh (aU k hs)=0:=(vU _).2 (h.xR s)
end Go.Proofs.YtlgoihmkgaaemaaGreat
