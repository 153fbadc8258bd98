import Derived.Test.YtpgifpeohlllfaaGreatGR29
set_option maxHeartbeats 20000000
set_option linter.unusedVariables false
set_option maxRecDepth 100000
set_option linter.unusedSimpArgs false
namespace Go.Proofs.YtpgifpeohlllfaaGreat
open Go.RowKit
def m6 (k:aN) (sp a:Int) (d:ByteArray):aN×(Int×Int)×Int:=if eB k sp d.size 1 [1]≠0 then (dK,(0,0),eB k sp d.size 1 [1]) else if (eV (ak k.aj sp.toNat).bk a d.size 1).1≠0 then (dK,eV (ak k.aj sp.toNat).bk a d.size 1,0) else (rT k sp.toNat a d,(0,0),0)
theorem VW (V:World):cJ dN 1 0 (V.alloc (.cells #[I 1] 3)) (some (Ad V.heap.size 0)) [1]:=fun _=>by
 have h:=bO V #[I 1] 3;refine⟨V.heap.size,0,rfl,aT h,fun i hi j hj=>?_⟩;obtain rfl:j=0:=by omega
 have hi:i<1:=hi;obtain rfl:i=0:=by omega
 exact aB h 0 rfl
theorem Gc (Hk:sG) (k:aN) (a:fR) (sp ad:Int) (d:ByteArray) (w:World) (hK:gD w a k) (hF:iI k) (hsp:eY sp) (had:eY ad) :
  Calls Tryz.prog 28 #[.agg (bg a k),I sp,I ad,.string d] w (dg w (m6 k sp ad d).1 [.agg #[I (m6 k sp ad d).2.1.1,I (m6 k sp ad d).2.1.2],I (m6 k sp ad d).2.2]):=by
 obtain⟨WA,jG⟩:=ex (((w.alloc (.cells (bg a k) 27)).alloc (.cells #[Nl,Nl,Nl,Nl,I 0] 27)).alloc (.cells #[I 0,I 0] 36));have hb0:Below w.heap.size w WA:=by rw[jG];exact(((aK _ _).alloc (aI _) _).alloc (by simp) _).alloc (by simp;omega) _
 have kb:WA.heap[w.heap.size]?=some (.cells (bg a k) 27 (0,0)):=by grind [bM,bO]
 have rb:WA.heap[w.heap.size+1]?=some (.cells #[Nl,Nl,Nl,Nl,I 0] 27 (0,0)):=by
  grind [bM,bO,World.size_alloc]
 have fb:WA.heap[w.heap.size+1+1]?=some (.cells #[I 0,I 0] 36 (0,0)):=by
  grind [bO,World.size_alloc]
 have hsz:WA.heap.size=w.heap.size+3:=by simp_all
 obtain⟨WB,Tc⟩:=ex (WA.alloc (.cells #[I 1] 3));have hb1:Below w.heap.size w WB:=by grind [Below.alloc]
 have hrow:cJ dN 1 0 WB (some (Ad WA.heap.size 0)) [1]:=by grind [VW]
 have KS:WB.heap.size=w.heap.size+4:=by simp_all
 have RB:Hid (∀V,Below WB.heap.size WB V->V.heap[w.heap.size+1]?=some (.cells #[Nl,Nl,Nl,Nl,I 0] 27 (0,0))):=fun V hb=>aQ (by grind [bM]) hb (by omega)
 have FB:Hid (∀V,Below WB.heap.size WB V->V.heap[w.heap.size+1+1]?=some (.cells #[I 0,I 0] 36 (0,0))):=fun V hb=>aQ (by grind [bM]) hb (by omega)
 have k0:WA.cell? (Ad w.heap.size 0)=some (.slice a.aS k.aD.length a.cS):=aB kb 0 rfl;have k1:WA.cell? (Ad w.heap.size 1)=some (.slice a.aF k.frames.length a.cF):=aB kb 1 rfl;have k2:WA.cell? (Ad w.heap.size 2)=some (.slice a.aL k.slots.length a.cL):=aB kb 2 rfl;have k3:WA.cell? (Ad w.heap.size 3)=some (.slice a.aP k.aj.length a.cP):=aB kb 3 rfl;have k4:WA.cell? (Ad w.heap.size 4)=some (I k.hand):=aB kb 4 rfl;have lI:=ai jG;have Zw:=ai Tc;have dz:=ai hb1;by_cases c:eB k sp (d.size:Int) 1 [1]=0
 · obtain⟨hlv,hn,hwy⟩:=vH c;obtain⟨hR,Jy,hj,tv⟩:=pA hlv;obtain⟨j,hje⟩:∃j:Nat,sp=(j:Int):=⟨sp.toNat,by omega⟩;subst hje;rw[jn] at hj tv;have vY:=ai (yr Hk k a (j:Int) (d.size:Int) 1 [1] (some (Ad WA.heap.size 0)) 1 WB (hK.below hb1) hF hsp hrow (by simp) c);rw[show([1]:List Int).length=1 from rfl] at vY;have Ff:w.heap.size+1≠w.heap.size+1+1:=by omega
   have HLB:=ai (show w.heap.size+1+1<WB.heap.size by omega);by_cases hf:(eV (ak k.aj j).bk ad (d.size:Int) 1).1=0
   · obtain⟨Vw,hal,hau,hmap⟩:=nQ hn.1 hn.2 hf;have rZ:dx k j (ad/16):=by
      have:=hmap 0 (by omega) (by omega);rw[CU] at this;exact this
     have hm2:dx k j (cD ad (d.size:Int)):=by
      have:=hmap ((d.size:Int)-1) (by omega) (by omega);unfold cD;rw[show ad+(d.size:Int)-1=ad+((d.size:Int)-1) by omega];exact this
     have RH:=nz hR hj ad (d.size:Int) 1 rZ hm2;have hcc:=hR.c;have YP:0<(aW k j ad (d.size:Int) 1).2.frames.length:=by rw[RH.kept.nf];omega
     have KT:(aW k j ad (d.size:Int) 1).1.length<=2:=by
      rw[(xQ k j ad (d.size:Int) 1).2.2];unfold mg
      grind
     have JE:∀m,m<(aW k j ad (d.size:Int) 1).1.length->(aW k j ad (d.size:Int) 1).1.getD m 0<(aW k j ad (d.size:Int) 1).2.frames.length:=fun m hm=>by
      rw[RH.kept.nf];by_cases z:cD ad (d.size:Int)=ad/16
      · have e:(aW k j ad (d.size:Int) 1).1=[(eH k j ad 1).1]:=by unfold aW;rw[aR z]
        rw[e] at hm ⊢;have hm:m<1:=hm;obtain rfl:m=0:=by omega
        exact RH.one.2
      · have e:(aW k j ad (d.size:Int) 1).1=[(eH k j ad 1).1,(ir k j ad (d.size:Int) 1).1]:=by unfold aW;rw[bf z]
        rw[e] at hm ⊢;have hm:m<2:=hm;rcases(show m=0∨m=1 by omega) with rfl | rfl
        · exact RH.one.2
        · exact(RH.two z).2
     have SN:∀m,m<(aW k j ad (d.size:Int) 1).1.length->(au (aW k j ad (d.size:Int) 1).2.frames ((aW k j ad (d.size:Int) 1).1.getD m 0)).data.size<=1000:=fun m hm=>by
      have hi:=JE m hm;by_cases z:(au (aW k j ad (d.size:Int) 1).2.frames ((aW k j ad (d.size:Int) 1).1.getD m 0)).refs=0
      · have:=(RH.right.yS _ hi).zero ((RH.right.yS _ hi).nil z);rw[this];show(0:Nat)<=1000;omega
      · have:=(RH.right.yS _ hi).size ((RH.right.yS _ hi).ne z);omega
     have hPg:CA (dO k j) ad (d.size:Int):=⟨qu hR hj rZ,qu hR hj hm2⟩;have hfit:=Cr hPg hn.1 hn.2;have hjs:=vT hPg hn.1 hn.2;have II:=yz hR hj ad (d.size:Int) 1 rZ hm2;have alL:=hjs;have hlL:(gF (gK (aW k j ad (d.size:Int) 1).2.frames (aW k j ad (d.size:Int) 1).1 (aW k j ad (d.size:Int) 1).1.length) (ad%16).toNat d).size=(qT (dO k j) ad (d.size:Int)).size:=by
      rw[II];exact GG _ _ _ (by omega)
     have hpl:(aW k j ad (d.size:Int) 1).1.length*16=(qT (dO k j) ad (d.size:Int)).size:=by
      rw[(xQ k j ad (d.size:Int) 1).2.2];unfold mg;split at hjs <;> rename_i z
      · rw[aR z];omega
      · rw[bf z];omega
     have al4:(qT (dO k j) ad (d.size:Int)).size<=32:=by omega
     have YD:Hid (∀V,Calls Tryz.prog 65 #[.string (gK (aW k j ad (d.size:Int) 1).2.frames (aW k j ad (d.size:Int) 1).1 (aW k j ad (d.size:Int) 1).1.length),I (((ad%16).toNat:Nat):Int),.string d] V fun e w'=>e=.returned (.tuple #[.string (gF (gK (aW k j ad (d.size:Int) 1).2.frames (aW k j ad (d.size:Int) 1).1 (aW k j ad (d.size:Int) 1).1.length) (ad%16).toNat d),I 0])/\Below V.heap.size V w'):=fun V=>EL _ d (ad%16).toNat V (by rw[II];omega) (by rw[II];omega)
     have aeI:ad.tmod 16=(((ad%16).toNat:Nat):Int):=by
      rw[P6 (by omega)];omega
     have hST:=Q4 hR hj ad d hn.1 hn.2 rZ hm2;have hsk:=hST.aD;have hA:m6 k (j:Int) ad d=(rT k j ad d,(0,0),0):=by
      unfold m6;rw[bf (fun x=>x c),jn,bf (fun x=>x hf)]
     rw[hA];have rD:Hid (∀V S mb hs,cW k.aD hs->bu WB.heap.size mb 104 (gI k) V S (bN k hs)->Below w.heap.size w V->V.heap[w.heap.size+1]?=some (.cells #[Nl,Nl,Nl,Nl,I 0] 27 (0,0))->V.heap[w.heap.size+1+1]?=some (.cells #[I 0,I 0] 36 (0,0))->Calls Tryz.prog 52 #[.pointer (some (Ad mb 0)),I (j:Int),I ad,I (d.size:Int),I 1] V fun e w'=>∃av nv cv,e=.returned (.tuple #[.slice av nv cv,.agg #[I 0,I 0]])/\(∀V',Below w'.heap.size w' V'->Calls Tryz.prog 64 #[.pointer (some (Ad mb 0)),.slice av nv cv] V' fun e w''=>e=.returned (.string (gK (aW k j ad (d.size:Int) 1).2.frames (aW k j ad (d.size:Int) 1).1 (aW k j ad (d.size:Int) 1).1.length))/\w''=V')/\(∀V',Below w'.heap.size w' V'->Calls Tryz.prog 66 #[.pointer (some (Ad mb 0)),.slice av nv cv,.string (gF (gK (aW k j ad (d.size:Int) 1).2.frames (aW k j ad (d.size:Int) 1).1 (aW k j ad (d.size:Int) 1).1.length) (ad%16).toNat d)] V' fun e w''=>∃aS nS cS aF nF cF aL nL cL aP nP cP hd,e=.returned (.tuple #[])/\w''.cell? (Ad mb 0)=some (.slice aS nS cS)/\w''.cell? (Ad mb 1)=some (.slice aF nF cF)/\w''.cell? (Ad mb 2)=some (.slice aL nL cL)/\w''.cell? (Ad mb 3)=some (.slice aP nP cP)/\w''.cell? (Ad mb 4)=some (I hd)/\w''.heap[w.heap.size+1]?=some (.cells #[Nl,Nl,Nl,Nl,I 0] 27 (0,0))/\w''.heap[w.heap.size+1+1]?=some (.cells #[I 0,I 0] 36 (0,0))/\(∀U,aM (fun b=>b=w.heap.size+1∨b=w.heap.size+1+1) w'' U->dg w (rT k j ad d) [.agg #[I 0,I 0],I 0] (.returned (.tuple #[.agg #[.slice aS nS cS,.slice aF nF cF,.slice aL nL cL,.slice aP nP cP,I hd],.agg #[I 0,I 0],I 0])) U))):=fun V S mb hs hsame hV hbV hrV hfV=>by
      have hR':=hR.Du hsame;refine(yt (bN k hs) S V j ad (d.size:Int) 1 hV hR' hj had hn hf (BC hR.kP hsame)).mono fun e w' ⟨av,cv,S',e1,wk,hk',hc'⟩=>?_
      rw[wU hR hj rZ hsame] at hk' e1 wk;have Dr:∀b,b<WB.heap.size->S.lab b=.no:=fun b hb=>xE.1 fun x=>by have:=(hV.rV b x).1;omega
      have KU:=HLB.o;have hbl:Below w.heap.size w w':=aM.below hbV hc'.kp hbV.size (fun b hb=>by have:=(hV.rV b hb).1;omega);have OJ:w.heap.size+1<w'.heap.size:=iH (aT hrV) hc'.kp.size;have hl2:w.heap.size+1+1<w'.heap.size:=iH (aT hfV) hc'.kp.size;have kX:S'.lab (w.heap.size+1)=.no:=hc'.no _ (aT hrV) (Dr _ (by omega));have aaR:S'.lab (w.heap.size+1+1)=.no:=hc'.no _ (aT hfV) (Dr _ KU);have hr':=hc'.keep hrV (Dr _ (by omega));have hf':=hc'.keep hfV (Dr _ KU);refine⟨av,_,cv,e1,fun V' hb'=>?_,fun V' hb'=>?_⟩
      · exact IY (bN (aW k j ad (d.size:Int) 1).2 hs) S' V' (aW k j ad (d.size:Int) 1).1 av cv (hk'.below hb') (wk.ch (bU.below hb')) (fun m hm=>JE m hm) KT (fun m hm=>SN m hm) YP
      · refine(TF (bN (aW k j ad (d.size:Int) 1).2 hs) S' V' (aW k j ad (d.size:Int) 1).1 (gF (gK (aW k j ad (d.size:Int) 1).2.frames (aW k j ad (d.size:Int) 1).1 (aW k j ad (d.size:Int) 1).1.length) (ad%16).toNat d) av cv (hk'.below hb') (wk.ch (bU.below hb')) (fun m hm=>JE m hm) KT (by omega) (by omega) YP).mono fun e w'' ⟨e2,hk2,hc2⟩=>?_
        rw[DR] at hk2;have hk3:bu WB.heap.size mb 104 (gI k) w'' S' (bN (rT k j ad d) hs):=hk2;clear hk2;obtain⟨aS,cS,eS,_⟩:=aY hk3.aD;obtain⟨aF,cF,eF,_⟩:=aY hk3.frames;obtain⟨aL,cL,eL,_⟩:=aY hk3.slots;obtain⟨aP,cP,eP,_⟩:=aY hk3.aj;have c0:=hk3.c0;have c1:=hk3.c1;have c2:=hk3.c2;have c3:=hk3.c3;rw[eS] at c0;rw[eF] at c1;rw[eL] at c2;rw[eP] at c3;have YX:Below w.heap.size w w'':=aM.below (hbl.trans (hb'.mono hbl.size)) hc2.kp (gy hbl.size hb'.size) (fun b hb=>by have:=(hk'.rV b hb).1;omega);refine⟨aS,_,cS,aF,_,cF,aL,_,cL,aP,_,cP,_,e2,c0,c1,c2,c3,hk3.c4,hc2.keep (aQ hr' hb' OJ) kX,hc2.keep (aQ hf' hb' hl2) aaR,fun U hU=>⟨S',hs,by rw[hsk];omega,by rw[eS,eF,eL,eP];rfl,?_,?_⟩⟩
        · exact(hk3.toKr.kp hU (fun b hb e=>hb (by rcases e with e | e <;> rw[e] <;> first | exact kX | exact aaR))).mono (by omega)
        · exact aM.below YX hU YX.size (fun b e=>by omega)
     obtain⟨P,hP⟩:=ex (dg w (rT k j ad d) [.agg #[I 0,I 0],I 0]);rw[<- hP] at rD;obtain⟨LD,hLD⟩:=ex ((gF (gK (aW k j ad (d.size:Int) 1).2.frames (aW k j ad (d.size:Int) 1).1 (aW k j ad (d.size:Int) 1).1.length) (ad%16).toNat d));rw[<- hLD] at rD YD;obtain⟨JD,hJD⟩:=ex ((gK (aW k j ad (d.size:Int) 1).2.frames (aW k j ad (d.size:Int) 1).1 (aW k j ad (d.size:Int) 1).1.length));rw[<- hJD] at rD YD;obtain⟨md,hmd⟩:=ex ((ad%16).toNat);rw[<- hmd] at YD aeI;show Calls _ _ _ _ (dg w (rT k j ad d) [.agg #[I 0,I 0],I 0]);rw[<- hP];have vX:Hid (Calls Tryz.prog 51 #[.agg (bg a k),I (j:Int),I (d.size:Int),I 1,.slice (some (Ad WA.heap.size 0)) 1 1] WB fun e w'=>∃mb S hs,e=.returned (.tuple #[.pointer (some (Ad mb 0)),I 0])/\cW k.aD hs/\bu WB.heap.size mb 104 (gI k) w' S (bN k hs)/\Below WB.heap.size WB w'):=vY.o;unfold bg at vX lI ⊢;clear hK hF hsp had hA c hP jG Tc hb0 hb1 kb rb fb hrow hsz KS vY hf Vw hal hau hmap rZ hm2 hR hlv hn hwy hj tv Jy RH hcc YP KT JE SN hPg hfit hjs alL II hlL hpl al4 hST hsk hLD hJD hmd;go_enter Tryz.func28,Tryz.ntmps28;go_upto_region 1 with fail;rw[<- lI.o];go_upto_region 7 with(first
      | (go_at_call 51;rw[<- Zw.o];refine vX.o.mono ?_;rintro e w1 ⟨mb,S1,hs1,rfl,hs2,hk1,hb1⟩;have gj:=ai (dz.o.trans (hb1.mono dz.o.size));have R1:=ai (RB.o _ hb1);have F1:=ai (FB.o _ hb1);have vZ:=ai hk1;have jP:=ai hs2;clear hb1 hk1 hs2)
      | (go_at_call 52;refine(rD.o _ _ _ _ jP.o vZ.o gj.o R1.o F1.o).mono ?_;rintro e w2 ⟨av,nv,cv,rfl,hjo,hpa⟩;have HJO:=ai hjo;have YA:=ai hpa;clear hjo hpa;have X2:=ai (bO w2 #[I 0,I 0] 36);obtain⟨x0,x1⟩:=nM X2.o))
     have HA:=ai ((aK w2.heap.size w2).alloc (aI _) (.cells #[I 0,I 0] 36));obtain⟨W3,hW3⟩:=ex (w2.alloc (.cells #[I 0,I 0] 36));rw[<- hW3] at HA ⊢;clear hW3 x0 x1 X2;go_wp2_with (first
      | (go_at_call 64;refine(HJO.o _ HA.o).mono ?_;rintro e w4 ⟨rfl,rfl⟩)
      | (go_at_call 65;refine(YD.o _).mono ?_;rintro e w5 ⟨rfl,Bk⟩;have EJ:=ai (HA.o.trans (Bk.mono HA.o.size));clear Bk)
      | (go_at_call 66;refine(YA.o _ EJ.o).mono ?_;rintro e w6 ⟨aS,nS,cS,aF,nF,cF,aL,nL,cL,aP,nP,cP,hd,rfl,p0,p1,p2,p3,p4,r6,f6,hfin⟩;have R6:=ai r6;have F6:=ai f6;have qK:=ai hfin;clear r6 f6 hfin;obtain⟨y0,y1,y2,y3,y4⟩:=fy R6.o;obtain⟨z0,z1⟩:=nM F6.o;have f0:=aO R6.o 0;have f1:=aO R6.o 1;have f2:=aO R6.o 2;have f3:=aO R6.o 3;have f4:=aO R6.o 4;have g0:=aO F6.o 0;have g1:=aO F6.o 1))
     have h7:=ai (fun V=>uj R6.o F6.o Ff (.slice aS nS cS) (.slice aF nF cF) (.slice aL nL cL) (.slice aP nP cP) (I hd) (I 0) (I 0) (V:=V));obtain⟨q1,q2,q3⟩:=h7.out _ rfl;obtain⟨y0,y1,y2,y3,y4⟩:=fy q1;obtain⟨z0,z1⟩:=nM q2;refine cm (v:=.tuple #[.agg #[.slice aS nS cS,.slice aF nF cF,.slice aL nL cL,.slice aP nP cP,I hd],.agg #[I 0,I 0],I 0]) (by simp[results,Tryz.results28,go_sem,y0,y1,y2,y3,y4,z0,z1]) rfl ?_;exact qK.o _ q3
   · have hA:m6 k (j:Int) ad d=(dK,eV (ak k.aj j).bk ad (d.size:Int) 1,0):=by
      unfold m6
      grind
     rw[hA];obtain⟨FA,hFA⟩:=ex (eV (ak k.aj j).bk ad (d.size:Int) 1);have rD:Hid (∀V S mb hs,cW k.aD hs->bu WB.heap.size mb 104 (gI k) V S (bN k hs)->Calls Tryz.prog 52 #[.pointer (some (Ad mb 0)),I (j:Int),I ad,I (d.size:Int),I 1] V fun e w'=>e=.returned (.tuple #[Nl,.agg #[I FA.1,I FA.2]])/\Below V.heap.size V w'):=fun V S mb hs hsame hV=>by
      rw[hFA];exact wL (bN k hs) S V j ad (d.size:Int) 1 hV (hR.Du hsame) hj had hn hf
     rw[<- hFA] at hf ⊢;have Ef:(FA.1 != 0)=true:=by grind
     have vX:Hid (Calls Tryz.prog 51 #[.agg (bg a k),I (j:Int),I (d.size:Int),I 1,.slice (some (Ad WA.heap.size 0)) 1 1] WB fun e w'=>∃mb S hs,e=.returned (.tuple #[.pointer (some (Ad mb 0)),I 0])/\cW k.aD hs/\bu WB.heap.size mb 104 (gI k) w' S (bN k hs)/\Below WB.heap.size WB w'):=vY.o;obtain⟨f0,f1⟩:=FA;simp only at rD Ef ⊢;have cV:Hid (∀V,Below w.heap.size w V->dg w dK [.agg #[I f0,I f1],I 0] (.returned (.tuple #[.agg #[Nl,Nl,Nl,Nl,I 0],.agg #[I f0,I f1],I 0])) V):=fun V hV=>oJ _ hV
     obtain⟨P,hP⟩:=ex (dg w dK [.agg #[I f0,I f1],I 0]);rw[<- hP] at cV ⊢;unfold bg at vX lI ⊢;clear hK hF hsp had hA c hP jG Tc hb0 hb1 kb rb fb hrow hsz KS vY hf hR hlv hn hwy hj tv Jy hFA;go_enter Tryz.func28,Tryz.ntmps28;go_upto_region 1 with fail;rw[<- lI.o];go_upto_region 6 with(first
      | (go_at_call 51;rw[<- Zw.o];refine vX.o.mono ?_;rintro e w1 ⟨mb,S1,hs1,rfl,hs2,hk1,hb1⟩;have gj:=ai (dz.o.trans (hb1.mono dz.o.size));have R1:=ai (RB.o _ hb1);have F1:=ai (FB.o _ hb1);have vZ:=ai hk1;have jP:=ai hs2;clear hb1 hk1 hs2)
      | (go_at_call 52;refine(rD.o _ _ _ _ jP.o vZ.o).mono ?_;rintro e w2 ⟨rfl,hb2⟩;have R2:=ai (aQ R1.o hb2 (aT R1.o));have F2:=ai (aQ F1.o hb2 (aT F1.o));have kJ:=ai (gj.o.trans (hb2.mono gj.o.size));have X2:=ai (bO w2 #[I f0,I f1] 36);obtain⟨x0,x1⟩:=nM X2.o;clear hb2))
     have R3:=ai (bM R2.o (.cells #[I f0,I f1] 36));have F3:=ai (bM F2.o (.cells #[I f0,I f1] 36));have pZ:=ai (kJ.o.alloc kJ.o.size (.cells #[I f0,I f1] 36));have hl3:=aT F2.o;obtain⟨W3,hW3⟩:=ex (w2.alloc (.cells #[I f0,I f1] 36));rw[<- hW3] at R3 F3 pZ x0 x1 ⊢;clear hW3;obtain⟨y0,y1,y2,y3,y4⟩:=fy R3.o;obtain⟨z0,z1⟩:=nM F3.o;have e0:=aO R3.o 0;have e1:=aO R3.o 1;have e2:=aO R3.o 2;have e3:=aO R3.o 3;have e4:=aO R3.o 4;have g0:=aO F3.o 0;have g1:=aO F3.o 1;have h7:=ai (fun V=>uj R3.o F3.o Ff Nl Nl Nl Nl (I 0) (I f0) (I f1) (V:=V));go_region;go_wp2;obtain⟨q1,q2,q3⟩:=h7.out _ rfl;obtain⟨y0,y1,y2,y3,y4⟩:=fy q1;obtain⟨z0,z1⟩:=nM q2;refine cm (v:=.tuple #[.agg #[Nl,Nl,Nl,Nl,I 0],.agg #[I f0,I f1],I 0]) (by simp[results,Tryz.results28,go_sem,y0,y1,y2,y3,y4,z0,z1]) rfl ?_;exact cV.o _ (aM.below pZ.o (q3.trans (aM.drew _ _) (fun _ _ g=>g)) pZ.o.size (fun b e=>by omega))
 · have hA:m6 k sp ad d=(dK,(0,0),eB k sp (d.size:Int) 1 [1]):=by unfold m6;grind
   rw[hA];have vY:=ai (wK k a sp (d.size:Int) 1 [1] (some (Ad WA.heap.size 0)) 1 WB (hK.below hb1) hF hsp hrow (by simp) c);rw[show([1]:List Int).length=1 from rfl] at vY;obtain⟨C,hC⟩:=ex (eB k sp (d.size:Int) 1 [1]);rw[<- hC] at vY c ⊢;have cb:(C != 0)=true:=by grind
   have cV:Hid (∀V,Below w.heap.size w V->dg w dK [.agg #[I 0,I 0],I C] (.returned (.tuple #[.agg #[Nl,Nl,Nl,Nl,I 0],.agg #[I 0,I 0],I C])) V):=fun V hV=>oJ _ hV
   obtain⟨P,hP⟩:=ex (dg w dK [.agg #[I 0,I 0],I C]);rw[<- hP] at cV ⊢;unfold bg at vY lI ⊢;clear hK hF hsp had hA hC c hP jG Tc hb0 hb1 kb rb fb hrow hsz KS;go_enter Tryz.func28,Tryz.ntmps28;go_upto_region 1 with fail;rw[<- lI.o];go_upto_region 3 with(go_at_call 51;rw[<- Zw.o];refine vY.o.mono ?_;rintro e w1 ⟨rfl,hb1⟩;have gj:=ai (dz.o.trans (hb1.mono dz.o.size));have R1:=ai (RB.o _ hb1);have F1:=ai (FB.o _ hb1);clear hb1)
   obtain⟨y0,y1,y2,y3,y4⟩:=fy R1.o;obtain⟨z0,z1⟩:=nM F1.o;have f0:=aO R1.o 0;have f1:=aO R1.o 1;have f2:=aO R1.o 2;have f3:=aO R1.o 3;have f4:=aO R1.o 4;have g0:=aO F1.o 0;have g1:=aO F1.o 1;have h7:=ai (fun V=>uj R1.o F1.o (by omega) Nl Nl Nl Nl (I 0) (I 0) (I 0) (V:=V));go_wp2;obtain⟨q1,q2,q3⟩:=h7.out _ rfl;obtain⟨y0,y1,y2,y3,y4⟩:=fy q1;obtain⟨z0,z1⟩:=nM q2;refine cm (v:=.tuple #[.agg #[Nl,Nl,Nl,Nl,I 0],.agg #[I 0,I 0],I C]) (by simp[results,Tryz.results28,go_sem,y0,y1,y2,y3,y4,z0,z1]) rfl ?_;exact cV.o _ (aM.below gj.o q3 gj.o.size (fun b e=>by omega))
open Go.RowKit
open Go.RowKit
theorem WJ {l:List aZ} {hs:List bR} {en nf ns:Int} (hc:ld l hs en=0) (h64:nf<=64) (aih:ns<=512) {hs1:List bR} (s:cW (rp l hs nf ns).aD hs1):iI (bN (rp l hs nf ns) hs1):=by
 obtain⟨r1,r2,r3⟩:=DC hc;have hl:hs1.length=hs.length:=by have:=dQ List.length s;simpa [rp] using this
 have htb:=nr l;have hr:ed hs1=true:=by rw[GC s];exact r2
 refine⟨⟨by show bT hs1.length;unfold bT;omega,fun k hk=>GN (ng hs1 hs1.length hr k hk).1⟩,?_,fun i hi=>?_,?_,fun i hi=>?_,?_,fun i hi=>?_,⟨by show -9223372036854775808<=(0:Int);omega,by show(0:Int)<=9223372036854775807;omega⟩⟩
 · show bT (List.replicate nf.toNat eW).length;rw[pG];unfold bT;omega
 · have hi:i<(List.replicate nf.toNat eW).length:=hi;rw[pG] at hi;show bT ((List.replicate nf.toNat eW).getD i eW).data.size/\eY ((List.replicate nf.toNat eW).getD i eW).refs;rw[Db _ _ _ _ hi];exact⟨by unfold bT;decide,⟨by decide,by decide⟩⟩
 · show bT (List.replicate ns.toNat jS).length;rw[pG];unfold bT;omega
 · have hi:i<(List.replicate ns.toNat jS).length:=hi;rw[pG] at hi;show bT ((List.replicate ns.toNat jS).getD i jS).data.size/\eY ((List.replicate ns.toNat jS).getD i jS).refs;rw[Db _ _ _ _ hi];exact⟨by unfold bT;decide,⟨by decide,by decide⟩⟩
 · show bT 1;unfold bT;decide
 · have hi:i<1:=hi;obtain rfl:i=0:=by omega
   exact⟨lC _ r1,by show bT 0;unfold bT;decide,fun n hn=>absurd hn (gN _)⟩
theorem Ur {hs1:List bR} (s:cW dK.aD hs1):iI (bN dK hs1):=by
 obtain rfl:hs1=[]:=by simpa [cW,dK] using s
 refine⟨⟨by show bT 0;unfold bT;decide,fun k hk=>absurd hk (gN _)⟩,by show bT 0;unfold bT;decide,fun i hi=>absurd hi (gN _),by show bT 0;unfold bT;decide,fun i hi=>absurd hi (gN _),by show bT 0;unfold bT;decide,fun i hi=>absurd hi (gN _),⟨by show -9223372036854775808<=(0:Int);omega,by show(0:Int)<=9223372036854775807;omega⟩⟩
def og (N:Nat) (k:aN) (c:Array Value) (w:World):Prop:=∃hs a,cW k.aD hs/\c=bg a (bN k hs)/\∀U,aM (fun b=>b<N) w U->gD U a (bN k hs)
theorem og.cells {N:Nat} {k:aN} {c:Array Value} {w:World} (h:og N k c w):∃s1 kX q1 s2 n2 q2 s3 n3 q3 s4 n4 q4 hd,c=#[.slice s1 kX q1,.slice s2 n2 q2,.slice s3 n3 q3,.slice s4 n4 q4,I hd]:=by
 obtain⟨hs,a,_,h2,_⟩:=h;exact⟨_,_,_,_,_,_,_,_,_,_,_,_,_,h2⟩
theorem Un {w w':World} {k:aN} {e:Ending} (h:oW w k e w'):∃c,e=.returned (.agg c)/\og w.heap.size k c w'/\Below w.heap.size w w':=by
 obtain⟨S,hs,h1,h2,h3,h4⟩:=h;obtain⟨a,e1,e2⟩:=CF h3;exact⟨_,h2,⟨hs,a,h1,e1,e2⟩,h4⟩
theorem Af {N N':Nat} {k:aN} {c c':Array Value} {V V' U:World} (h:og N k c V) (h':og N' k c' V') (hf:∀hs1,cW k.aD hs1->iI (bN k hs1)) (g:aM (fun b=>b<N) V U) (g':aM (fun b=>b<N') V' U) :
  Calls Tryz.prog 20 #[.agg c,.agg c'] U fun e w'=>e=.returned (.bool true)/\Below U.heap.size U w':=by
 obtain⟨hs,a,h1,h2,h3⟩:=h;obtain⟨hs',a',h1',h2',h3'⟩:=h';subst h2 h2';have s:cW (bN k hs).aD hs':=by
  show hs'.map dB=hs.map dB;exact Eq.trans (show hs'.map dB=k.aD.map dB from h1') (Eq.symm (show hs.map dB=k.aD.map dB from h1))
 exact Eu (bN k hs) hs' a a' U (h3 U g) (h3' U g') s (hf hs h1)
theorem Rq (l:List aZ) (hs:List bR) (en nf ns:Int):((uk l hs en nf ns).1=dK/\(uk l hs en nf ns).2≠0)∨(ld l hs en=0/\3<=nf/\nf<=64/\0<=ns/\ns<=512/\uk l hs en nf ns=(rp l hs nf ns,0)):=by
 unfold uk;by_cases c:ld l hs en=0
 · rw[bf (fun x=>x c)];by_cases c3:nf<3
   · rw[aR c3];exact .inl ⟨rfl,by decide⟩
   rw[bf c3];by_cases cr:nf>64∨ns<0∨ns>512
   · rw[aR cr];exact .inl ⟨rfl,by decide⟩
   rw[bf cr];by_cases ct:dU l>ns
   · rw[aR ct];exact .inl ⟨rfl,by decide⟩
   rw[bf ct];exact .inr ⟨c,by omega,by omega,by omega,by omega,rfl⟩
 · rw[aR c];exact .inl ⟨rfl,c⟩
open Go.RowKit
open Go.RowKit
structure pY (D:Nat->Prop) (W V:World):Prop where
 kp:aM D W V
 form:∀(b:Nat) (C:Array Value) (t:TypeId),W.heap[b]?=some (.cells C t (0,0))->∃C':Array Value,V.heap[b]?=some (.cells C' t (0,0))/\C'.size=C.size
theorem pY.refl (D:Nat->Prop) (W:World):pY D W W:=⟨aM.refl _ _,fun b C t h=>⟨C,h,rfl⟩⟩
theorem pY.set {D:Nat->Prop} {W V:World} (h:pY D W V) {g:Nat} (hg:D g) (j:Nat) (u:Value):pY D W (V.setCell (Ad g j) u) :=
 ⟨h.kp.trans (aM.set D V (Ad g j) u hg) (fun _ _ e=>e),fun b C t hb=>by
  obtain⟨C',h1,h2⟩:=h.form b C t hb;by_cases e:b=g
  · subst e;exact⟨_,dD h1 j u,by rw[Array.size_setIfInBounds];exact h2⟩
  · exact⟨C',iM h1 g j u e,h2⟩⟩
structure xh (D:Nat->Prop) (W:World) (ao:Option Addr) (i m:Nat):Prop where
 is:∃g C t,ao=some (Ad g 0)/\D g/\W.heap[g]?=some (.cells C t (0,0))/\i*m+m<=C.size
theorem xh.at_ {D:Nat->Prop} {W V:World} {ao:Option Addr} {i m:Nat} (p:xh D W ao i m) (h:pY D W V):∃g,ao=some (Ad g 0)/\D g/\(∀j,j<m->∃v,V.cell? (Ad g (i*m+j))=some v)/\∀j,V.frozen? (Ad g j)=false:=by
 obtain⟨g,C,t,h1,h2,h3,h4⟩:=p.is;obtain⟨C',g1,g2⟩:=h.form g C t h3;exact⟨g,h1,h2,fun j hj=>⟨C'[i*m+j]'(by omega),aB g1 _ (by simp)⟩,fun j=>aO g1 j⟩
theorem rI {D:Nat->Prop} {w:World} {base:Nat} {e:TypeId} {m n:Nat} {v:Value} {xs:List Value} (h:w.ownsRow base e m v n xs) (hD:∀b,bQ v b->D b):∃ao cap,v=.slice ao n cap/\n<=9223372036854775807/\∀i,i<n->xh D w ao i m:=by
 obtain⟨_,⟨rfl,rfl⟩ | ⟨g,cap,cur,rfl,h1,h2,h3,h4,h5,h6⟩⟩:=h
 · exact⟨none,0,rfl,by omega,fun i hi=>absurd hi (gN _)⟩
 · refine⟨_,cap,rfl,by unfold maxLen at h4;omega,fun i hi=>⟨g,cur,e,rfl,hD g rfl,h2,?_⟩⟩;rw[h5,<- Ka];exact Kw _ (by omega)
def sU:jO->Bool
 | .frames=>true
 | .bk _=>true
 | .aU _=>true
 | .cM _=>true
 | _=>false
structure Pk (N:Nat) (W:World) (D:Nat->Prop) (s1:Option Addr) (n1:Nat) (s2:Option Addr) (n2:Nat) (s4:Option Addr) (n4:Nat):Prop where
 low:∀b,D b->N<=b/\b<W.heap.size
 le:n1<=9223372036854775807/\n2<=9223372036854775807/\n4<=9223372036854775807
 fr:∀i,i<n2->xh D W s2 i 4
 sp:∀i,i<n4->∃(pb:Nat) (ea:Option Addr) (en eq:Nat) (aa:Option Addr) (an aq:Nat),s4=some (Ad pb 0)/\(∀V,aM D W V->V.cell? (Ad pb (i*3+1))=some (.slice aa an aq)/\V.cell? (Ad pb (i*3+2))=some (.slice ea en eq))/\(en<=9223372036854775807/\an<=9223372036854775807)/\(∀j,j<en->xh D W ea j 3)/\∀j,j<an->xh D W aa j 4
 sh:∀i,i<n1->∃(sb:Nat) (xa:Option Addr) (xn xq:Nat),s1=some (Ad sb 0)/\(∀V,aM D W V->V.cell? (Ad sb (i*3+2))=some (.slice xa xn xq))/\xn<=9223372036854775807/\∀j,j<xn->xh D W xa j 2
theorem aba {lo:Nat} {w:World} {S:dE} {k:aN} (h:Kr lo w S k):∃s1 q1 s2 q2 s3 q3 s4 q4,S.vS=.slice s1 k.aD.length q1/\S.vF=.slice s2 k.frames.length q2/\S.vL=.slice s3 k.slots.length q3/\S.vP=.slice s4 k.aj.length q4/\Pk lo w (fun b=>sU (S.lab b)=true) s1 k.aD.length s2 k.frames.length s4 k.aj.length:=by
 obtain⟨s1,q1,e1,l1,_⟩:=rI (D:=fun _=>True) h.aD (fun _ _=>trivial);obtain⟨s2,q2,e2,l2,p2⟩:=rI (D:=fun b=>sU (S.lab b)=true) h.frames (fun b hb=>by rw[h.lF b hb];rfl);obtain⟨s3,q3,e3,l3,_⟩:=rI (D:=fun _=>True) h.slots (fun _ _=>trivial);obtain⟨s4,q4,e4,l4,_⟩:=rI (D:=fun _=>True) h.aj (fun _ _=>trivial);rw[h.len] at e4 l4;refine⟨s1,q1,s2,q2,s3,q3,s4,q4,e1,e2,e3,e4,⟨fun b hb=>h.rV b (fun e=>by rw[e] at hb;cases hb),⟨l1,l2,l4⟩,p2,fun i hi=>?_,fun i hi=>?_⟩⟩
 · obtain⟨pb,cP,A⟩:=h.sp (by omega);obtain⟨aa,aq,ea1,la,pa⟩:=rI (D:=fun b=>sU (S.lab b)=true) (h.each i hi).bk (fun b hb=>by rw[h.lA i hi b hb];rfl);obtain⟨ea,eq,ee1,le,pe⟩:=rI (D:=fun b=>sU (S.lab b)=true) (h.each i hi).bC (fun b hb=>by rw[h.lE i hi b hb];rfl);have hs:s4=some (Ad pb 0):=by have:=e4.symm.trans A.v;simp at this;exact this.1
   refine⟨pb,ea,_,eq,aa,_,aq,hs,fun V hV=>⟨?_,?_⟩,⟨le,la⟩,pe,pa⟩
   · have:=hV.cell (A.x1 i hi) (by show ¬sU (S.lab pb)=true;rw[A.lab];simp[sU]);rw[ea1] at this;exact this
   · have:=hV.cell (A.x2 i hi) (by show ¬sU (S.lab pb)=true;rw[A.lab];simp[sU]);rw[ee1] at this;exact this
 · obtain⟨xa,xq,ex1,lx,px⟩:=rI (D:=fun b=>sU (S.lab b)=true) (h.cM i hi) (fun b hb=>by rw[h.lX i hi b hb];rfl);obtain⟨ao,cap,e,hc,hg⟩:=aY h.aD;obtain⟨sb,rfl,hg1,hg2⟩:=hg (by omega);have hr:=h.aD;rw[e] at hr;have hs:s1=some (Ad sb 0):=by have:=e1.symm.trans e;simp at this;exact this.1
   have lb:S.lab sb=.aD:=h.lS sb (by rw[e];rfl);have at_:w.cell? (Ad sb (i*3+2))=some (vd (aV k.aD i)):=jJ fN (fun _=>rfl) tE hr i 2 hi (by omega);refine⟨sb,xa,_,xq,hs,fun V hV=>?_,lx,px⟩;have:=hV.cell at_ (by show ¬sU (S.lab sb)=true;rw[lb];simp[sU]);rw[ex1] at this;exact this
open Go.RowKit
theorem Oc {K:aN} (h:K=dK∨bc K):∀hs1,cW K.aD hs1->iI (bN K hs1):=fun hs1 s=>by
 rcases h with rfl | h
 · exact Ur s
 · exact o5 (h.Du s)
open Go.RowKit
structure Ml (N:Nat) (W:World) (s1:Option Addr) (n1:Nat):Prop where
 low:∀b,s1=some (Ad b 0)->N<=b/\b<W.heap.size
 le:n1<=9223372036854775807
 sh:∀i,i<n1->xh (fun b=>s1=some (Ad b 0)) W s1 i 3
theorem Zp {lo:Nat} {w:World} {e:TypeId} {n:Nat} {v:Value} {xs:List Value} (h:w.ownsRow lo e 3 v n xs):∃ao cap,v=.slice ao n cap/\Ml lo w ao n:=by
 obtain⟨_,⟨rfl,rfl⟩ | ⟨g,cap,cur,rfl,h1,h2,h3,h4,h5,h6⟩⟩:=h
 · exact⟨none,0,rfl,fun b hb=>(by cases hb),by omega,fun i hi=>absurd hi (gN _)⟩
 · refine⟨_,cap,rfl,fun b hb=>?_,by unfold maxLen at h4;omega,fun i hi=>⟨g,cur,e,rfl,rfl,h2,?_⟩⟩
   · injection hb with hb;injection hb with hb;subst hb;exact⟨h1,aT h2⟩
   · rw[h5,<- Ka];exact Kw _ (by omega)
theorem xh.below {D:Nat->Prop} {W V:World} {ao:Option Addr} {i m:Nat} (p:xh D W ao i m) (h:Below W.heap.size W V):xh D V ao i m:=by
 obtain⟨g,C,t,h1,h2,h3,h4⟩:=p.is;exact⟨g,C,t,h1,h2,aQ h3 h (aT h3),h4⟩
theorem Um {N:Nat} {W V:World} {D:Nat->Prop} {s1:Option Addr} {n1:Nat} {s2:Option Addr} {n2:Nat} {s4:Option Addr} {n4:Nat} (h:Pk N W D s1 n1 s2 n2 s4 n4) (hb:Below W.heap.size W V):Pk N V D s1 n1 s2 n2 s4 n4:=by
 refine⟨fun b hd=>⟨(h.low b hd).1,iH (h.low b hd).2 hb.size⟩,h.le,fun i hi=>(h.fr i hi).below hb,fun i hi=>?_,fun i hi=>?_⟩
 · obtain⟨pb,ea,en,eq,aa,an,aq,h1,h2,h3,h4,h5⟩:=h.sp i hi;exact⟨pb,ea,en,eq,aa,an,aq,h1,fun U hU=>h2 U ((aM.cH hb).trans hU (fun _ _ e=>e)),h3,fun j hj=>(h4 j hj).below hb,fun j hj=>(h5 j hj).below hb⟩
 · obtain⟨sb,xa,xn,xq,h1,h2,h3,h4⟩:=h.sh i hi;exact⟨sb,xa,xn,xq,h1,fun U hU=>h2 U ((aM.cH hb).trans hU (fun _ _ e=>e)),h3,fun j hj=>(h4 j hj).below hb⟩
theorem Uq {N:Nat} {W V:World} {s1:Option Addr} {n1:Nat} (h:Ml N W s1 n1) (hb:Below W.heap.size W V):Ml N V s1 n1:=⟨fun b hd=>⟨(h.low b hd).1,iH (h.low b hd).2 hb.size⟩,h.le,fun i hi=>(h.sh i hi).below hb⟩
theorem Mk {w w':World} {K:aN} {vs:List Value} {e:Ending} (h:dg w K vs e w'):∃s1 n1 q1 s2 n2 q2 s3 n3 q3 s4 n4 q4 hd D,e=.returned (.tuple (Value.agg #[.slice s1 n1 q1,.slice s2 n2 q2,.slice s3 n3 q3,.slice s4 n4 q4,I hd]::vs).toArray)/\og w.heap.size K #[.slice s1 n1 q1,.slice s2 n2 q2,.slice s3 n3 q3,.slice s4 n4 q4,I hd] w'/\Pk w.heap.size w' D s1 n1 s2 n2 s4 n4/\Ml w.heap.size w' s1 n1/\Below w.heap.size w w':=by
 obtain⟨S,hs,h1,h2,h3,h4⟩:=h;obtain⟨a,e1,e2⟩:=CF h3;obtain⟨s1,q1,s2,q2,s3,q3,s4,q4,x1,x2,x3,x4,hw⟩:=aba h3;have hd:Ml w.heap.size w' s1 (bN K hs).aD.length:=by
  obtain⟨ao,cap,e,kd⟩:=Zp h3.aD;rw[x1] at e;obtain⟨rfl,_⟩:s1=ao/\True:=by injection e with e1 e2 e3;exact⟨e1,trivial⟩
  exact kd
 rw[x1,x2,x3,x4] at e1 h2;exact⟨s1,_,q1,s2,_,q2,s3,_,q3,s4,_,q4,K.hand,_,h2,⟨hs,a,h1,e1,e2⟩,hw,hd,h4⟩
open Go.RowKit
open Go.RowKit
def kT (es:List bG) (i:Nat) (x:bG):List bG:=es.take i++x::es.drop i
theorem Ew (es:List bG) (i:Nat) (x:bG) (hi:i<=es.length):(kT es i x).length=es.length+1:=by
 unfold kT;rw[fk,rX,xC,Ki];omega
theorem Zj (es:List bG) (i:Nat) (x:bG) (hi:i<=es.length) (m:Nat) (hm:m<i):aH (kT es i x) m=aH es m:=by
 unfold kT aH;rw[lU,lU,KD (by rw[rX];omega),List.getElem?_take,aR hm]
theorem Wj (es:List bG) (i:Nat) (x y:bG) (hi:i<=es.length):(kT es i x).set i y=kT es i y:=by
 unfold kT;have hl:(es.take i).length=i:=by rw[rX];omega
 rw[vv _ _ (by omega),hl,Nat.sub_self];rfl
theorem T7 (es:List bG) (i:Nat) (hi:i<es.length):kT es (i+1) (aH es i)=kT es i (aH es i):=by
 have he:aH es i=es[i]:=by unfold aH;rw[lU,q9 hi];rfl
 unfold kT;have h1:es.take (i+1)=es.take i++[es[i]]:=by rw[XY,q9 hi];rfl
 have h2:es.drop i=es[i]::es.drop (i+1):=ab9 hi;rw[he,h1,h2,rW];rfl
theorem LV (es:List bG) (x:bG):kT es es.length x=es++[x]:=by
 unfold kT;rw[qd,List.drop_length]
theorem Wk (es:List bG) (e:bG) (i:Nat) (hi:i<=es.length) (hr:iw es) (hno:∀j,j<es.length->(aH es j).page≠e.page) (h1:∀j,j<es.length->i<=j->e.page<(aH es j).page) (h2:0<i->¬e.page<(aH es (i-1)).page):kT es i e=iK es e:=by
 have hlt:∀j,j<i->(aH es j).page<e.page:=fun j hj=>by
  have a:=hno (i-1) (by omega);have b:=h2 (by omega);by_cases c:j=i-1
  · subst c;omega
  · have hr:=P7.1 hr j (i-1) (by rw[ub];omega) (by rw[ub];omega) (by omega);rw[List.getElem_map,List.getElem_map] at hr;have e1:aH es j=es[j]'(by omega):=by unfold aH;rw[lU,q9 (by omega)];rfl
    have e2:aH es (i-1)=es[i-1]'(by omega):=by unfold aH;rw[lU,q9 (by omega)];rfl
    rw[e1];rw[e2] at a b;omega
 by_cases c:i=es.length
 · subst c;rw[LV,BG es e hlt]
 · have hi':i<es.length:=by omega
   rw[Dc es e i hi' hlt (by have:=h1 i hi' (aI _);omega),bf (hno i hi')];rfl
def lZ (k:aN) (j:Nat) (L:List bG):aN:={ k with aj:=k.aj.set j (dG (ak k.aj j) L) }
theorem Ws (k:aN) (j:Nat) (L:List bG):(lZ k j L).aj.length=k.aj.length:=iG
theorem O9 (k:aN) {j:Nat} (hj:j<k.aj.length) (L:List bG):ak (lZ k j L).aj j=dG (ak k.aj j) L:=by
 show ak (k.aj.set j _) j=_;rw[lO _ _ _ _ hj,aR rfl]
theorem Zl (k:aN) {j:Nat} (hj:j<k.aj.length) (L M:List bG):({ lZ k j L with aj:=(lZ k j L).aj.set j (dG (ak (lZ k j L).aj j) M) }:aN)=lZ k j M:=by
 rw[O9 k hj];unfold lZ;simp only[pF];rfl
theorem I5 (k:aN) (j:Nat):lZ k j (ak k.aj j).aU=k:=by
 unfold lZ;have:k.aj.set j (dG (ak k.aj j) (ak k.aj j).aU)=k.aj:=by
  by_cases h:j<k.aj.length
  · have e:ak k.aj j=k.aj[j]:=by unfold ak;rw[lU,q9 h];rfl
    show k.aj.set j (ak k.aj j)=_;rw[e,List.set_getElem_self]
  · exact acd (by omega)
 rw[this]
theorem LX (k:aN) (j:Nat) (e:bG):df k j e=lZ k j (iK (ak k.aj j).aU e):=rfl
structure QX (lo mb:Nat) (tt:TypeId) (X:List Value) (V:World) (S:dE) (k:aN) (j:Nat) (L:List bG) (pb gb cG:Nat):Prop where
 v:V.cell? (Ad pb (j*3+2))=some (.slice (some (Ad gb 0)) L.length cG)
 x0:∀m,m<L.length->V.cell? (Ad gb (m*3))=some (I (aH L m).page)
 x1:∀m,m<L.length->V.cell? (Ad gb (m*3+1))=some (I (aH L m).kind)
 x2:∀m,m<L.length->V.cell? (Ad gb (m*3+2))=some (I (aH L m).loc)
 fz:∀o,V.frozen? (Ad gb o)=false
 lab:S.lab gb=.aU j
 lay:∀i e,i<L.length->bu lo mb tt X (((V.setCell (Ad gb (i*3)) (I e.page)).setCell (Ad gb (i*3+1)) (I e.kind)).setCell (Ad gb (i*3+2)) (I e.loc)) S (lZ k j (L.set i e))/\bU S V S (((V.setCell (Ad gb (i*3)) (I e.page)).setCell (Ad gb (i*3+1)) (I e.kind)).setCell (Ad gb (i*3+2)) (I e.loc))
theorem T9 {lo mb:Nat} {tt:TypeId} {X:List Value} {V:World} {S:dE} {k:aN} {j:Nat} {L:List bG} {pb nP cP:Nat} (h:bu lo mb tt X V S (lZ k j L)) (hj:j<k.aj.length) (hL:0<L.length) (hP:S.vP=.slice (some (Ad pb 0)) nP cP):∃gb cG,QX lo mb tt X V S k j L pb gb cG:=by
 have hj':j<(lZ k j L).aj.length:=by rw[Ws];exact hj
 obtain⟨KO,cP',A⟩:=h.toKr.sp (by omega);obtain rfl:pb=KO:=by have ev:=hP.symm.trans A.v;simp at ev;exact ev.1
 have hs:=(h.each j hj').bC;have hsp:=O9 k hj L;rw[hsp] at hs;have hs:V.ownsRow lo 45 3 (fZ S.L j).vp L.length (L.flatMap bj):=hs;obtain⟨ao,cap,e,_,hg⟩:=aY hs;obtain⟨g,rfl,_,_⟩:=hg hL;have a2:=A.x2 j hj';rw[e] at a2;have hs2:=hs;rw[e] at hs2;have at_:=fun m (hm:m<L.length) c (hc:c<3)=>jJ bj (fun _=>rfl) dW hs2 m c hm hc
 refine⟨g,cap,a2,fun m hm=>at_ m hm 0 (by omega),fun m hm=>at_ m hm 1 (by omega),fun m hm=>at_ m hm 2 (by omega),gp hs2,h.lE j hj' g (by rw[e];rfl),fun i en hi=>?_⟩;have m:=aed.ag6 h (j:=j) hj' e (i:=i) (by rw[hsp];exact hi) en;rw[Zl k hj] at m;rw[hsp] at m;exact m
end Go.Proofs.YtpgifpeohlllfaaGreat
