import Derived.Test.YtlgoihmkgaaemaaGreatGO22
set_option maxHeartbeats 20000000
set_option linter.unusedVariables false
set_option maxRecDepth 100000
set_option linter.unusedSimpArgs false
namespace Go.Proofs.YtlgoihmkgaaemaaGreat
open Go.RowKit
def py (k:aR) (sp a:Int) (d:ByteArray):aR×(Int×Int)×Int:=if ja k sp d.size 1 [1]≠0 then (dX,(0,0),ja k sp d.size 1 [1]) else if (bR (ak k.aj sp.toNat).aT a d.size 1).1≠0 then (dX,bR (ak k.aj sp.toNat).aT a d.size 1,0) else (lJ k sp.toNat a d,(0,0),0)
theorem abE (V:World):eB iF 1 0 (V.alloc (.cells #[I 1] 3)) (some (Ad V.heap.size 0)) [1]:=fun _=>by
 have h:=bB V #[I 1] 3;refine⟨V.heap.size,0,rfl,aJ h,fun i hi j hj=>?_⟩;obtain rfl:j=0:=by omega
 have hi:i<1:=hi;obtain rfl:i=0:=by omega
 exact aq h 0 rfl
theorem V6 (Hi:rO) (k:aR) (a:iH) (sp ad:Int) (d:ByteArray) (w:World) (hK:jg w a k) (hF:nZ k) (hsp:cN sp) (had:cN ad) :
  Calls Tryz.prog 265 #[.agg (bc a k),I sp,I ad,.string d] w (cu w (py k sp ad d).1 [.agg #[I (py k sp ad d).2.1.1,I (py k sp ad d).2.1.2],I (py k sp ad d).2.2]):=by
 obtain⟨WA,lu⟩:=ex (((w.alloc (.cells (bc a k) 30)).alloc (.cells #[Nl,Nl,Nl,Nl,I 0] 30)).alloc (.cells #[I 0,I 0] 75));have hb0:Below w.heap.size w WA:=by rw[lu];exact(((aK _ _).alloc (aD _) _).alloc (by simp) _).alloc (by simp;omega) _
 have kb:WA.heap[w.heap.size]?=some (.cells (bc a k) 30 (0,0)):=by grind [bk,bB]
 have rb:WA.heap[w.heap.size+1]?=some (.cells #[Nl,Nl,Nl,Nl,I 0] 30 (0,0)):=by
  grind [bk,bB,World.size_alloc]
 have fb:WA.heap[w.heap.size+1+1]?=some (.cells #[I 0,I 0] 75 (0,0)):=by
  grind [bB,World.size_alloc]
 have hsz:WA.heap.size=w.heap.size+3:=by simp_all
 obtain⟨WB,hWB⟩:=ex (WA.alloc (.cells #[I 1] 3));have hb1:Below w.heap.size w WB:=by grind [Below.alloc]
 have hrow:eB iF 1 0 WB (some (Ad WA.heap.size 0)) [1]:=by grind [abE]
 have aaV:WB.heap.size=w.heap.size+4:=by simp_all
 have RB:Hid (∀V,Below WB.heap.size WB V->V.heap[w.heap.size+1]?=some (.cells #[Nl,Nl,Nl,Nl,I 0] 30 (0,0))):=fun V hb=>aN (by grind [bk]) hb (by omega)
 have FB:Hid (∀V,Below WB.heap.size WB V->V.heap[w.heap.size+1+1]?=some (.cells #[I 0,I 0] 75 (0,0))):=fun V hb=>aN (by grind [bk]) hb (by omega)
 have k0:WA.cell? (Ad w.heap.size 0)=some (.slice a.aS k.aM.length a.cS):=aq kb 0 rfl;have k1:WA.cell? (Ad w.heap.size 1)=some (.slice a.aF k.frames.length a.cF):=aq kb 1 rfl;have k2:WA.cell? (Ad w.heap.size 2)=some (.slice a.aL k.slots.length a.cL):=aq kb 2 rfl;have k3:WA.cell? (Ad w.heap.size 3)=some (.slice a.aP k.aj.length a.cP):=aq kb 3 rfl;have k4:WA.cell? (Ad w.heap.size 4)=some (I k.hand):=aq kb 4 rfl;have sB:=ai lu;have HWB:=ai hWB;have cH:=ai hb1;by_cases c:ja k sp (d.size:Int) 1 [1]=0
 · obtain⟨hlv,hn,hwy⟩:=KN c;obtain⟨hR,Jg,hj,uu⟩:=pS hlv;obtain⟨j,hje⟩:∃j:Nat,sp=(j:Int):=⟨sp.toNat,by omega⟩;subst hje;rw[jz] at hj uu;have AG:=ai (Iq Hi k a (j:Int) (d.size:Int) 1 [1] (some (Ad WA.heap.size 0)) 1 WB (hK.below hb1) hF hsp hrow (by simp) c);rw[show([1]:List Int).length=1 from rfl] at AG;have Uq:w.heap.size+1≠w.heap.size+1+1:=by omega
   have HLB:=ai (show w.heap.size+1+1<WB.heap.size by omega);by_cases hf:(bR (ak k.aj j).aT ad (d.size:Int) 1).1=0
   · obtain⟨hf0,hal,hau,hmap⟩:=rZ hn.1 hn.2 hf;have ni:dV k j (ad/16):=by
      have:=hmap 0 (by omega) (by omega);rw[Dn] at this;exact this
     have hm2:dV k j (cB ad (d.size:Int)):=by
      have:=hmap ((d.size:Int)-1) (by omega) (by omega);unfold cB;rw[show ad+(d.size:Int)-1=ad+((d.size:Int)-1) by omega];exact this
     have RH:=od hR hj ad (d.size:Int) 1 ni hm2;have hcc:=hR.c;have adK:0<(aZ k j ad (d.size:Int) 1).2.frames.length:=by rw[RH.kept.nf];omega
     have Qb:(aZ k j ad (d.size:Int) 1).1.length<=2:=by
      rw[(Bh k j ad (d.size:Int) 1).2.2];unfold nY
      grind
     have Ox:∀m,m<(aZ k j ad (d.size:Int) 1).1.length->(aZ k j ad (d.size:Int) 1).1.getD m 0<(aZ k j ad (d.size:Int) 1).2.frames.length:=fun m hm=>by
      rw[RH.kept.nf];by_cases z:cB ad (d.size:Int)=ad/16
      · have e:(aZ k j ad (d.size:Int) 1).1=[(fp k j ad 1).1]:=by unfold aZ;rw[aB z]
        rw[e] at hm ⊢;have hm:m<1:=hm;obtain rfl:m=0:=by omega
        exact RH.one.2
      · have e:(aZ k j ad (d.size:Int) 1).1=[(fp k j ad 1).1,(kI k j ad (d.size:Int) 1).1]:=by unfold aZ;rw[au z]
        rw[e] at hm ⊢;have hm:m<2:=hm;rcases(show m=0∨m=1 by omega) with rfl | rfl
        · exact RH.one.2
        · exact(RH.two z).2
     have Yt:∀m,m<(aZ k j ad (d.size:Int) 1).1.length->(aH (aZ k j ad (d.size:Int) 1).2.frames ((aZ k j ad (d.size:Int) 1).1.getD m 0)).data.size<=1000:=fun m hm=>by
      have hi:=Ox m hm;by_cases z:(aH (aZ k j ad (d.size:Int) 1).2.frames ((aZ k j ad (d.size:Int) 1).1.getD m 0)).refs=0
      · have:=(RH.right.zP _ hi).zero ((RH.right.zP _ hi).nil z);rw[this];show(0:Nat)<=1000;omega
      · have:=(RH.right.zP _ hi).size ((RH.right.zP _ hi).ne z);omega
     have hPg:Eg (bY k j) ad (d.size:Int):=⟨pH hR hj ni,pH hR hj hm2⟩;have hfit:=Bq hPg hn.1 hn.2;have hjs:=zz hPg hn.1 hn.2;have Ni:=xW hR hj ad (d.size:Int) 1 ni hm2;have apz:=hjs;have hlL:(iD (iP (aZ k j ad (d.size:Int) 1).2.frames (aZ k j ad (d.size:Int) 1).1 (aZ k j ad (d.size:Int) 1).1.length) (ad%16).toNat d).size=(nO (bY k j) ad (d.size:Int)).size:=by
      rw[Ni];exact Lg _ _ _ (by omega)
     have hpl:(aZ k j ad (d.size:Int) 1).1.length*16=(nO (bY k j) ad (d.size:Int)).size:=by
      rw[(Bh k j ad (d.size:Int) 1).2.2];unfold nY;split at hjs <;> rename_i z
      · rw[aB z];omega
      · rw[au z];omega
     have apT:(nO (bY k j) ad (d.size:Int)).size<=32:=by omega
     have HLY:Hid (∀V,Calls Tryz.prog 124 #[.string (iP (aZ k j ad (d.size:Int) 1).2.frames (aZ k j ad (d.size:Int) 1).1 (aZ k j ad (d.size:Int) 1).1.length),I (((ad%16).toNat:Nat):Int),.string d] V fun e w'=>e=.returned (.tuple #[.string (iD (iP (aZ k j ad (d.size:Int) 1).2.frames (aZ k j ad (d.size:Int) 1).1 (aZ k j ad (d.size:Int) 1).1.length) (ad%16).toNat d),I 0])/\Below V.heap.size V w'):=fun V=>JN _ d (ad%16).toNat V (by rw[Ni];omega) (by rw[Ni];omega)
     have ajH:ad.tmod 16=(((ad%16).toNat:Nat):Int):=by
      rw[acU (by omega)];omega
     have hST:=wy hR hj ad d hn.1 hn.2 ni hm2;have hsk:=hST.aM;have hA:py k (j:Int) ad d=(lJ k j ad d,(0,0),0):=by
      unfold py;rw[au (fun x=>x c),jz,au (fun x=>x hf)]
     rw[hA];have Dl:Hid (∀V S mb hs,cA k.aM hs->bJ WB.heap.size mb 158 (iq k) V S (aU k hs)->Below w.heap.size w V->V.heap[w.heap.size+1]?=some (.cells #[Nl,Nl,Nl,Nl,I 0] 30 (0,0))->V.heap[w.heap.size+1+1]?=some (.cells #[I 0,I 0] 75 (0,0))->Calls Tryz.prog 272 #[.pointer (some (Ad mb 0)),I (j:Int),I ad,I (d.size:Int),I 1] V fun e w'=>∃av nv cv,e=.returned (.tuple #[.slice av nv cv,.agg #[I 0,I 0]])/\(∀V',Below w'.heap.size w' V'->Calls Tryz.prog 273 #[.pointer (some (Ad mb 0)),.slice av nv cv] V' fun e w''=>e=.returned (.string (iP (aZ k j ad (d.size:Int) 1).2.frames (aZ k j ad (d.size:Int) 1).1 (aZ k j ad (d.size:Int) 1).1.length))/\w''=V')/\(∀V',Below w'.heap.size w' V'->Calls Tryz.prog 278 #[.pointer (some (Ad mb 0)),.slice av nv cv,.string (iD (iP (aZ k j ad (d.size:Int) 1).2.frames (aZ k j ad (d.size:Int) 1).1 (aZ k j ad (d.size:Int) 1).1.length) (ad%16).toNat d)] V' fun e w''=>∃aS nS cS aF nF cF aL nL cL aP nP cP hd,e=.returned (.tuple #[])/\w''.cell? (Ad mb 0)=some (.slice aS nS cS)/\w''.cell? (Ad mb 1)=some (.slice aF nF cF)/\w''.cell? (Ad mb 2)=some (.slice aL nL cL)/\w''.cell? (Ad mb 3)=some (.slice aP nP cP)/\w''.cell? (Ad mb 4)=some (I hd)/\w''.heap[w.heap.size+1]?=some (.cells #[Nl,Nl,Nl,Nl,I 0] 30 (0,0))/\w''.heap[w.heap.size+1+1]?=some (.cells #[I 0,I 0] 75 (0,0))/\(∀U,aC (fun b=>b=w.heap.size+1∨b=w.heap.size+1+1) w'' U->cu w (lJ k j ad d) [.agg #[I 0,I 0],I 0] (.returned (.tuple #[.agg #[.slice aS nS cS,.slice aF nF cF,.slice aL nL cL,.slice aP nP cP,I hd],.agg #[I 0,I 0],I 0])) U))):=fun V S mb hs hsame hV hbV hrV hfV=>by
      have hR':=hR.vJ hsame;refine(Ir (aU k hs) S V j ad (d.size:Int) 1 hV hR' hj had hn hf (Nt hR.lT hsame)).mono fun e w' ⟨av,cv,S',e1,zO,hk',hc'⟩=>?_
      rw[s8 hR hj ni hsame] at hk' e1 zO;have Ow:∀b,b<WB.heap.size->S.lab b=.no:=fun b hb=>zg.1 fun x=>by have:=(hV.yL b x).1;omega
      have hbd:=HLB.o;have hbl:Below w.heap.size w w':=aC.below hbV hc'.kp hbV.size (fun b hb=>by have:=(hV.yL b hb).1;omega);have Qc:w.heap.size+1<w'.heap.size:=fD (aJ hrV) hc'.kp.size;have hl2:w.heap.size+1+1<w'.heap.size:=fD (aJ hfV) hc'.kp.size;have rN:S'.lab (w.heap.size+1)=.no:=hc'.no _ (aJ hrV) (Ow _ (by omega));have n2:S'.lab (w.heap.size+1+1)=.no:=hc'.no _ (aJ hfV) (Ow _ hbd);have hr':=hc'.keep hrV (Ow _ (by omega));have hf':=hc'.keep hfV (Ow _ hbd);refine⟨av,_,cv,e1,fun V' hb'=>?_,fun V' hb'=>?_⟩
      · exact Nw (aU (aZ k j ad (d.size:Int) 1).2 hs) S' V' (aZ k j ad (d.size:Int) 1).1 av cv (hk'.below hb') (zO.ch (cK.below hb')) (fun m hm=>Ox m hm) Qb (fun m hm=>Yt m hm) adK
      · refine(Za (aU (aZ k j ad (d.size:Int) 1).2 hs) S' V' (aZ k j ad (d.size:Int) 1).1 (iD (iP (aZ k j ad (d.size:Int) 1).2.frames (aZ k j ad (d.size:Int) 1).1 (aZ k j ad (d.size:Int) 1).1.length) (ad%16).toNat d) av cv (hk'.below hb') (zO.ch (cK.below hb')) (fun m hm=>Ox m hm) Qb (by omega) (by omega) adK).mono fun e w'' ⟨e2,hk2,hc2⟩=>?_
        rw[Co] at hk2;have hk3:bJ WB.heap.size mb 158 (iq k) w'' S' (aU (lJ k j ad d) hs):=hk2;clear hk2;obtain⟨aS,cS,eS,_⟩:=bg hk3.aM;obtain⟨aF,cF,eF,_⟩:=bg hk3.frames;obtain⟨aL,cL,eL,_⟩:=bg hk3.slots;obtain⟨aP,cP,eP,_⟩:=bg hk3.aj;have c0:=hk3.c0;have c1:=hk3.c1;have c2:=hk3.c2;have c3:=hk3.c3;rw[eS] at c0;rw[eF] at c1;rw[eL] at c2;rw[eP] at c3;have adO:Below w.heap.size w w'':=aC.below (hbl.trans (hb'.mono hbl.size)) hc2.kp (gu hbl.size hb'.size) (fun b hb=>by have:=(hk'.yL b hb).1;omega);refine⟨aS,_,cS,aF,_,cF,aL,_,cL,aP,_,cP,_,e2,c0,c1,c2,c3,hk3.c4,hc2.keep (aN hr' hb' Qc) rN,hc2.keep (aN hf' hb' hl2) n2,fun U hU=>⟨S',hs,by rw[hsk];omega,by rw[eS,eF,eL,eP];rfl,?_,?_⟩⟩
        · exact(hk3.toKr.kp hU (fun b hb e=>hb (by rcases e with e | e <;> rw[e] <;> first | exact rN | exact n2))).mono (by omega)
        · exact aC.below adO hU adO.size (fun b e=>by omega)
     obtain⟨P,hP⟩:=ex (cu w (lJ k j ad d) [.agg #[I 0,I 0],I 0]);rw[<- hP] at Dl;obtain⟨LD,hLD⟩:=ex ((iD (iP (aZ k j ad (d.size:Int) 1).2.frames (aZ k j ad (d.size:Int) 1).1 (aZ k j ad (d.size:Int) 1).1.length) (ad%16).toNat d));rw[<- hLD] at Dl HLY;obtain⟨JD,hJD⟩:=ex ((iP (aZ k j ad (d.size:Int) 1).2.frames (aZ k j ad (d.size:Int) 1).1 (aZ k j ad (d.size:Int) 1).1.length));rw[<- hJD] at Dl HLY;obtain⟨md,hmd⟩:=ex ((ad%16).toNat);rw[<- hmd] at HLY ajH;show Calls _ _ _ _ (cu w (lJ k j ad d) [.agg #[I 0,I 0],I 0]);rw[<- hP];have xu:Hid (Calls Tryz.prog 271 #[.agg (bc a k),I (j:Int),I (d.size:Int),I 1,.slice (some (Ad WA.heap.size 0)) 1 1] WB fun e w'=>∃mb S hs,e=.returned (.tuple #[.pointer (some (Ad mb 0)),I 0])/\cA k.aM hs/\bJ WB.heap.size mb 158 (iq k) w' S (aU k hs)/\Below WB.heap.size WB w'):=AG.o;unfold bc at xu sB ⊢;clear hK hF hsp had hA c hP lu hWB hb0 hb1 kb rb fb hrow hsz aaV AG hf hf0 hal hau hmap ni hm2 hR hlv hn hwy hj uu Jg RH hcc adK Qb Ox Yt hPg hfit hjs apz Ni hlL hpl apT hST hsk hLD hJD hmd;go_enter Tryz.func265,Tryz.ntmps265;go_upto_region 1 with fail;rw[<- sB.o];go_upto_region 7 with(first
      | (go_at_call 271;rw[<- HWB.o];refine xu.o.mono ?_;rintro e w1 ⟨mb,S1,hs1,rfl,hs2,hk1,hb1⟩;have gK:=ai (cH.o.trans (hb1.mono cH.o.size));have R1:=ai (RB.o _ hb1);have F1:=ai (FB.o _ hb1);have vI:=ai hk1;have yM:=ai hs2;clear hb1 hk1 hs2)
      | (go_at_call 272;refine(Dl.o _ _ _ _ yM.o vI.o gK.o R1.o F1.o).mono ?_;rintro e w2 ⟨av,nv,cv,rfl,hjo,hpa⟩;have HJO:=ai hjo;have HPA:=ai hpa;clear hjo hpa;have X2:=ai (bB w2 #[I 0,I 0] 75);obtain⟨x0,x1⟩:=rE X2.o))
     have HA:=ai ((aK w2.heap.size w2).alloc (aD _) (.cells #[I 0,I 0] 75));obtain⟨W3,hW3⟩:=ex (w2.alloc (.cells #[I 0,I 0] 75));rw[<- hW3] at HA ⊢;clear hW3 x0 x1 X2;go_wp2_with (first
      | (go_at_call 273;refine(HJO.o _ HA.o).mono ?_;rintro e w4 ⟨rfl,rfl⟩)
      | (go_at_call 124;refine(HLY.o _).mono ?_;rintro e w5 ⟨rfl,Fm⟩;have PW:=ai (HA.o.trans (Fm.mono HA.o.size));clear Fm)
      | (go_at_call 278;refine(HPA.o _ PW.o).mono ?_;rintro e w6 ⟨aS,nS,cS,aF,nF,cF,aL,nL,cL,aP,nP,cP,hd,rfl,p0,p1,p2,p3,p4,r6,f6,hfin⟩;have R6:=ai r6;have F6:=ai f6;have yg:=ai hfin;clear r6 f6 hfin;obtain⟨y0,y1,y2,y3,y4⟩:=iT R6.o;obtain⟨z0,z1⟩:=rE F6.o;have f0:=aO R6.o 0;have f1:=aO R6.o 1;have f2:=aO R6.o 2;have f3:=aO R6.o 3;have f4:=aO R6.o 4;have g0:=aO F6.o 0;have g1:=aO F6.o 1))
     have h7:=ai (fun V=>DR R6.o F6.o Uq (.slice aS nS cS) (.slice aF nF cF) (.slice aL nL cL) (.slice aP nP cP) (I hd) (I 0) (I 0) (V:=V));obtain⟨q1,q2,q3⟩:=h7.out _ rfl;obtain⟨y0,y1,y2,y3,y4⟩:=iT q1;obtain⟨z0,z1⟩:=rE q2;refine bI (v:=.tuple #[.agg #[.slice aS nS cS,.slice aF nF cF,.slice aL nL cL,.slice aP nP cP,I hd],.agg #[I 0,I 0],I 0]) (by simp[results,Tryz.results265,go_sem,y0,y1,y2,y3,y4,z0,z1]) rfl ?_;exact yg.o _ q3
   · have hA:py k (j:Int) ad d=(dX,bR (ak k.aj j).aT ad (d.size:Int) 1,0):=by
      unfold py
      grind
     rw[hA];obtain⟨FA,hFA⟩:=ex (bR (ak k.aj j).aT ad (d.size:Int) 1);have Dl:Hid (∀V S mb hs,cA k.aM hs->bJ WB.heap.size mb 158 (iq k) V S (aU k hs)->Calls Tryz.prog 272 #[.pointer (some (Ad mb 0)),I (j:Int),I ad,I (d.size:Int),I 1] V fun e w'=>e=.returned (.tuple #[Nl,.agg #[I FA.1,I FA.2]])/\Below V.heap.size V w'):=fun V S mb hs hsame hV=>by
      rw[hFA];exact FJ (aU k hs) S V j ad (d.size:Int) 1 hV (hR.vJ hsame) hj had hn hf
     rw[<- hFA] at hf ⊢;have Mo:(FA.1 != 0)=true:=by grind
     have xu:Hid (Calls Tryz.prog 271 #[.agg (bc a k),I (j:Int),I (d.size:Int),I 1,.slice (some (Ad WA.heap.size 0)) 1 1] WB fun e w'=>∃mb S hs,e=.returned (.tuple #[.pointer (some (Ad mb 0)),I 0])/\cA k.aM hs/\bJ WB.heap.size mb 158 (iq k) w' S (aU k hs)/\Below WB.heap.size WB w'):=AG.o;obtain⟨f0,f1⟩:=FA;simp only at Dl Mo ⊢;have dB:Hid (∀V,Below w.heap.size w V->cu w dX [.agg #[I f0,I f1],I 0] (.returned (.tuple #[.agg #[Nl,Nl,Nl,Nl,I 0],.agg #[I f0,I f1],I 0])) V):=fun V hV=>qN _ hV
     obtain⟨P,hP⟩:=ex (cu w dX [.agg #[I f0,I f1],I 0]);rw[<- hP] at dB ⊢;unfold bc at xu sB ⊢;clear hK hF hsp had hA c hP lu hWB hb0 hb1 kb rb fb hrow hsz aaV AG hf hR hlv hn hwy hj uu Jg hFA;go_enter Tryz.func265,Tryz.ntmps265;go_upto_region 1 with fail;rw[<- sB.o];go_upto_region 6 with(first
      | (go_at_call 271;rw[<- HWB.o];refine xu.o.mono ?_;rintro e w1 ⟨mb,S1,hs1,rfl,hs2,hk1,hb1⟩;have gK:=ai (cH.o.trans (hb1.mono cH.o.size));have R1:=ai (RB.o _ hb1);have F1:=ai (FB.o _ hb1);have vI:=ai hk1;have yM:=ai hs2;clear hb1 hk1 hs2)
      | (go_at_call 272;refine(Dl.o _ _ _ _ yM.o vI.o).mono ?_;rintro e w2 ⟨rfl,hb2⟩;have R2:=ai (aN R1.o hb2 (aJ R1.o));have F2:=ai (aN F1.o hb2 (aJ F1.o));have mQ:=ai (gK.o.trans (hb2.mono gK.o.size));have X2:=ai (bB w2 #[I f0,I f1] 75);obtain⟨x0,x1⟩:=rE X2.o;clear hb2))
     have R3:=ai (bk R2.o (.cells #[I f0,I f1] 75));have F3:=ai (bk F2.o (.cells #[I f0,I f1] 75));have sQ:=ai (mQ.o.alloc mQ.o.size (.cells #[I f0,I f1] 75));have hl3:=aJ F2.o;obtain⟨W3,hW3⟩:=ex (w2.alloc (.cells #[I f0,I f1] 75));rw[<- hW3] at R3 F3 sQ x0 x1 ⊢;clear hW3;obtain⟨y0,y1,y2,y3,y4⟩:=iT R3.o;obtain⟨z0,z1⟩:=rE F3.o;have e0:=aO R3.o 0;have e1:=aO R3.o 1;have e2:=aO R3.o 2;have e3:=aO R3.o 3;have e4:=aO R3.o 4;have g0:=aO F3.o 0;have g1:=aO F3.o 1;have h7:=ai (fun V=>DR R3.o F3.o Uq Nl Nl Nl Nl (I 0) (I f0) (I f1) (V:=V));go_region;go_wp2;obtain⟨q1,q2,q3⟩:=h7.out _ rfl;obtain⟨y0,y1,y2,y3,y4⟩:=iT q1;obtain⟨z0,z1⟩:=rE q2;refine bI (v:=.tuple #[.agg #[Nl,Nl,Nl,Nl,I 0],.agg #[I f0,I f1],I 0]) (by simp[results,Tryz.results265,go_sem,y0,y1,y2,y3,y4,z0,z1]) rfl ?_;exact dB.o _ (aC.below sQ.o (q3.trans (aC.drew _ _) (fun _ _ g=>g)) sQ.o.size (fun b e=>by omega))
 · have hA:py k sp ad d=(dX,(0,0),ja k sp (d.size:Int) 1 [1]):=by unfold py;grind
   rw[hA];have AG:=ai (FH k a sp (d.size:Int) 1 [1] (some (Ad WA.heap.size 0)) 1 WB (hK.below hb1) hF hsp hrow (by simp) c);rw[show([1]:List Int).length=1 from rfl] at AG;obtain⟨C,hC⟩:=ex (ja k sp (d.size:Int) 1 [1]);rw[<- hC] at AG c ⊢;have cb:(C != 0)=true:=by grind
   have dB:Hid (∀V,Below w.heap.size w V->cu w dX [.agg #[I 0,I 0],I C] (.returned (.tuple #[.agg #[Nl,Nl,Nl,Nl,I 0],.agg #[I 0,I 0],I C])) V):=fun V hV=>qN _ hV
   obtain⟨P,hP⟩:=ex (cu w dX [.agg #[I 0,I 0],I C]);rw[<- hP] at dB ⊢;unfold bc at AG sB ⊢;clear hK hF hsp had hA hC c hP lu hWB hb0 hb1 kb rb fb hrow hsz aaV;go_enter Tryz.func265,Tryz.ntmps265;go_upto_region 1 with fail;rw[<- sB.o];go_upto_region 3 with(go_at_call 271;rw[<- HWB.o];refine AG.o.mono ?_;rintro e w1 ⟨rfl,hb1⟩;have gK:=ai (cH.o.trans (hb1.mono cH.o.size));have R1:=ai (RB.o _ hb1);have F1:=ai (FB.o _ hb1);clear hb1)
   obtain⟨y0,y1,y2,y3,y4⟩:=iT R1.o;obtain⟨z0,z1⟩:=rE F1.o;have f0:=aO R1.o 0;have f1:=aO R1.o 1;have f2:=aO R1.o 2;have f3:=aO R1.o 3;have f4:=aO R1.o 4;have g0:=aO F1.o 0;have g1:=aO F1.o 1;have h7:=ai (fun V=>DR R1.o F1.o (by omega) Nl Nl Nl Nl (I 0) (I 0) (I 0) (V:=V));go_wp2;obtain⟨q1,q2,q3⟩:=h7.out _ rfl;obtain⟨y0,y1,y2,y3,y4⟩:=iT q1;obtain⟨z0,z1⟩:=rE q2;refine bI (v:=.tuple #[.agg #[Nl,Nl,Nl,Nl,I 0],.agg #[I 0,I 0],I C]) (by simp[results,Tryz.results265,go_sem,y0,y1,y2,y3,y4,z0,z1]) rfl ?_;exact dB.o _ (aC.below gK.o q3 gK.o.size (fun b e=>by omega))
open Go.RowKit
theorem abX {k k':aR} (h:aW k) (h':aW k') (np:k'.aj.length=k.aj.length) (lv:∀j,j<k.aj.length->(ak k'.aj j).live=(ak k.aj j).live) (sp:Int):cT k' sp=cT k sp:=by
 unfold cT;rw[aB ((oh k).2 h),aB ((oh k').2 h'),np];by_cases c:0<=sp/\sp<(k.aj.length:Int)
 · rw[lv sp.toNat (by omega)]
 · rw[au (fun g=>c ⟨g.1,g.2.1⟩),au (fun g=>c ⟨g.1,g.2.1⟩)]
theorem Zy {k k':aR} (h:aW k) (h':aW k') (np:k'.aj.length=k.aj.length) (lv:∀j,j<k.aj.length->(ak k'.aj j).live=(ak k.aj j).live) (ar:∀j,j<k.aj.length->(ak k'.aj j).aT=(ak k.aj j).aT) (pk:∀j,j<k.aj.length->∀p,bY k' j p=bY k j p) (sp p:Int):oN k' sp p=oN k sp p:=by
 unfold oN;rw[abX h h' np lv];by_cases c:cT k sp=0
 · rw[aB c,aB c];have:=(pS c).2.2.1;rw[ar _ this,pk _ this]
 · rw[au c,au c]
theorem Re {k:aR} (h:aW k) {hs:List bG} (s:cA k.aM hs) (sp p:Int):oN (aU k hs) sp p=oN k sp p:=Zy h (h.vJ s) rfl (fun _ _=>rfl) (fun _ _=>rfl) (fun j _ p=>Cn s j p) sp p
theorem Rf {k:aR} (h:aW k) {hs:List bG} (s:cA k.aM hs):fV (aU k hs)=0:=(oh _).2 (h.vJ s)
open Go.RowKit
def yr (k:aR) (sp:Int):aR×Int:=if cT k sp≠0 then (dX,cT k sp) else (jE k sp.toNat,0)
theorem l9 {W:World} {rb:Nat} (hr:W.heap[rb]?=some (.cells #[Nl,Nl,Nl,Nl,I 0] 30 (0,0))) (s f l p h:Value) {V:World} (hV:V=((((W.setCell (Ad rb 0) s).setCell (Ad rb 1) f).setCell (Ad rb 2) l).setCell (Ad rb 3) p).setCell (Ad rb 4) h) :
  V.heap[rb]?=some (.cells #[s,f,l,p,h] 30 (0,0))/\aC (fun b=>b=rb) W V:=by
 subst hV;refine⟨fP (fP (fP (fP (fP hr 0 s) 1 f) 2 l) 3 p) 4 h,?_⟩;have k:∀(A:World) (j:Nat) (v:Value),aC (fun b=>b=rb) A (A.setCell (Ad rb j) v):=fun A j v=>aC.set _ A (Ad rb j) v rfl
 exact((((k _ _ _).trans (k _ _ _) (fun _ _ g=>g)).trans (k _ _ _) (fun _ _ g=>g)).trans (k _ _ _) (fun _ _ g=>g)).trans (k _ _ _) (fun _ _ g=>g)
theorem Wb (e:bD) (w:World):Calls Tryz.prog 269 #[.agg #[I e.page,I e.kind,I e.loc]] w fun r w'=>r=.returned (.bool true)/\Below w.heap.size w w':=by
 go_enter Tryz.func269,Tryz.ntmps269;go_wp2;go_ret;simp[aK,qj]
theorem Y8 (Hi:rO) (k:aR) (a:iH) (sp:Int) (w:World) (hK:jg w a k) (hF:nZ k) (hsp:cN sp) :
  Calls Tryz.prog 260 #[.agg (bc a k),I sp] w (cu w (yr k sp).1 [I (yr k sp).2]):=by
 obtain⟨WA,lu⟩:=ex ((w.alloc (.cells (bc a k) 30)).alloc (.cells #[Nl,Nl,Nl,Nl,I 0] 30));have hb0:Below w.heap.size w WA:=by simp_all [aK,qj]
 have kb:WA.heap[w.heap.size]?=some (.cells (bc a k) 30 (0,0)):=by grind [bk,bB]
 have rb:WA.heap[w.heap.size+1]?=some (.cells #[Nl,Nl,Nl,Nl,I 0] 30 (0,0)):=by
  grind [bB,World.size_alloc]
 have RB:Hid (∀V,Below WA.heap.size WA V->V.heap[w.heap.size+1]?=some (.cells #[Nl,Nl,Nl,Nl,I 0] 30 (0,0))):=fun V hb=>aN rb hb (aJ rb)
 have k0:WA.cell? (Ad w.heap.size 0)=some (.slice a.aS k.aM.length a.cS):=aq kb 0 rfl;have k1:WA.cell? (Ad w.heap.size 1)=some (.slice a.aF k.frames.length a.cF):=aq kb 1 rfl;have k2:WA.cell? (Ad w.heap.size 2)=some (.slice a.aL k.slots.length a.cL):=aq kb 2 rfl;have k3:WA.cell? (Ad w.heap.size 3)=some (.slice a.aP k.aj.length a.cP):=aq kb 3 rfl;have k4:WA.cell? (Ad w.heap.size 4)=some (I k.hand):=aq kb 4 rfl;have sB:=ai lu;have gB:=ai hb0;have hrl:=aJ rb;have AG:=ai (vA k a sp WA (hK.below hb0) hF hsp);by_cases c:cT k sp=0
 · obtain⟨hR,Jg,hj,uu⟩:=pS c;obtain⟨j,hje⟩:∃j:Nat,sp=(j:Int):=⟨sp.toNat,by omega⟩;subst hje;rw[jz] at hj uu;have hA:yr k (j:Int)=(jE k j,0):=by
    grind [yr]
   rw[hA];have hsm:=qA hR hF;have HOW:Hid (∀V mb,Below WA.heap.size WA V->WA.heap.size<=mb->V.heap[mb]?=some (.cells (lQ a k) 158 (0,0))->Calls Tryz.prog 267 #[.pointer (some (Ad mb 0))] V fun e w'=>e=.returned (.tuple #[])/\∃S hs,cA k.aM hs/\bJ WA.heap.size mb 158 (iq k) w' S (aU k hs)/\Below WA.heap.size WA w'):=fun V mb hV ni hm2=>(DT Hi k a mb V (hK.below (hb0.trans (hV.mono hb0.size))) hsm hm2 WA.heap.size ni).mono fun e w' ⟨h1,S,hs,h2,h3,h4,h5⟩=>⟨h1,S,hs,h2,h3,aC.below hV h5 hV.size (fun b e=>by omega)⟩
   have xu:Hid (Calls Tryz.prog 76 #[.agg (bc a k),I (j:Int)] WA fun e w'=>∃mb,e=.returned (.tuple #[.pointer (some (Ad mb 0)),I 0])/\WA.heap.size<=mb/\w'.heap[mb]?=some (.cells (lQ a k) 158 (0,0))/\Below WA.heap.size WA w'):=AG.o.mono fun e w' ⟨h1,h2⟩=>by
    grind
   have hsk:(jE k j).aM=k.aM:=(mY k j (fun _=>true)).1;have HFG:Hid (∀V S mb hs,cA k.aM hs->bJ WA.heap.size mb 158 (iq k) V S (aU k hs)->Below WA.heap.size WA V->Calls Tryz.prog 268 #[.pointer (some (Ad mb 0)),I (j:Int),.func (.func 269) #[] #[]] V fun e w'=>∃aS nS cS aF nF cF aL nL cL pb nP cP hd va vp lv,e=.returned (.tuple #[])/\(w'.cell? (Ad mb 0)=some (.slice aS nS cS)/\w'.cell? (Ad mb 1)=some (.slice aF nF cF)/\w'.cell? (Ad mb 2)=some (.slice aL nL cL)/\w'.cell? (Ad mb 3)=some (.slice (some (Ad pb 0)) nP cP)/\w'.cell? (Ad mb 4)=some (I hd))/\(j:Int)<(nP:Int)/\¬mb=pb/\(w'.cell? (Ad pb (j*3))=some lv/\w'.cell? (Ad pb (j*3+1))=some va/\w'.cell? (Ad pb (j*3+2))=some vp)/\(w'.frozen? (Ad pb (j*3))=false/\w'.frozen? (Ad pb (j*3+1))=false/\w'.frozen? (Ad pb (j*3+2))=false)/\((((w'.setCell (Ad pb (j*3)) (.bool false)).setCell (Ad pb (j*3+1)) Nl).setCell (Ad pb (j*3+2)) Nl).heap[w.heap.size+1]?=some (.cells #[Nl,Nl,Nl,Nl,I 0] 30 (0,0)))/\(∀U,aC (fun b=>b=w.heap.size+1) (((w'.setCell (Ad pb (j*3)) (.bool false)).setCell (Ad pb (j*3+1)) Nl).setCell (Ad pb (j*3+2)) Nl) U->cu w (jE k j) [I 0] (.returned (.tuple #[.agg #[.slice aS nS cS,.slice aF nF cF,.slice aL nL cL,.slice (some (Ad pb 0)) nP cP,I hd],I 0])) U)):=fun V S mb hs hsame hV hbV=>by
    refine(Cj 269 [] 0 (.inr (.inr ⟨rfl,rfl⟩)) (aU k hs) S V j (fun _=>true) hV (hR.vJ hsame) hj (fun V' e _=>Wb e V')).mono fun e w' ⟨e1,S',hk',hc'⟩=>?_
    rw[uX] at hk';have hjl:j<(aU (dH k j (fun _=>true)) hs).aj.length:=by
     show j<(dH k j (fun _=>true)).aj.length;rw[gN,fC];exact hj
    obtain⟨pb,cP,A⟩:=hk'.toKr.sp (by omega);have hz:=hk'.zero hjl A.v;have hbl:Below WA.heap.size WA w':=aC.below hbV hc'.kp hbV.size (fun b hb=>(hV.yL b hb).1);have hzk:bJ WA.heap.size mb 158 (iq k) (((w'.setCell (Ad pb (j*3)) (.bool false)).setCell (Ad pb (j*3+1)) Nl).setCell (Ad pb (j*3+2)) Nl) _ (aU (jE k j) hs):=hz.1;have hbz:Below WA.heap.size WA (((w'.setCell (Ad pb (j*3)) (.bool false)).setCell (Ad pb (j*3+1)) Nl).setCell (Ad pb (j*3+2)) Nl):=aC.below hbl hz.2.kp hbl.size (fun b hb=>(hk'.yL b hb).1);obtain⟨aS,nS,cS,eS⟩:∃b n d,S'.vS=.slice b n d:=by obtain⟨b,d,e,_⟩:=bg hk'.aM;exact⟨b,_,d,e⟩
    obtain⟨aF,nF,cF,eF⟩:∃b n d,S'.vF=.slice b n d:=by obtain⟨b,d,e,_⟩:=bg hk'.frames;exact⟨b,_,d,e⟩
    obtain⟨aL,nL,cL,eL⟩:∃b n d,S'.vL=.slice b n d:=by obtain⟨b,d,e,_⟩:=bg hk'.slots;exact⟨b,_,d,e⟩
    have c0:=hk'.c0;have c1:=hk'.c1;have c2:=hk'.c2;have c3:=hk'.c3;rw[eS] at c0;rw[eF] at c1;rw[eL] at c2;rw[A.v] at c3;have xf:Below w.heap.size w (((w'.setCell (Ad pb (j*3)) (.bool false)).setCell (Ad pb (j*3+1)) Nl).setCell (Ad pb (j*3+2)) Nl):=hb0.trans (hbz.mono hb0.size);refine⟨aS,nS,cS,aF,nF,cF,aL,nL,cL,pb,_,cP,_,_,_,_,e1,⟨c0,c1,c2,c3,hk'.c4⟩,by omega,fun e=>by have:=A.lab;rw[<- e,hk'.lH] at this;simp at this,⟨A.x0 j hjl,A.x1 j hjl,A.x2 j hjl⟩,⟨A.fz _,A.fz _,A.fz _⟩,RB.o _ hbz,fun U hU=>⟨_,hs,by rw[hsk];omega,by rw[eS,eF,eL,A.v];rfl,(hzk.toKr.kp hU (fun b hb e=>by have:=(hzk.yL b hb).1;omega)).mono hb0.size,aC.below xf hU xf.size (fun b e=>by omega)⟩⟩
   obtain⟨P,hP⟩:=ex (cu w (jE k j) [I 0]);rw[<- hP] at HFG;show Calls _ _ _ _ (cu w (jE k j) [I 0]);rw[<- hP];unfold bc at xu sB ⊢;clear hK hF hsp hA c hP lu hb0 kb rb AG hR hj uu Jg hsm hsk;go_enter Tryz.func260,Tryz.ntmps260;go_upto_region 1 with fail;rw[<- sB.o];go_upto_region 6 with(first
    | (go_at_call 76;refine xu.o.mono ?_;rintro e w1 ⟨mb,rfl,ni,hm2,hb1⟩;have SC:=ai ni;have Gx:=ai hm2;have cH:=ai hb1;clear ni hm2 hb1)
    | (go_at_call 267;refine(HOW.o _ _ cH.o SC.o Gx.o).mono ?_;rintro e w2 ⟨rfl,S,hs,hs2,hk2,hb2⟩;have sk:=ai hs2;have pq:=ai hk2;have gK:=ai hb2;clear hs2 hk2 hb2)
    | (go_at_call 268;refine(HFG.o _ _ _ _ sk.o pq.o gK.o).mono ?_;rintro e w3 ⟨aS,nS,cS,aF,nF,cF,aL,nL,cL,pb,nP,cP,hd,va,vp,lv,rfl,⟨p0,p1,p2,p3,p4⟩,hjn,hne,⟨x0,x1,x2⟩,⟨f0,f1,f2⟩,hr3,hfin⟩;have R3:=ai hr3;have yg:=ai hfin;clear hr3 hfin))
   go_upto_region 7 with fail;have o:∀i,(((w3.setCell (Ad pb (j*3)) (.bool false)).setCell (Ad pb (j*3+1)) Nl).setCell (Ad pb (j*3+2)) Nl).cell? (Ad mb i)=w3.cell? (Ad mb i):=fun i=>(cj _ _ _ _ _ _ hne).trans ((cj _ _ _ _ _ _ hne).trans (cj _ _ _ _ _ _ hne))
   have q0:=(o 0).trans p0;have q1:=(o 1).trans p1;have q2:=(o 2).trans p2;have q3:=(o 3).trans p3;have q4:=(o 4).trans p4;obtain⟨W3,hW3⟩:=ex ((((w3.setCell (Ad pb (j*3)) (.bool false)).setCell (Ad pb (j*3+1)) Nl).setCell (Ad pb (j*3+2)) Nl));rw[<- hW3] at q0 q1 q2 q3 q4 R3 yg ⊢;clear hW3 o p0 p1 p2 p3 p4 x0 x1 x2 f0 f1 f2;obtain⟨y0,y1,y2,y3,y4⟩:=iT R3.o;have f0:=aO R3.o 0;have f1:=aO R3.o 1;have f2:=aO R3.o 2;have f3:=aO R3.o 3;have f4:=aO R3.o 4;have h5:=ai (fun V=>l9 R3.o (.slice aS nS cS) (.slice aF nF cF) (.slice aL nL cL) (.slice (some (Ad pb 0)) nP cP) (I hd) (V:=V));go_wp2;obtain⟨r1,r2⟩:=h5.out _ rfl;obtain⟨y0,y1,y2,y3,y4⟩:=iT r1;refine bI (v:=.tuple #[.agg #[.slice aS nS cS,.slice aF nF cF,.slice aL nL cL,.slice (some (Ad pb 0)) nP cP,I hd],I 0]) (by simp[results,Tryz.results260,go_sem,y0,y1,y2,y3,y4]) rfl ?_;exact yg.o _ r2
 · have hA:yr k sp=(dX,cT k sp):=by grind [yr]
   rw[hA];have Rt:=ai (Bg AG.o c);obtain⟨C,hC⟩:=ex (cT k sp);rw[<- hC] at Rt c ⊢;have cb:(C != 0)=true:=by grind
   have dB:Hid (∀V,Below w.heap.size w V->cu w dX [I C] (.returned (.tuple #[.agg #[Nl,Nl,Nl,Nl,I 0],I C])) V):=fun V hV=>qN _ hV
   obtain⟨P,hP⟩:=ex (cu w dX [I C]);rw[<- hP] at dB ⊢;unfold bc at Rt sB ⊢;clear hK hF hsp hA hC c hP lu hb0 kb rb AG;go_enter Tryz.func260,Tryz.ntmps260;go_upto_region 1 with fail;rw[<- sB.o];go_upto_region 3 with(go_at_call 76;refine Rt.o.mono ?_;rintro e w1 ⟨rfl,hb1⟩;have gK:=ai (gB.o.trans (hb1.mono gB.o.size));have R1:=ai (RB.o _ hb1);clear hb1)
   obtain⟨y0,y1,y2,y3,y4⟩:=iT R1.o;have f0:=aO R1.o 0;have f1:=aO R1.o 1;have f2:=aO R1.o 2;have f3:=aO R1.o 3;have f4:=aO R1.o 4;have h5:=ai (fun V=>l9 R1.o Nl Nl Nl Nl (I 0) (V:=V));go_wp2;obtain⟨r1,r2⟩:=h5.out _ rfl;obtain⟨y0,y1,y2,y3,y4⟩:=iT r1;refine bI (v:=.tuple #[.agg #[Nl,Nl,Nl,Nl,I 0],I C]) (by simp[results,Tryz.results260,go_sem,y0,y1,y2,y3,y4]) rfl ?_;exact dB.o _ (aC.below gK.o r2 gK.o.size (fun b e=>by omega))
open Go.RowKit
theorem Y5 (l:List aY) (ao:Option Addr) (n cap:Nat) (page aQ q:Int) (x y z:Nat) (w:World) (h:gD w (.slice ao n cap) l) (hf:dO l) (hp:cN page) (hn:cN aQ) (hx:w.cell? (Ad x 0)=some (I page)) (hy:w.cell? (Ad y 0)=some (I aQ)) (hz:w.cell? (Ad z 0)=some (I q)) :
  Calls Tryz.prog 275 #[.slice ao n cap,.pointer (some (Ad x 0)),.pointer (some (Ad y 0)),.pointer (some (Ad z 0))] w fun e w'=>∃ar nr cr,e=.returned (.tuple #[.slice ar nr cr,I (dK l page aQ q).2])/\ez w.heap.size w' (.slice ar nr cr) (dK l page aQ q).1/\Below w.heap.size w w':=by
 have HM:Hid (Calls Tryz.prog 115 #[.slice ao n cap,I page,I aQ,I q] w fun e w'=>∃ar nr cr,e=.returned (.tuple #[.slice ar nr cr,I (dK l page aQ q).2])/\ez w.heap.size w' (.slice ar nr cr) (dK l page aQ q).1/\Below w.heap.size w w'):=(Sm l (.slice ao n cap) page aQ q w h hf hp hn).mono fun e w' ⟨r,h1,h2,h3⟩=>by
  obtain⟨ar,cr,er,_⟩:=bg h2
  grind
 clear h hf hp hn;go_enter Tryz.func275,Tryz.ntmps275;go_wp2_with (go_at_call 115;refine HM.o.mono ?_;rintro e w1 ⟨ar,nr,cr,rfl,h2,h3⟩;have H2:=ai h2;have H3:=ai h3;clear h2 h3)
 refine bI (v:=.tuple #[.slice ar nr cr,I (dK l page aQ q).2]) (by simp[results]) rfl ?_
 grind [Hid.o]
theorem S6 (l:List aY) (ao:Option Addr) (n cap:Nat) (page aQ:Int) (x y:Nat) (w:World) (h:gD w (.slice ao n cap) l) (hf:dO l) (hp:cN page) (hn:cN aQ) (hx:w.cell? (Ad x 0)=some (I page)) (hy:w.cell? (Ad y 0)=some (I aQ)) :
  Calls Tryz.prog 279 #[.slice ao n cap,.pointer (some (Ad x 0)),.pointer (some (Ad y 0))] w fun e w'=>∃ar nr cr,e=.returned (.tuple #[.slice ar nr cr,I (cQ l page aQ).2])/\ez w.heap.size w' (.slice ar nr cr) (cQ l page aQ).1/\Below w.heap.size w w':=by
 have HM:Hid (Calls Tryz.prog 280 #[.slice ao n cap,I page,I aQ] w fun e w'=>∃ar nr cr,e=.returned (.tuple #[.slice ar nr cr,I (cQ l page aQ).2])/\ez w.heap.size w' (.slice ar nr cr) (cQ l page aQ).1/\Below w.heap.size w w'):=(Yb l (.slice ao n cap) page aQ w h hf hp hn).mono fun e w' ⟨r,h1,h2,h3⟩=>by
  obtain⟨ar,cr,er,_⟩:=bg h2
  grind
 clear h hf hp hn;go_enter Tryz.func279,Tryz.ntmps279;go_wp2_with (go_at_call 280;refine HM.o.mono ?_;rintro e w1 ⟨ar,nr,cr,rfl,h2,h3⟩;have H2:=ai h2;have H3:=ai h3;clear h2 h3)
 refine bI (v:=.tuple #[.slice ar nr cr,I (cQ l page aQ).2]) (by simp[results]) rfl ?_
 grind [Hid.o]
theorem OI (l:List aY) (ao:Option Addr) (n cap:Nat) (page aQ q:Int) (x y z:Nat) (w:World) (h:gD w (.slice ao n cap) l) (hf:dO l) (hp:cN page) (hn:cN aQ) (hx:w.cell? (Ad x 0)=some (I page)) (hy:w.cell? (Ad y 0)=some (I aQ)) (hz:w.cell? (Ad z 0)=some (I q)) :
  Calls Tryz.prog 276 #[.slice ao n cap,.pointer (some (Ad x 0)),.pointer (some (Ad y 0)),.pointer (some (Ad z 0))] w fun e w'=>∃ar nr cr,e=.returned (.tuple #[.slice ar nr cr,I (bT l page aQ q).2])/\ez w.heap.size w' (.slice ar nr cr) (bT l page aQ q).1/\Below w.heap.size w w':=by
 have HM:Hid (Calls Tryz.prog 277 #[.slice ao n cap,I page,I aQ,I q] w fun e w'=>∃ar nr cr,e=.returned (.tuple #[.slice ar nr cr,I (bT l page aQ q).2])/\ez w.heap.size w' (.slice ar nr cr) (bT l page aQ q).1/\Below w.heap.size w w'):=(Sl l (.slice ao n cap) page aQ q w h hf hp hn).mono fun e w' ⟨r,h1,h2,h3⟩=>by
  obtain⟨ar,cr,er,_⟩:=bg h2
  grind
 clear h hf hp hn;go_enter Tryz.func276,Tryz.ntmps276;go_wp2_with (go_at_call 277;refine HM.o.mono ?_;rintro e w1 ⟨ar,nr,cr,rfl,h2,h3⟩;have H2:=ai h2;have H3:=ai h3;clear h2 h3)
 refine bI (v:=.tuple #[.slice ar nr cr,I (bT l page aQ q).2]) (by simp[results]) rfl ?_
 grind [Hid.o]
theorem S8 (l:List aY) (ao:Option Addr) (n cap:Nat) (e:bD) (x:Nat) (w:World) (hx:w.cell? (Ad x 0)=some (.slice ao n cap)) (h:gD w (.slice ao n cap) l) (hf:dO l) :
  Calls Tryz.prog 285 #[.agg #[I e.page,I e.kind,I e.loc],.pointer (some (Ad x 0))] w fun r w'=>r=.returned (.bool (jr l e))/\Below w.heap.size w w':=by
 obtain⟨WA,lu⟩:=ex (w.alloc (.cells #[I e.page,I e.kind,I e.loc] 174));have hb:Below w.heap.size w WA:=by grind [Below.refl,Below.alloc]
 have hxl:x<w.heap.size:=nW w _ hx;have xA:WA.cell? (Ad x 0)=some (.slice ao n cap):=(hb.cell (p:=(Ad x 0)) hxl).trans hx;have BN:WA.heap[w.heap.size]?=some (.cells #[I e.page,I e.kind,I e.loc] 174 (0,0)):=by grind [bB]
 have e0:WA.cell? (Ad w.heap.size 0)=some (I e.page):=aq BN 0 rfl;have HF:=ai (vH l (.slice ao n cap) e.page WA (h.below hb) hf);have HB:=ai hb;have sB:=ai lu;unfold jr;obtain⟨r,hr⟩:=ex (aV l e.page);rw[<- hr] at HF ⊢;obtain⟨⟨pg,ps,pr,zr⟩,ok⟩:=r;have LQ:Hid (Calls Tryz.prog 77 #[.slice ao n cap,I e.page] WA fun e w'=>e=.returned (.tuple #[.agg #[I pg,I ps,I pr,.bool zr],.bool ok])/\Below WA.heap.size WA w'):=HF.o;clear lu hb BN hr hx h hf HF;go_enter Tryz.func285,Tryz.ntmps285;go_upto_region 1 with fail;rw[<- sB.o];go_wp2_with (go_at_call 77;refine LQ.o.mono ?_;rintro e w1 ⟨rfl,hb1⟩;have cH:=ai (HB.o.trans (hb1.mono HB.o.size));clear hb1)
 go_ret;exact⟨by simp,cH.o.alloc cH.o.size _⟩
end Go.Proofs.YtlgoihmkgaaemaaGreat
