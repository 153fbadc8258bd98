import Derived.Test.YtlgoihmkgaaemaaGreatGN21
set_option maxHeartbeats 20000000
set_option linter.unusedVariables false
set_option maxRecDepth 100000
set_option linter.unusedSimpArgs false
namespace Go.Proofs.YtlgoihmkgaaemaaGreat
open Go.RowKit
def qp (k:aT) (sp a n way:Int):aT×ByteArray×(Int×Int)×Int:=if iZ k sp n way [0,2]≠0 then (eG,⟨#[]⟩,(0,0),iZ k sp n way [0,2]) else if (bR (ak k.aj sp.toNat).aU a n way).1≠0 then (eG,⟨#[]⟩,bR (ak k.aj sp.toNat).aU a n way,0) else ((bf k sp.toNat a n way).2,ma k sp.toNat a n way,(0,0),0)
theorem abt (V:World):dW iE 1 0 (V.alloc (.cells #[I 0,I 2] 3)) (some (Ad V.heap.size 0)) [0,2]:=fun _=>by
 have h:=bE V #[I 0,I 2] 3;refine⟨V.heap.size,0,rfl,aJ h,fun i hi j hj=>?_⟩;obtain rfl:j=0:=by omega
 have hi:i<2:=hi;rcases(show i=0∨i=1 by omega) with rfl | rfl
 · exact au h 0 rfl
 · exact au h 1 rfl
theorem YQ (E8:rG) (k:aT) (a:jc) (sp ad n way:Int) (w:World) (hK:jd w a k) (hF:nu k) (hsp:cO sp) (had:cO ad) :
  Calls Tryz.prog 262 #[.agg (bg a k),I sp,I ad,I n,I way] w (cA w (qp k sp ad n way).1 [.string (qp k sp ad n way).2.1,.agg #[I (qp k sp ad n way).2.2.1.1,I (qp k sp ad n way).2.2.1.2],I (qp k sp ad n way).2.2.2]):=by
 obtain⟨WA,lO⟩:=ex (((w.alloc (.cells (bg a k) 30)).alloc (.cells #[Nl,Nl,Nl,Nl,I 0] 30)).alloc (.cells #[I 0,I 0] 75));have hb0:Below w.heap.size w WA:=by rw[lO];exact(((aK _ _).alloc (aI _) _).alloc (by simp) _).alloc (by simp;omega) _
 have kb:WA.heap[w.heap.size]?=some (.cells (bg a k) 30 (0,0)):=by grind [br,bE]
 have rb:WA.heap[w.heap.size+1]?=some (.cells #[Nl,Nl,Nl,Nl,I 0] 30 (0,0)):=by
  grind [br,bE,World.size_alloc]
 have fb:WA.heap[w.heap.size+1+1]?=some (.cells #[I 0,I 0] 75 (0,0)):=by
  grind [bE,World.size_alloc]
 have hsz:WA.heap.size=w.heap.size+3:=by simp_all
 obtain⟨WB,hWB⟩:=ex (WA.alloc (.cells #[I 0,I 2] 3));have hb1:Below w.heap.size w WB:=by grind [Below.alloc]
 have hrow:dW iE 1 0 WB (some (Ad WA.heap.size 0)) [0,2]:=by grind [abt]
 have aaL:WB.heap.size=w.heap.size+4:=by simp_all
 have RB:Hid (∀V,Below WB.heap.size WB V->V.heap[w.heap.size+1]?=some (.cells #[Nl,Nl,Nl,Nl,I 0] 30 (0,0))):=fun V hb=>aO (by grind [br]) hb (by omega)
 have FB:Hid (∀V,Below WB.heap.size WB V->V.heap[w.heap.size+1+1]?=some (.cells #[I 0,I 0] 75 (0,0))):=fun V hb=>aO (by grind [br]) hb (by omega)
 have k0:WA.cell? (Ad w.heap.size 0)=some (.slice a.aS k.aM.length a.cS):=au kb 0 rfl;have k1:WA.cell? (Ad w.heap.size 1)=some (.slice a.aF k.frames.length a.cF):=au kb 1 rfl;have k2:WA.cell? (Ad w.heap.size 2)=some (.slice a.aL k.slots.length a.cL):=au kb 2 rfl;have k3:WA.cell? (Ad w.heap.size 3)=some (.slice a.aP k.aj.length a.cP):=au kb 3 rfl;have k4:WA.cell? (Ad w.heap.size 4)=some (I k.hand):=au kb 4 rfl;have se:=ai lO;have HWB:=ai hWB;have cN:=ai hb1;by_cases c:iZ k sp n way [0,2]=0
 · obtain⟨hlv,hn,hwy⟩:=KD c;obtain⟨hR,Jb,hj,ui⟩:=rQ hlv;obtain⟨j,hje⟩:∃j:Nat,sp=(j:Int):=⟨sp.toNat,by omega⟩;subst hje;rw[lM] at hj ui;have Ax:=ai (Ik E8 k a (j:Int) n way [0,2] (some (Ad WA.heap.size 0)) 2 WB (hK.below hb1) hF hsp hrow (by simp) c);rw[show([0,2]:List Int).length=2 from rfl] at Ax;have T3:w.heap.size+1≠w.heap.size+1+1:=by omega
   have HLB:=ai (show w.heap.size+1+1<WB.heap.size by omega);by_cases hf:(bR (ak k.aj j).aU ad n way).1=0
   · obtain⟨hf0,hal,hau,hmap⟩:=rR hn.1 hn.2 hf;have nJ:ez k j (ad/16):=by
      have:=hmap 0 (by omega) (by omega);rw[Dj] at this;exact this
     have hm2:ez k j (cD ad n):=by
      have:=hmap (n-1) (by omega) (by omega);unfold cD;rw[show ad+n-1=ad+(n-1) by omega];exact this
     have RH:=nZ hR hj ad n way nJ hm2;have hrk:=RH.kept.aM;have hcc:=hR.c;have adC:0<(bf k j ad n way).2.frames.length:=by rw[RH.kept.nf];omega
     have PV:(bf k j ad n way).1.length<=2:=by
      rw[(Bf k j ad n way).2.2];unfold nX
      grind
     have Oe:∀m,m<(bf k j ad n way).1.length->(bf k j ad n way).1.getD m 0<(bf k j ad n way).2.frames.length:=fun m hm=>by
      rw[RH.kept.nf];by_cases z:cD ad n=ad/16
      · have e:(bf k j ad n way).1=[(fp k j ad way).1]:=by unfold bf;rw[aC z]
        rw[e] at hm ⊢;have hm:m<1:=hm;obtain rfl:m=0:=by omega
        exact RH.one.2
      · have e:(bf k j ad n way).1=[(fp k j ad way).1,(kF k j ad n way).1]:=by unfold bf;rw[aA z]
        rw[e] at hm ⊢;have hm:m<2:=hm;rcases(show m=0∨m=1 by omega) with rfl | rfl
        · exact RH.one.2
        · exact(RH.two z).2
     have Yc:∀m,m<(bf k j ad n way).1.length->(aH (bf k j ad n way).2.frames ((bf k j ad n way).1.getD m 0)).data.size<=1000:=fun m hm=>by
      have hi:=Oe m hm;by_cases z:(aH (bf k j ad n way).2.frames ((bf k j ad n way).1.getD m 0)).refs=0
      · have:=(RH.right.zL _ hi).zero ((RH.right.zL _ hi).nil z);rw[this];show(0:Nat)<=1000;omega
      · have:=(RH.right.zL _ hi).size ((RH.right.zL _ hi).ne z);omega
     have hPg:Eb (cI k j) ad n:=⟨pB hR hj nJ,pB hR hj hm2⟩;have hfit:=Bn hPg hn.1 hn.2;have hjs:=zu hPg hn.1 hn.2;have M0:=xV hR hj ad n way nJ hm2;have HPT:Hid (∀V,Calls Tryz.prog 171 #[.string (iP (bf k j ad n way).2.frames (bf k j ad n way).1 (bf k j ad n way).1.length),I (((ad%16).toNat:Nat):Int),I n] V fun e w'=>e=.returned (.tuple #[.string (ma k j ad n way),I 0])/\Below V.heap.size V w'):=fun V=>by
      have:=GH (iP (bf k j ad n way).2.frames (bf k j ad n way).1 (bf k j ad n way).1.length) (ad%16).toNat n.toNat V (by rw[M0];omega) (by rw[M0];omega);rw[show((n.toNat:Nat):Int)=n by omega] at this;exact this
     have akd:ad.tmod 16=(((ad%16).toNat:Nat):Int):=by
      rw[U7 (by omega)];omega
     have hA:qp k (j:Int) ad n way=((bf k j ad n way).2,ma k j ad n way,(0,0),0):=by
      unfold qp;rw[aA (fun x=>x c),lM,aA (fun x=>x hf)]
     rw[hA];have Hv:Hid (∀V S mb hs,cC k.aM hs->bK WB.heap.size mb 158 (ij k) V S (aV k hs)->Below w.heap.size w V->V.heap[w.heap.size+1]?=some (.cells #[Nl,Nl,Nl,Nl,I 0] 30 (0,0))->V.heap[w.heap.size+1+1]?=some (.cells #[I 0,I 0] 75 (0,0))->Calls Tryz.prog 272 #[.pointer (some (Ad mb 0)),I (j:Int),I ad,I n,I way] V fun e w'=>∃av nv cv aS nS cS aF nF cF aL nL cL aP nP cP hd,e=.returned (.tuple #[.slice av nv cv,.agg #[I 0,I 0]])/\w'.cell? (Ad mb 0)=some (.slice aS nS cS)/\w'.cell? (Ad mb 1)=some (.slice aF nF cF)/\w'.cell? (Ad mb 2)=some (.slice aL nL cL)/\w'.cell? (Ad mb 3)=some (.slice aP nP cP)/\w'.cell? (Ad mb 4)=some (I hd)/\mb<w'.heap.size/\(∀V',Below w'.heap.size w' V'->Calls Tryz.prog 273 #[.pointer (some (Ad mb 0)),.slice av nv cv] V' fun e w''=>e=.returned (.string (iP (bf k j ad n way).2.frames (bf k j ad n way).1 (bf k j ad n way).1.length))/\w''=V')/\w'.heap[w.heap.size+1]?=some (.cells #[Nl,Nl,Nl,Nl,I 0] 30 (0,0))/\w'.heap[w.heap.size+1+1]?=some (.cells #[I 0,I 0] 75 (0,0))/\Below w.heap.size w w'/\(∀U,aD (fun b=>b=w.heap.size+1∨b=w.heap.size+1+1) w' U->cA w (bf k j ad n way).2 [.string (ma k j ad n way),.agg #[I 0,I 0],I 0] (.returned (.tuple #[.agg #[.slice aS nS cS,.slice aF nF cF,.slice aL nL cL,.slice aP nP cP,I hd],.string (ma k j ad n way),.agg #[I 0,I 0],I 0])) U)):=fun V S mb hs hsame hV hbV hrV hfV=>by
      have hR':=hR.wT hsame;refine(Il (aV k hs) S V j ad n way hV hR' hj had hn hf (Ng hR.mr hsame)).mono fun e w' ⟨av,cv,S',e1,zK,hk',hc'⟩=>?_
      rw[sY hR hj nJ hsame] at hk' e1 zK;have Od:∀b,b<WB.heap.size->S.lab b=.no:=fun b hb=>y7.1 fun x=>by have:=(hV.yJ b x).1;omega
      have hbd:=HLB.o;obtain⟨aS,cS,eS,_⟩:=bj hk'.aM;obtain⟨aF,cF,eF,_⟩:=bj hk'.frames;obtain⟨aL,cL,eL,_⟩:=bj hk'.slots;obtain⟨aP,cP,eP,_⟩:=bj hk'.aj;have c0:=hk'.c0;have c1:=hk'.c1;have c2:=hk'.c2;have c3:=hk'.c3;rw[eS] at c0;rw[eF] at c1;rw[eL] at c2;rw[eP] at c3;have hbl:Below w.heap.size w w':=aD.below hbV hc'.kp hbV.size (fun b hb=>by have:=(hV.yJ b hb).1;omega);refine⟨av,_,cv,aS,_,cS,aF,_,cF,aL,_,cL,aP,_,cP,_,e1,c0,c1,c2,c3,hk'.c4,hk'.lt,fun V' hb'=>?_,hc'.keep hrV (Od _ (by omega)),hc'.keep hfV (Od _ hbd),hbl,fun U hU=>⟨S',hs,by rw[hrk];omega,by rw[eS,eF,eL,eP];rfl,?_,?_⟩⟩
      · exact Nj (aV (bf k j ad n way).2 hs) S' V' (bf k j ad n way).1 av cv (hk'.below hb') (zK.ch (cM.below hb')) (fun m hm=>Oe m hm) PV (fun m hm=>Yc m hm) adC
      · exact(hk'.toKr.kp hU (fun b hb e=>hb (hc'.no b (by have:=aJ hfV;omega) (Od b (by omega))))).mono (by omega)
      · exact aD.below hbl hU hbl.size (fun b e=>by omega)
     obtain⟨P,hP⟩:=ex (cA w (bf k j ad n way).2 [.string (ma k j ad n way),.agg #[I 0,I 0],I 0]);rw[<- hP] at Hv;obtain⟨LD,hLD⟩:=ex (ma k j ad n way);rw[<- hLD] at Hv HPT;obtain⟨JD,hJD⟩:=ex (iP (bf k j ad n way).2.frames (bf k j ad n way).1 (bf k j ad n way).1.length);rw[<- hJD] at Hv HPT;obtain⟨md,hmd⟩:=ex ((ad%16).toNat);rw[<- hmd] at HPT akd;show Calls _ _ _ _ (cA w (bf k j ad n way).2 [.string (ma k j ad n way),.agg #[I 0,I 0],I 0]);rw[<- hP];have xq:Hid (Calls Tryz.prog 271 #[.agg (bg a k),I (j:Int),I n,I way,.slice (some (Ad WA.heap.size 0)) 2 2] WB fun e w'=>∃mb S hs,e=.returned (.tuple #[.pointer (some (Ad mb 0)),I 0])/\cC k.aM hs/\bK WB.heap.size mb 158 (ij k) w' S (aV k hs)/\Below WB.heap.size WB w'):=Ax.o;unfold bg at xq se ⊢;clear hK hF hsp had hA c hP lO hWB hb0 hb1 kb rb fb hrow hsz aaL Ax hf hf0 hal hau hmap nJ hm2 hrk hR hlv hn hwy hj ui Jb RH hcc adC PV Oe Yc hPg hfit hjs M0 hLD hJD hmd;go_enter Tryz.func262,Tryz.ntmps262;go_upto_region 1 with fail;rw[<- se.o];go_upto_region 7 with(first
      | (go_at_call 271;rw[<- HWB.o];refine xq.o.mono ?_;rintro e w1 ⟨mb,S1,hs1,rfl,hs2,hk1,hb1⟩;have gQ:=ai (cN.o.trans (hb1.mono cN.o.size));have R1:=ai (RB.o _ hb1);have F1:=ai (FB.o _ hb1);have vD:=ai hk1;have yK:=ai hs2;clear hb1 hk1 hs2)
      | (go_at_call 272;refine(Hv.o _ _ _ _ yK.o vD.o gQ.o R1.o F1.o).mono ?_;rintro e w2 ⟨av,nv,cv,aS,nS,cS,aF,nF,cF,aL,nL,cL,aP,nP,cP,hd,rfl,m0,m1,m2,m3,m4,MV,hjo,hr2,hf2,hb2,hfin⟩;have HJO:=ai hjo;clear hjo;have R2:=ai hr2;have F2:=ai hf2;have Ay:=ai hfin;have X2:=ai (bE w2 #[I 0,I 0] 75);obtain⟨x0,x1⟩:=rq X2.o;clear hr2 hf2 hb2 hfin))
     have R3:=ai (br R2.o (.cells #[I 0,I 0] 75));have F3:=ai (br F2.o (.cells #[I 0,I 0] 75));have HA:=ai ((aK w2.heap.size w2).alloc (aI _) (.cells #[I 0,I 0] 75));have p0:=(HA.o.cell (p:=(Ad mb 0)) MV).trans m0;have p1:=(HA.o.cell (p:=(Ad mb 1)) MV).trans m1;have p2:=(HA.o.cell (p:=(Ad mb 2)) MV).trans m2;have p3:=(HA.o.cell (p:=(Ad mb 3)) MV).trans m3;have p4:=(HA.o.cell (p:=(Ad mb 4)) MV).trans m4;obtain⟨W3,hW3⟩:=ex (w2.alloc (.cells #[I 0,I 0] 75));rw[<- hW3] at R3 F3 HA p0 p1 p2 p3 p4 ⊢;clear hW3 m0 m1 m2 m3 m4 x0 x1;obtain⟨y0,y1,y2,y3,y4⟩:=iH R3.o;obtain⟨z0,z1⟩:=rq F3.o;have f0:=aR R3.o 0;have f1:=aR R3.o 1;have f2:=aR R3.o 2;have f3:=aR R3.o 3;have f4:=aR R3.o 4;have g0:=aR F3.o 0;have g1:=aR F3.o 1;have h7:=ai (fun V=>DJ R3.o F3.o T3 (.slice aS nS cS) (.slice aF nF cF) (.slice aL nL cL) (.slice aP nP cP) (I hd) (I 0) (I 0) (V:=V));go_wp2_with (first
      | (go_at_call 273;refine(HJO.o _ HA.o).mono ?_;rintro e w4 ⟨rfl,rfl⟩)
      | (go_at_call 171;refine(HPT.o _).mono ?_;rintro e w5 ⟨rfl,Mb⟩;have XV:=ai Mb;have R5:=ai (aO R3.o Mb (aJ R3.o));have F5:=ai (aO F3.o Mb (aJ F3.o));have HML:mb<w4.heap.size:=fL MV HA.o.size;have p0:=(Mb.cell (p:=(Ad mb 0)) HML).trans p0;have p1:=(Mb.cell (p:=(Ad mb 1)) HML).trans p1;have p2:=(Mb.cell (p:=(Ad mb 2)) HML).trans p2;have p3:=(Mb.cell (p:=(Ad mb 3)) HML).trans p3;have p4:=(Mb.cell (p:=(Ad mb 4)) HML).trans p4;obtain⟨y0,y1,y2,y3,y4⟩:=iH R5.o;obtain⟨z0,z1⟩:=rq F5.o;have f0:=aR R5.o 0;have f1:=aR R5.o 1;have f2:=aR R5.o 2;have f3:=aR R5.o 3;have f4:=aR R5.o 4;have g0:=aR F5.o 0;have g1:=aR F5.o 1;clear Mb))
     have h7:=ai (fun V=>DJ R5.o F5.o T3 (.slice aS nS cS) (.slice aF nF cF) (.slice aL nL cL) (.slice aP nP cP) (I hd) (I 0) (I 0) (V:=V));obtain⟨q1,q2,q3⟩:=h7.out _ rfl;obtain⟨y0,y1,y2,y3,y4⟩:=iH q1;obtain⟨z0,z1⟩:=rq q2;refine bO (v:=.tuple #[.agg #[.slice aS nS cS,.slice aF nF cF,.slice aL nL cL,.slice aP nP cP,I hd],.string LD,.agg #[I 0,I 0],I 0]) (by simp[results,Tryz.results262,go_sem,y0,y1,y2,y3,y4,z0,z1]) rfl ?_;exact Ay.o _ (((aD.b9 HA.o).trans (aD.b9 XV.o) (fun _ _ g=>g)).trans q3 (fun _ _ g=>g))
   · have hA:qp k (j:Int) ad n way=(eG,⟨#[]⟩,bR (ak k.aj j).aU ad n way,0):=by
      unfold qp
      grind
     rw[hA];obtain⟨FA,hFA⟩:=ex (bR (ak k.aj j).aU ad n way);have Hv:Hid (∀V S mb hs,cC k.aM hs->bK WB.heap.size mb 158 (ij k) V S (aV k hs)->Calls Tryz.prog 272 #[.pointer (some (Ad mb 0)),I (j:Int),I ad,I n,I way] V fun e w'=>e=.returned (.tuple #[Nl,.agg #[I FA.1,I FA.2]])/\Below V.heap.size V w'):=fun V S mb hs hsame hV=>by
      rw[hFA];exact Fy (aV k hs) S V j ad n way hV (hR.wT hsame) hj had hn hf
     rw[<- hFA] at hf ⊢;have L4:(FA.1 != 0)=true:=by grind
     have xq:Hid (Calls Tryz.prog 271 #[.agg (bg a k),I (j:Int),I n,I way,.slice (some (Ad WA.heap.size 0)) 2 2] WB fun e w'=>∃mb S hs,e=.returned (.tuple #[.pointer (some (Ad mb 0)),I 0])/\cC k.aM hs/\bK WB.heap.size mb 158 (ij k) w' S (aV k hs)/\Below WB.heap.size WB w'):=Ax.o;obtain⟨f0,f1⟩:=FA;simp only at Hv L4 ⊢;have dz:Hid (∀V,Below w.heap.size w V->cA w eG [.string ⟨#[]⟩,.agg #[I f0,I f1],I 0] (.returned (.tuple #[.agg #[Nl,Nl,Nl,Nl,I 0],.string ⟨#[]⟩,.agg #[I f0,I f1],I 0])) V):=fun V hV=>qH _ hV
     obtain⟨P,hP⟩:=ex (cA w eG [.string ⟨#[]⟩,.agg #[I f0,I f1],I 0]);rw[<- hP] at dz ⊢;unfold bg at xq se ⊢;clear hK hF hsp had hA c hP lO hWB hb0 hb1 kb rb fb hrow hsz aaL Ax hf hR hlv hn hwy hj ui Jb hFA;go_enter Tryz.func262,Tryz.ntmps262;go_upto_region 1 with fail;rw[<- se.o];go_upto_region 6 with(first
      | (go_at_call 271;rw[<- HWB.o];refine xq.o.mono ?_;rintro e w1 ⟨mb,S1,hs1,rfl,hs2,hk1,hb1⟩;have gQ:=ai (cN.o.trans (hb1.mono cN.o.size));have R1:=ai (RB.o _ hb1);have F1:=ai (FB.o _ hb1);have vD:=ai hk1;have yK:=ai hs2;clear hb1 hk1 hs2)
      | (go_at_call 272;refine(Hv.o _ _ _ _ yK.o vD.o).mono ?_;rintro e w2 ⟨rfl,hb2⟩;have R2:=ai (aO R1.o hb2 (aJ R1.o));have F2:=ai (aO F1.o hb2 (aJ F1.o));have mO:=ai (gQ.o.trans (hb2.mono gQ.o.size));have X2:=ai (bE w2 #[I f0,I f1] 75);obtain⟨x0,x1⟩:=rq X2.o;clear hb2))
     have R3:=ai (br R2.o (.cells #[I f0,I f1] 75));have F3:=ai (br F2.o (.cells #[I f0,I f1] 75));have tC:=ai (mO.o.alloc mO.o.size (.cells #[I f0,I f1] 75));have hl3:=aJ F2.o;obtain⟨W3,hW3⟩:=ex (w2.alloc (.cells #[I f0,I f1] 75));rw[<- hW3] at R3 F3 tC x0 x1 ⊢;clear hW3;obtain⟨y0,y1,y2,y3,y4⟩:=iH R3.o;obtain⟨z0,z1⟩:=rq F3.o;have e0:=aR R3.o 0;have e1:=aR R3.o 1;have e2:=aR R3.o 2;have e3:=aR R3.o 3;have e4:=aR R3.o 4;have g0:=aR F3.o 0;have g1:=aR F3.o 1;have h7:=ai (fun V=>DJ R3.o F3.o T3 Nl Nl Nl Nl (I 0) (I f0) (I f1) (V:=V));go_region;go_wp2;obtain⟨q1,q2,q3⟩:=h7.out _ rfl;obtain⟨y0,y1,y2,y3,y4⟩:=iH q1;obtain⟨z0,z1⟩:=rq q2;refine bO (v:=.tuple #[.agg #[Nl,Nl,Nl,Nl,I 0],.string ⟨#[]⟩,.agg #[I f0,I f1],I 0]) (by simp[results,Tryz.results262,go_sem,y0,y1,y2,y3,y4,z0,z1]) rfl ?_;exact dz.o _ (aD.below tC.o (q3.trans (aD.drew _ _) (fun _ _ g=>g)) tC.o.size (fun b e=>by omega))
 · have hA:qp k sp ad n way=(eG,⟨#[]⟩,(0,0),iZ k sp n way [0,2]):=by unfold qp;grind
   rw[hA];have Ax:=ai (Fw k a sp n way [0,2] (some (Ad WA.heap.size 0)) 2 WB (hK.below hb1) hF hsp hrow (by simp) c);rw[show([0,2]:List Int).length=2 from rfl] at Ax;obtain⟨C,hC⟩:=ex (iZ k sp n way [0,2]);rw[<- hC] at Ax c ⊢;have cb:(C != 0)=true:=by grind
   have dz:Hid (∀V,Below w.heap.size w V->cA w eG [.string ⟨#[]⟩,.agg #[I 0,I 0],I C] (.returned (.tuple #[.agg #[Nl,Nl,Nl,Nl,I 0],.string ⟨#[]⟩,.agg #[I 0,I 0],I C])) V):=fun V hV=>qH _ hV
   obtain⟨P,hP⟩:=ex (cA w eG [.string ⟨#[]⟩,.agg #[I 0,I 0],I C]);rw[<- hP] at dz ⊢;unfold bg at Ax se ⊢;clear hK hF hsp had hA hC c hP lO hWB hb0 hb1 kb rb fb hrow hsz aaL;go_enter Tryz.func262,Tryz.ntmps262;go_upto_region 1 with fail;rw[<- se.o];go_upto_region 3 with(go_at_call 271;rw[<- HWB.o];refine Ax.o.mono ?_;rintro e w1 ⟨rfl,hb1⟩;have gQ:=ai (cN.o.trans (hb1.mono cN.o.size));have R1:=ai (RB.o _ hb1);have F1:=ai (FB.o _ hb1);clear hb1)
   obtain⟨y0,y1,y2,y3,y4⟩:=iH R1.o;obtain⟨z0,z1⟩:=rq F1.o;have f0:=aR R1.o 0;have f1:=aR R1.o 1;have f2:=aR R1.o 2;have f3:=aR R1.o 3;have f4:=aR R1.o 4;have g0:=aR F1.o 0;have g1:=aR F1.o 1;have h7:=ai (fun V=>DJ R1.o F1.o (by omega) Nl Nl Nl Nl (I 0) (I 0) (I 0) (V:=V));go_wp2;obtain⟨q1,q2,q3⟩:=h7.out _ rfl;obtain⟨y0,y1,y2,y3,y4⟩:=iH q1;obtain⟨z0,z1⟩:=rq q2;refine bO (v:=.tuple #[.agg #[Nl,Nl,Nl,Nl,I 0],.string ⟨#[]⟩,.agg #[I 0,I 0],I C]) (by simp[results,Tryz.results262,go_sem,y0,y1,y2,y3,y4,z0,z1]) rfl ?_;exact dz.o _ (aD.below gQ.o q3 gQ.o.size (fun b e=>by omega))
open Go.RowKit
def o7 (k:aT) (sp a:Int) (d:ByteArray):aT×(Int×Int)×Int:=if iZ k sp d.size 1 [1]≠0 then (eG,(0,0),iZ k sp d.size 1 [1]) else if (bR (ak k.aj sp.toNat).aU a d.size 1).1≠0 then (eG,bR (ak k.aj sp.toNat).aU a d.size 1,0) else (lC k sp.toNat a d,(0,0),0)
theorem abu (V:World):dW iE 1 0 (V.alloc (.cells #[I 1] 3)) (some (Ad V.heap.size 0)) [1]:=fun _=>by
 have h:=bE V #[I 1] 3;refine⟨V.heap.size,0,rfl,aJ h,fun i hi j hj=>?_⟩;obtain rfl:j=0:=by omega
 have hi:i<1:=hi;obtain rfl:i=0:=by omega
 exact au h 0 rfl
theorem VG (E8:rG) (k:aT) (a:jc) (sp ad:Int) (d:ByteArray) (w:World) (hK:jd w a k) (hF:nu k) (hsp:cO sp) (had:cO ad) :
  Calls Tryz.prog 265 #[.agg (bg a k),I sp,I ad,.string d] w (cA w (o7 k sp ad d).1 [.agg #[I (o7 k sp ad d).2.1.1,I (o7 k sp ad d).2.1.2],I (o7 k sp ad d).2.2]):=by
 obtain⟨WA,lO⟩:=ex (((w.alloc (.cells (bg a k) 30)).alloc (.cells #[Nl,Nl,Nl,Nl,I 0] 30)).alloc (.cells #[I 0,I 0] 75));have hb0:Below w.heap.size w WA:=by rw[lO];exact(((aK _ _).alloc (aI _) _).alloc (by simp) _).alloc (by simp;omega) _
 have kb:WA.heap[w.heap.size]?=some (.cells (bg a k) 30 (0,0)):=by grind [br,bE]
 have rb:WA.heap[w.heap.size+1]?=some (.cells #[Nl,Nl,Nl,Nl,I 0] 30 (0,0)):=by
  grind [br,bE,World.size_alloc]
 have fb:WA.heap[w.heap.size+1+1]?=some (.cells #[I 0,I 0] 75 (0,0)):=by
  grind [bE,World.size_alloc]
 have hsz:WA.heap.size=w.heap.size+3:=by simp_all
 obtain⟨WB,hWB⟩:=ex (WA.alloc (.cells #[I 1] 3));have hb1:Below w.heap.size w WB:=by grind [Below.alloc]
 have hrow:dW iE 1 0 WB (some (Ad WA.heap.size 0)) [1]:=by grind [abu]
 have aaL:WB.heap.size=w.heap.size+4:=by simp_all
 have RB:Hid (∀V,Below WB.heap.size WB V->V.heap[w.heap.size+1]?=some (.cells #[Nl,Nl,Nl,Nl,I 0] 30 (0,0))):=fun V hb=>aO (by grind [br]) hb (by omega)
 have FB:Hid (∀V,Below WB.heap.size WB V->V.heap[w.heap.size+1+1]?=some (.cells #[I 0,I 0] 75 (0,0))):=fun V hb=>aO (by grind [br]) hb (by omega)
 have k0:WA.cell? (Ad w.heap.size 0)=some (.slice a.aS k.aM.length a.cS):=au kb 0 rfl;have k1:WA.cell? (Ad w.heap.size 1)=some (.slice a.aF k.frames.length a.cF):=au kb 1 rfl;have k2:WA.cell? (Ad w.heap.size 2)=some (.slice a.aL k.slots.length a.cL):=au kb 2 rfl;have k3:WA.cell? (Ad w.heap.size 3)=some (.slice a.aP k.aj.length a.cP):=au kb 3 rfl;have k4:WA.cell? (Ad w.heap.size 4)=some (I k.hand):=au kb 4 rfl;have se:=ai lO;have HWB:=ai hWB;have cN:=ai hb1;by_cases c:iZ k sp (d.size:Int) 1 [1]=0
 · obtain⟨hlv,hn,hwy⟩:=KD c;obtain⟨hR,Jb,hj,ui⟩:=rQ hlv;obtain⟨j,hje⟩:∃j:Nat,sp=(j:Int):=⟨sp.toNat,by omega⟩;subst hje;rw[lM] at hj ui;have Ax:=ai (Ik E8 k a (j:Int) (d.size:Int) 1 [1] (some (Ad WA.heap.size 0)) 1 WB (hK.below hb1) hF hsp hrow (by simp) c);rw[show([1]:List Int).length=1 from rfl] at Ax;have T3:w.heap.size+1≠w.heap.size+1+1:=by omega
   have HLB:=ai (show w.heap.size+1+1<WB.heap.size by omega);by_cases hf:(bR (ak k.aj j).aU ad (d.size:Int) 1).1=0
   · obtain⟨hf0,hal,hau,hmap⟩:=rR hn.1 hn.2 hf;have nJ:ez k j (ad/16):=by
      have:=hmap 0 (by omega) (by omega);rw[Dj] at this;exact this
     have hm2:ez k j (cD ad (d.size:Int)):=by
      have:=hmap ((d.size:Int)-1) (by omega) (by omega);unfold cD;rw[show ad+(d.size:Int)-1=ad+((d.size:Int)-1) by omega];exact this
     have RH:=nZ hR hj ad (d.size:Int) 1 nJ hm2;have hcc:=hR.c;have adC:0<(bf k j ad (d.size:Int) 1).2.frames.length:=by rw[RH.kept.nf];omega
     have PV:(bf k j ad (d.size:Int) 1).1.length<=2:=by
      rw[(Bf k j ad (d.size:Int) 1).2.2];unfold nX
      grind
     have Oe:∀m,m<(bf k j ad (d.size:Int) 1).1.length->(bf k j ad (d.size:Int) 1).1.getD m 0<(bf k j ad (d.size:Int) 1).2.frames.length:=fun m hm=>by
      rw[RH.kept.nf];by_cases z:cD ad (d.size:Int)=ad/16
      · have e:(bf k j ad (d.size:Int) 1).1=[(fp k j ad 1).1]:=by unfold bf;rw[aC z]
        rw[e] at hm ⊢;have hm:m<1:=hm;obtain rfl:m=0:=by omega
        exact RH.one.2
      · have e:(bf k j ad (d.size:Int) 1).1=[(fp k j ad 1).1,(kF k j ad (d.size:Int) 1).1]:=by unfold bf;rw[aA z]
        rw[e] at hm ⊢;have hm:m<2:=hm;rcases(show m=0∨m=1 by omega) with rfl | rfl
        · exact RH.one.2
        · exact(RH.two z).2
     have Yc:∀m,m<(bf k j ad (d.size:Int) 1).1.length->(aH (bf k j ad (d.size:Int) 1).2.frames ((bf k j ad (d.size:Int) 1).1.getD m 0)).data.size<=1000:=fun m hm=>by
      have hi:=Oe m hm;by_cases z:(aH (bf k j ad (d.size:Int) 1).2.frames ((bf k j ad (d.size:Int) 1).1.getD m 0)).refs=0
      · have:=(RH.right.zL _ hi).zero ((RH.right.zL _ hi).nil z);rw[this];show(0:Nat)<=1000;omega
      · have:=(RH.right.zL _ hi).size ((RH.right.zL _ hi).ne z);omega
     have hPg:Eb (cI k j) ad (d.size:Int):=⟨pB hR hj nJ,pB hR hj hm2⟩;have hfit:=Bn hPg hn.1 hn.2;have hjs:=zu hPg hn.1 hn.2;have M0:=xV hR hj ad (d.size:Int) 1 nJ hm2;have aqk:=hjs;have hlL:(iC (iP (bf k j ad (d.size:Int) 1).2.frames (bf k j ad (d.size:Int) 1).1 (bf k j ad (d.size:Int) 1).1.length) (ad%16).toNat d).size=(nQ (cI k j) ad (d.size:Int)).size:=by
      rw[M0];exact KZ _ _ _ (by omega)
     have hpl:(bf k j ad (d.size:Int) 1).1.length*16=(nQ (cI k j) ad (d.size:Int)).size:=by
      rw[(Bf k j ad (d.size:Int) 1).2.2];unfold nX;split at hjs <;> rename_i z
      · rw[aC z];omega
      · rw[aA z];omega
     have aqE:(nQ (cI k j) ad (d.size:Int)).size<=32:=by omega
     have HLY:Hid (∀V,Calls Tryz.prog 124 #[.string (iP (bf k j ad (d.size:Int) 1).2.frames (bf k j ad (d.size:Int) 1).1 (bf k j ad (d.size:Int) 1).1.length),I (((ad%16).toNat:Nat):Int),.string d] V fun e w'=>e=.returned (.tuple #[.string (iC (iP (bf k j ad (d.size:Int) 1).2.frames (bf k j ad (d.size:Int) 1).1 (bf k j ad (d.size:Int) 1).1.length) (ad%16).toNat d),I 0])/\Below V.heap.size V w'):=fun V=>JF _ d (ad%16).toNat V (by rw[M0];omega) (by rw[M0];omega)
     have akd:ad.tmod 16=(((ad%16).toNat:Nat):Int):=by
      rw[U7 (by omega)];omega
     have hST:=wh hR hj ad d hn.1 hn.2 nJ hm2;have hsk:=hST.aM;have hA:o7 k (j:Int) ad d=(lC k j ad d,(0,0),0):=by
      unfold o7;rw[aA (fun x=>x c),lM,aA (fun x=>x hf)]
     rw[hA];have Hv:Hid (∀V S mb hs,cC k.aM hs->bK WB.heap.size mb 158 (ij k) V S (aV k hs)->Below w.heap.size w V->V.heap[w.heap.size+1]?=some (.cells #[Nl,Nl,Nl,Nl,I 0] 30 (0,0))->V.heap[w.heap.size+1+1]?=some (.cells #[I 0,I 0] 75 (0,0))->Calls Tryz.prog 272 #[.pointer (some (Ad mb 0)),I (j:Int),I ad,I (d.size:Int),I 1] V fun e w'=>∃av nv cv,e=.returned (.tuple #[.slice av nv cv,.agg #[I 0,I 0]])/\(∀V',Below w'.heap.size w' V'->Calls Tryz.prog 273 #[.pointer (some (Ad mb 0)),.slice av nv cv] V' fun e w''=>e=.returned (.string (iP (bf k j ad (d.size:Int) 1).2.frames (bf k j ad (d.size:Int) 1).1 (bf k j ad (d.size:Int) 1).1.length))/\w''=V')/\(∀V',Below w'.heap.size w' V'->Calls Tryz.prog 278 #[.pointer (some (Ad mb 0)),.slice av nv cv,.string (iC (iP (bf k j ad (d.size:Int) 1).2.frames (bf k j ad (d.size:Int) 1).1 (bf k j ad (d.size:Int) 1).1.length) (ad%16).toNat d)] V' fun e w''=>∃aS nS cS aF nF cF aL nL cL aP nP cP hd,e=.returned (.tuple #[])/\w''.cell? (Ad mb 0)=some (.slice aS nS cS)/\w''.cell? (Ad mb 1)=some (.slice aF nF cF)/\w''.cell? (Ad mb 2)=some (.slice aL nL cL)/\w''.cell? (Ad mb 3)=some (.slice aP nP cP)/\w''.cell? (Ad mb 4)=some (I hd)/\w''.heap[w.heap.size+1]?=some (.cells #[Nl,Nl,Nl,Nl,I 0] 30 (0,0))/\w''.heap[w.heap.size+1+1]?=some (.cells #[I 0,I 0] 75 (0,0))/\(∀U,aD (fun b=>b=w.heap.size+1∨b=w.heap.size+1+1) w'' U->cA w (lC k j ad d) [.agg #[I 0,I 0],I 0] (.returned (.tuple #[.agg #[.slice aS nS cS,.slice aF nF cF,.slice aL nL cL,.slice aP nP cP,I hd],.agg #[I 0,I 0],I 0])) U))):=fun V S mb hs hsame hV hbV hrV hfV=>by
      have hR':=hR.wT hsame;refine(Il (aV k hs) S V j ad (d.size:Int) 1 hV hR' hj had hn hf (Ng hR.mr hsame)).mono fun e w' ⟨av,cv,S',e1,zK,hk',hc'⟩=>?_
      rw[sY hR hj nJ hsame] at hk' e1 zK;have Od:∀b,b<WB.heap.size->S.lab b=.no:=fun b hb=>y7.1 fun x=>by have:=(hV.yJ b x).1;omega
      have hbd:=HLB.o;have hbl:Below w.heap.size w w':=aD.below hbV hc'.kp hbV.size (fun b hb=>by have:=(hV.yJ b hb).1;omega);have PW:w.heap.size+1<w'.heap.size:=fL (aJ hrV) hc'.kp.size;have hl2:w.heap.size+1+1<w'.heap.size:=fL (aJ hfV) hc'.kp.size;have rE:S'.lab (w.heap.size+1)=.no:=hc'.no _ (aJ hrV) (Od _ (by omega));have n2:S'.lab (w.heap.size+1+1)=.no:=hc'.no _ (aJ hfV) (Od _ hbd);have hr':=hc'.keep hrV (Od _ (by omega));have hf':=hc'.keep hfV (Od _ hbd);refine⟨av,_,cv,e1,fun V' hb'=>?_,fun V' hb'=>?_⟩
      · exact Nj (aV (bf k j ad (d.size:Int) 1).2 hs) S' V' (bf k j ad (d.size:Int) 1).1 av cv (hk'.below hb') (zK.ch (cM.below hb')) (fun m hm=>Oe m hm) PV (fun m hm=>Yc m hm) adC
      · refine(YU (aV (bf k j ad (d.size:Int) 1).2 hs) S' V' (bf k j ad (d.size:Int) 1).1 (iC (iP (bf k j ad (d.size:Int) 1).2.frames (bf k j ad (d.size:Int) 1).1 (bf k j ad (d.size:Int) 1).1.length) (ad%16).toNat d) av cv (hk'.below hb') (zK.ch (cM.below hb')) (fun m hm=>Oe m hm) PV (by omega) (by omega) adC).mono fun e w'' ⟨e2,hk2,hc2⟩=>?_
        rw[Cl] at hk2;have hk3:bK WB.heap.size mb 158 (ij k) w'' S' (aV (lC k j ad d) hs):=hk2;clear hk2;obtain⟨aS,cS,eS,_⟩:=bj hk3.aM;obtain⟨aF,cF,eF,_⟩:=bj hk3.frames;obtain⟨aL,cL,eL,_⟩:=bj hk3.slots;obtain⟨aP,cP,eP,_⟩:=bj hk3.aj;have c0:=hk3.c0;have c1:=hk3.c1;have c2:=hk3.c2;have c3:=hk3.c3;rw[eS] at c0;rw[eF] at c1;rw[eL] at c2;rw[eP] at c3;have adK:Below w.heap.size w w'':=aD.below (hbl.trans (hb'.mono hbl.size)) hc2.kp (gY hbl.size hb'.size) (fun b hb=>by have:=(hk'.yJ b hb).1;omega);refine⟨aS,_,cS,aF,_,cF,aL,_,cL,aP,_,cP,_,e2,c0,c1,c2,c3,hk3.c4,hc2.keep (aO hr' hb' PW) rE,hc2.keep (aO hf' hb' hl2) n2,fun U hU=>⟨S',hs,by rw[hsk];omega,by rw[eS,eF,eL,eP];rfl,?_,?_⟩⟩
        · exact(hk3.toKr.kp hU (fun b hb e=>hb (by rcases e with e | e <;> rw[e] <;> first | exact rE | exact n2))).mono (by omega)
        · exact aD.below adK hU adK.size (fun b e=>by omega)
     obtain⟨P,hP⟩:=ex (cA w (lC k j ad d) [.agg #[I 0,I 0],I 0]);rw[<- hP] at Hv;obtain⟨LD,hLD⟩:=ex ((iC (iP (bf k j ad (d.size:Int) 1).2.frames (bf k j ad (d.size:Int) 1).1 (bf k j ad (d.size:Int) 1).1.length) (ad%16).toNat d));rw[<- hLD] at Hv HLY;obtain⟨JD,hJD⟩:=ex ((iP (bf k j ad (d.size:Int) 1).2.frames (bf k j ad (d.size:Int) 1).1 (bf k j ad (d.size:Int) 1).1.length));rw[<- hJD] at Hv HLY;obtain⟨md,hmd⟩:=ex ((ad%16).toNat);rw[<- hmd] at HLY akd;show Calls _ _ _ _ (cA w (lC k j ad d) [.agg #[I 0,I 0],I 0]);rw[<- hP];have xq:Hid (Calls Tryz.prog 271 #[.agg (bg a k),I (j:Int),I (d.size:Int),I 1,.slice (some (Ad WA.heap.size 0)) 1 1] WB fun e w'=>∃mb S hs,e=.returned (.tuple #[.pointer (some (Ad mb 0)),I 0])/\cC k.aM hs/\bK WB.heap.size mb 158 (ij k) w' S (aV k hs)/\Below WB.heap.size WB w'):=Ax.o;unfold bg at xq se ⊢;clear hK hF hsp had hA c hP lO hWB hb0 hb1 kb rb fb hrow hsz aaL Ax hf hf0 hal hau hmap nJ hm2 hR hlv hn hwy hj ui Jb RH hcc adC PV Oe Yc hPg hfit hjs aqk M0 hlL hpl aqE hST hsk hLD hJD hmd;go_enter Tryz.func265,Tryz.ntmps265;go_upto_region 1 with fail;rw[<- se.o];go_upto_region 7 with(first
      | (go_at_call 271;rw[<- HWB.o];refine xq.o.mono ?_;rintro e w1 ⟨mb,S1,hs1,rfl,hs2,hk1,hb1⟩;have gQ:=ai (cN.o.trans (hb1.mono cN.o.size));have R1:=ai (RB.o _ hb1);have F1:=ai (FB.o _ hb1);have vD:=ai hk1;have yK:=ai hs2;clear hb1 hk1 hs2)
      | (go_at_call 272;refine(Hv.o _ _ _ _ yK.o vD.o gQ.o R1.o F1.o).mono ?_;rintro e w2 ⟨av,nv,cv,rfl,hjo,hpa⟩;have HJO:=ai hjo;have HPA:=ai hpa;clear hjo hpa;have X2:=ai (bE w2 #[I 0,I 0] 75);obtain⟨x0,x1⟩:=rq X2.o))
     have HA:=ai ((aK w2.heap.size w2).alloc (aI _) (.cells #[I 0,I 0] 75));obtain⟨W3,hW3⟩:=ex (w2.alloc (.cells #[I 0,I 0] 75));rw[<- hW3] at HA ⊢;clear hW3 x0 x1 X2;go_wp2_with (first
      | (go_at_call 273;refine(HJO.o _ HA.o).mono ?_;rintro e w4 ⟨rfl,rfl⟩)
      | (go_at_call 124;refine(HLY.o _).mono ?_;rintro e w5 ⟨rfl,Mb⟩;have XV:=ai (HA.o.trans (Mb.mono HA.o.size));clear Mb)
      | (go_at_call 278;refine(HPA.o _ XV.o).mono ?_;rintro e w6 ⟨aS,nS,cS,aF,nF,cF,aL,nL,cL,aP,nP,cP,hd,rfl,p0,p1,p2,p3,p4,r6,f6,hfin⟩;have R6:=ai r6;have F6:=ai f6;have Ay:=ai hfin;clear r6 f6 hfin;obtain⟨y0,y1,y2,y3,y4⟩:=iH R6.o;obtain⟨z0,z1⟩:=rq F6.o;have f0:=aR R6.o 0;have f1:=aR R6.o 1;have f2:=aR R6.o 2;have f3:=aR R6.o 3;have f4:=aR R6.o 4;have g0:=aR F6.o 0;have g1:=aR F6.o 1))
     have h7:=ai (fun V=>DJ R6.o F6.o T3 (.slice aS nS cS) (.slice aF nF cF) (.slice aL nL cL) (.slice aP nP cP) (I hd) (I 0) (I 0) (V:=V));obtain⟨q1,q2,q3⟩:=h7.out _ rfl;obtain⟨y0,y1,y2,y3,y4⟩:=iH q1;obtain⟨z0,z1⟩:=rq q2;refine bO (v:=.tuple #[.agg #[.slice aS nS cS,.slice aF nF cF,.slice aL nL cL,.slice aP nP cP,I hd],.agg #[I 0,I 0],I 0]) (by simp[results,Tryz.results265,go_sem,y0,y1,y2,y3,y4,z0,z1]) rfl ?_;exact Ay.o _ q3
   · have hA:o7 k (j:Int) ad d=(eG,bR (ak k.aj j).aU ad (d.size:Int) 1,0):=by
      unfold o7
      grind
     rw[hA];obtain⟨FA,hFA⟩:=ex (bR (ak k.aj j).aU ad (d.size:Int) 1);have Hv:Hid (∀V S mb hs,cC k.aM hs->bK WB.heap.size mb 158 (ij k) V S (aV k hs)->Calls Tryz.prog 272 #[.pointer (some (Ad mb 0)),I (j:Int),I ad,I (d.size:Int),I 1] V fun e w'=>e=.returned (.tuple #[Nl,.agg #[I FA.1,I FA.2]])/\Below V.heap.size V w'):=fun V S mb hs hsame hV=>by
      rw[hFA];exact Fy (aV k hs) S V j ad (d.size:Int) 1 hV (hR.wT hsame) hj had hn hf
     rw[<- hFA] at hf ⊢;have L4:(FA.1 != 0)=true:=by grind
     have xq:Hid (Calls Tryz.prog 271 #[.agg (bg a k),I (j:Int),I (d.size:Int),I 1,.slice (some (Ad WA.heap.size 0)) 1 1] WB fun e w'=>∃mb S hs,e=.returned (.tuple #[.pointer (some (Ad mb 0)),I 0])/\cC k.aM hs/\bK WB.heap.size mb 158 (ij k) w' S (aV k hs)/\Below WB.heap.size WB w'):=Ax.o;obtain⟨f0,f1⟩:=FA;simp only at Hv L4 ⊢;have dz:Hid (∀V,Below w.heap.size w V->cA w eG [.agg #[I f0,I f1],I 0] (.returned (.tuple #[.agg #[Nl,Nl,Nl,Nl,I 0],.agg #[I f0,I f1],I 0])) V):=fun V hV=>qH _ hV
     obtain⟨P,hP⟩:=ex (cA w eG [.agg #[I f0,I f1],I 0]);rw[<- hP] at dz ⊢;unfold bg at xq se ⊢;clear hK hF hsp had hA c hP lO hWB hb0 hb1 kb rb fb hrow hsz aaL Ax hf hR hlv hn hwy hj ui Jb hFA;go_enter Tryz.func265,Tryz.ntmps265;go_upto_region 1 with fail;rw[<- se.o];go_upto_region 6 with(first
      | (go_at_call 271;rw[<- HWB.o];refine xq.o.mono ?_;rintro e w1 ⟨mb,S1,hs1,rfl,hs2,hk1,hb1⟩;have gQ:=ai (cN.o.trans (hb1.mono cN.o.size));have R1:=ai (RB.o _ hb1);have F1:=ai (FB.o _ hb1);have vD:=ai hk1;have yK:=ai hs2;clear hb1 hk1 hs2)
      | (go_at_call 272;refine(Hv.o _ _ _ _ yK.o vD.o).mono ?_;rintro e w2 ⟨rfl,hb2⟩;have R2:=ai (aO R1.o hb2 (aJ R1.o));have F2:=ai (aO F1.o hb2 (aJ F1.o));have mO:=ai (gQ.o.trans (hb2.mono gQ.o.size));have X2:=ai (bE w2 #[I f0,I f1] 75);obtain⟨x0,x1⟩:=rq X2.o;clear hb2))
     have R3:=ai (br R2.o (.cells #[I f0,I f1] 75));have F3:=ai (br F2.o (.cells #[I f0,I f1] 75));have tC:=ai (mO.o.alloc mO.o.size (.cells #[I f0,I f1] 75));have hl3:=aJ F2.o;obtain⟨W3,hW3⟩:=ex (w2.alloc (.cells #[I f0,I f1] 75));rw[<- hW3] at R3 F3 tC x0 x1 ⊢;clear hW3;obtain⟨y0,y1,y2,y3,y4⟩:=iH R3.o;obtain⟨z0,z1⟩:=rq F3.o;have e0:=aR R3.o 0;have e1:=aR R3.o 1;have e2:=aR R3.o 2;have e3:=aR R3.o 3;have e4:=aR R3.o 4;have g0:=aR F3.o 0;have g1:=aR F3.o 1;have h7:=ai (fun V=>DJ R3.o F3.o T3 Nl Nl Nl Nl (I 0) (I f0) (I f1) (V:=V));go_region;go_wp2;obtain⟨q1,q2,q3⟩:=h7.out _ rfl;obtain⟨y0,y1,y2,y3,y4⟩:=iH q1;obtain⟨z0,z1⟩:=rq q2;refine bO (v:=.tuple #[.agg #[Nl,Nl,Nl,Nl,I 0],.agg #[I f0,I f1],I 0]) (by simp[results,Tryz.results265,go_sem,y0,y1,y2,y3,y4,z0,z1]) rfl ?_;exact dz.o _ (aD.below tC.o (q3.trans (aD.drew _ _) (fun _ _ g=>g)) tC.o.size (fun b e=>by omega))
 · have hA:o7 k sp ad d=(eG,(0,0),iZ k sp (d.size:Int) 1 [1]):=by unfold o7;grind
   rw[hA];have Ax:=ai (Fw k a sp (d.size:Int) 1 [1] (some (Ad WA.heap.size 0)) 1 WB (hK.below hb1) hF hsp hrow (by simp) c);rw[show([1]:List Int).length=1 from rfl] at Ax;obtain⟨C,hC⟩:=ex (iZ k sp (d.size:Int) 1 [1]);rw[<- hC] at Ax c ⊢;have cb:(C != 0)=true:=by grind
   have dz:Hid (∀V,Below w.heap.size w V->cA w eG [.agg #[I 0,I 0],I C] (.returned (.tuple #[.agg #[Nl,Nl,Nl,Nl,I 0],.agg #[I 0,I 0],I C])) V):=fun V hV=>qH _ hV
   obtain⟨P,hP⟩:=ex (cA w eG [.agg #[I 0,I 0],I C]);rw[<- hP] at dz ⊢;unfold bg at Ax se ⊢;clear hK hF hsp had hA hC c hP lO hWB hb0 hb1 kb rb fb hrow hsz aaL;go_enter Tryz.func265,Tryz.ntmps265;go_upto_region 1 with fail;rw[<- se.o];go_upto_region 3 with(go_at_call 271;rw[<- HWB.o];refine Ax.o.mono ?_;rintro e w1 ⟨rfl,hb1⟩;have gQ:=ai (cN.o.trans (hb1.mono cN.o.size));have R1:=ai (RB.o _ hb1);have F1:=ai (FB.o _ hb1);clear hb1)
   obtain⟨y0,y1,y2,y3,y4⟩:=iH R1.o;obtain⟨z0,z1⟩:=rq F1.o;have f0:=aR R1.o 0;have f1:=aR R1.o 1;have f2:=aR R1.o 2;have f3:=aR R1.o 3;have f4:=aR R1.o 4;have g0:=aR F1.o 0;have g1:=aR F1.o 1;have h7:=ai (fun V=>DJ R1.o F1.o (by omega) Nl Nl Nl Nl (I 0) (I 0) (I 0) (V:=V));go_wp2;obtain⟨q1,q2,q3⟩:=h7.out _ rfl;obtain⟨y0,y1,y2,y3,y4⟩:=iH q1;obtain⟨z0,z1⟩:=rq q2;refine bO (v:=.tuple #[.agg #[Nl,Nl,Nl,Nl,I 0],.agg #[I 0,I 0],I C]) (by simp[results,Tryz.results265,go_sem,y0,y1,y2,y3,y4,z0,z1]) rfl ?_;exact dz.o _ (aD.below gQ.o q3 gQ.o.size (fun b e=>by omega))
open Go.RowKit
theorem QZ {k:aT} (h:aZ k) {hs:List bJ} (s:cC k.aM hs):gq (aV k hs)=0:=(wC _).2 (h.wT s)
end Go.Proofs.YtlgoihmkgaaemaaGreat
