import Derived.Test.YtpgifpeohlllfaaGreatGV28
set_option maxHeartbeats 20000000
set_option linter.unusedVariables false
set_option maxRecDepth 100000
set_option linter.unusedSimpArgs false
namespace Go.Proofs.YtpgifpeohlllfaaGreat
namespace Go.Proofs.YtpgifpeohlllfaaGreat
open Go.RowKit
def gL (k:aN) (sp a n way:Int):aN×ByteArray×(Int×Int)×Int:=if eI k sp n way [0,2]≠0 then (cJ,⟨#[]⟩,(0,0),eI k sp n way [0,2]) else if (dQ (ak k.aj sp.toNat).aZ a n way).1≠0 then (cJ,⟨#[]⟩,dQ (ak k.aj sp.toNat).aZ a n way,0) else ((bh k sp.toNat a n way).2,o9 k sp.toNat a n way,(0,0),0)
theorem aak (V:World):dz eZ 1 0 (V.alloc (.cells #[I 0,I 2] 3)) (some (Ad V.heap.size 0)) [0,2]:=fun _=>by
 have h:=bG V #[I 0,I 2] 3;refine⟨V.heap.size,0,rfl,aO h,fun i hi j hj=>?_⟩;obtain rfl:j=0:=by omega
 have hi:i<2:=hi;rcases(show i=0∨i=1 by omega) with rfl | rfl
 · exact aB h 0 rfl
 · exact aB h 1 rfl
theorem Me (zw:oD) (k:aN) (a:fP) (sp ad n way:Int) (w:World) (hK:fT w a k) (hF:gW k) (hsp:dY sp) (had:dY ad) :
  Calls Tryz.prog 25 #[.agg (aT a k),I sp,I ad,I n,I way] w (bN w (gL k sp ad n way).1 [.string (gL k sp ad n way).2.1,.agg #[I (gL k sp ad n way).2.2.1.1,I (gL k sp ad n way).2.2.1.2],I (gL k sp ad n way).2.2.2]):=by
 obtain⟨WA,iK⟩:=ex (((w.alloc (.cells (aT a k) 27)).alloc (.cells #[Nl,Nl,Nl,Nl,I 0] 27)).alloc (.cells #[I 0,I 0] 36));have hb0:Below w.heap.size w WA:=by rw[iK];exact(((aK _ _).alloc (aM _) _).alloc (by simp) _).alloc (by simp;omega) _
 have kb:WA.heap[w.heap.size]?=some (.cells (aT a k) 27 (0,0)):=by grind [bE,bG]
 have rb:WA.heap[w.heap.size+1]?=some (.cells #[Nl,Nl,Nl,Nl,I 0] 27 (0,0)):=by
  grind [bE,bG,World.size_alloc]
 have fb:WA.heap[w.heap.size+1+1]?=some (.cells #[I 0,I 0] 36 (0,0)):=by
  grind [bG,World.size_alloc]
 have hsz:WA.heap.size=w.heap.size+3:=by simp_all
 obtain⟨WB,Xm⟩:=ex (WA.alloc (.cells #[I 0,I 2] 3));have hb1:Below w.heap.size w WB:=by grind [Below.alloc]
 have hrow:dz eZ 1 0 WB (some (Ad WA.heap.size 0)) [0,2]:=by grind [aak]
 have Oo:WB.heap.size=w.heap.size+4:=by simp_all
 have RB:Hid (∀V,Below WB.heap.size WB V->V.heap[w.heap.size+1]?=some (.cells #[Nl,Nl,Nl,Nl,I 0] 27 (0,0))):=fun V hb=>aQ (by grind [bE]) hb (by omega)
 have FB:Hid (∀V,Below WB.heap.size WB V->V.heap[w.heap.size+1+1]?=some (.cells #[I 0,I 0] 36 (0,0))):=fun V hb=>aQ (by grind [bE]) hb (by omega)
 have k0:WA.cell? (Ad w.heap.size 0)=some (.slice a.aS k.aA.length a.cS):=aB kb 0 rfl;have k1:WA.cell? (Ad w.heap.size 1)=some (.slice a.aF k.frames.length a.cF):=aB kb 1 rfl;have k2:WA.cell? (Ad w.heap.size 2)=some (.slice a.aL k.slots.length a.cL):=aB kb 2 rfl;have k3:WA.cell? (Ad w.heap.size 3)=some (.slice a.aP k.aj.length a.cP):=aB kb 3 rfl;have k4:WA.cell? (Ad w.heap.size 4)=some (I k.hand):=aB kb 4 rfl;have iG:=ai iK;have HWB:=ai Xm;have cT:=ai hb1;by_cases c:eI k sp n way [0,2]=0
 · obtain⟨hlv,hn,hwy⟩:=r9 c;obtain⟨hR,wR,hj,mN⟩:=jy hlv;obtain⟨j,Xh⟩:∃j:Nat,sp=(j:Int):=⟨sp.toNat,by omega⟩;subst Xh;rw[iu] at hj mN;have vt:=ai (AG zw k a (j:Int) n way [0,2] (some (Ad WA.heap.size 0)) 2 WB (hK.below hb1) hF hsp hrow (by simp) c);rw[show([0,2]:List Int).length=2 from rfl] at vt;have IJ:w.heap.size+1≠w.heap.size+1+1:=by omega
   have HLB:=ai (show w.heap.size+1+1<WB.heap.size by omega);by_cases hf:(dQ (ak k.aj j).aZ ad n way).1=0
   · obtain⟨Ov,hal,hau,hmap⟩:=kS hn.1 hn.2 hf;have qP:cV k j (ad/16):=by
      have:=hmap 0 (by omega) (by omega);rw[xM] at this;exact this
     have hm2:cV k j (bK ad n):=by
      have:=hmap (n-1) (by omega) (by omega);unfold bK;rw[show ad+n-1=ad+(n-1) by omega];exact this
     have RH:=l8 hR hj ad n way qP hm2;have hrk:=RH.kept.aA;have hcc:=hR.c;have acK:0<(bh k j ad n way).2.frames.length:=by rw[RH.kept.nf];omega
     have Ot:(bh k j ad n way).1.length<=2:=by
      rw[(Aa k j ad n way).2.2];unfold nR
      grind
     have MV:∀m,m<(bh k j ad n way).1.length->(bh k j ad n way).1.getD m 0<(bh k j ad n way).2.frames.length:=fun m hm=>by
      rw[RH.kept.nf];by_cases z:bK ad n=ad/16
      · have e:(bh k j ad n way).1=[(ft k j ad way).1]:=by unfold bh;rw[bf z]
        rw[e] at hm ⊢;have hm:m<1:=hm;obtain rfl:m=0:=by omega
        exact RH.one.2
      · have e:(bh k j ad n way).1=[(ft k j ad way).1,(iN k j ad n way).1]:=by unfold bh;rw[bl z]
        rw[e] at hm ⊢;have hm:m<2:=hm;rcases(show m=0∨m=1 by omega) with rfl | rfl
        · exact RH.one.2
        · exact(RH.two z).2
     have WY:∀m,m<(bh k j ad n way).1.length->(au (bh k j ad n way).2.frames ((bh k j ad n way).1.getD m 0)).data.size<=1000:=fun m hm=>by
      have hi:=MV m hm;by_cases z:(au (bh k j ad n way).2.frames ((bh k j ad n way).1.getD m 0)).refs=0
      · have:=(RH.right.zS _ hi).zero ((RH.right.zS _ hi).nil z);rw[this];show(0:Nat)<=1000;omega
      · have:=(RH.right.zS _ hi).size ((RH.right.zS _ hi).ne z);omega
     have hPg:pX (cQ k j) ad n:=⟨kX hR hj qP,kX hR hj hm2⟩;have hfit:=xj hPg hn.1 hn.2;have hjs:=yc hPg hn.1 hn.2;have L1:=s9 hR hj ad n way qP hm2;have HPT:Hid (∀V,Calls Tryz.prog 63 #[.string (iT (bh k j ad n way).2.frames (bh k j ad n way).1 (bh k j ad n way).1.length),I (((ad%16).toNat:Nat):Int),I n] V fun e w'=>e=.returned (.tuple #[.string (o9 k j ad n way),I 0])/\Below V.heap.size V w'):=fun V=>by
      have:=Fa (iT (bh k j ad n way).2.frames (bh k j ad n way).1 (bh k j ad n way).1.length) (ad%16).toNat n.toNat V (by rw[L1];omega) (by rw[L1];omega);rw[show((n.toNat:Nat):Int)=n by omega] at this;exact this
     have aiQ:ad.tmod 16=(((ad%16).toNat:Nat):Int):=by
      rw[N8 (by omega)];omega
     have hA:gL k (j:Int) ad n way=((bh k j ad n way).2,o9 k j ad n way,(0,0),0):=by
      unfold gL;rw[bl (fun x=>x c),iu,bl (fun x=>x hf)]
     rw[hA];have sS:Hid (∀V S mb hs,dw k.aA hs->bQ WB.heap.size mb 104 (ik k) V S (bu k hs)->Below w.heap.size w V->V.heap[w.heap.size+1]?=some (.cells #[Nl,Nl,Nl,Nl,I 0] 27 (0,0))->V.heap[w.heap.size+1+1]?=some (.cells #[I 0,I 0] 36 (0,0))->Calls Tryz.prog 52 #[.pointer (some (Ad mb 0)),I (j:Int),I ad,I n,I way] V fun e w'=>∃av nv cv aS nS cS aF nF cF aL nL cL aP nP cP hd,e=.returned (.tuple #[.slice av nv cv,.agg #[I 0,I 0]])/\w'.cell? (Ad mb 0)=some (.slice aS nS cS)/\w'.cell? (Ad mb 1)=some (.slice aF nF cF)/\w'.cell? (Ad mb 2)=some (.slice aL nL cL)/\w'.cell? (Ad mb 3)=some (.slice aP nP cP)/\w'.cell? (Ad mb 4)=some (I hd)/\mb<w'.heap.size/\(∀V',Below w'.heap.size w' V'->Calls Tryz.prog 64 #[.pointer (some (Ad mb 0)),.slice av nv cv] V' fun e w''=>e=.returned (.string (iT (bh k j ad n way).2.frames (bh k j ad n way).1 (bh k j ad n way).1.length))/\w''=V')/\w'.heap[w.heap.size+1]?=some (.cells #[Nl,Nl,Nl,Nl,I 0] 27 (0,0))/\w'.heap[w.heap.size+1+1]?=some (.cells #[I 0,I 0] 36 (0,0))/\Below w.heap.size w w'/\(∀U,aH (fun b=>b=w.heap.size+1∨b=w.heap.size+1+1) w' U->bN w (bh k j ad n way).2 [.string (o9 k j ad n way),.agg #[I 0,I 0],I 0] (.returned (.tuple #[.agg #[.slice aS nS cS,.slice aF nF cF,.slice aL nL cL,.slice aP nP cP,I hd],.string (o9 k j ad n way),.agg #[I 0,I 0],I 0])) U)):=fun V S mb hs hsame hV QJ hrV hfV=>by
      have hR':=hR.Dn hsame;refine(AH (bu k hs) S V j ad n way hV hR' hj had hn hf (Ei hR.lQ hsame)).mono fun e w' ⟨av,cv,S',e1,yA,hk',hc'⟩=>?_
      rw[yR hR hj qP hsame] at hk' e1 yA;have Gc:∀b,b<WB.heap.size->S.lab b=.no:=fun b hb=>pK.1 fun x=>by have:=(hV.qF b x).1;omega
      have Ox:=HLB.o;obtain⟨aS,cS,eS,_⟩:=aY hk'.aA;obtain⟨aF,cF,eF,_⟩:=aY hk'.frames;obtain⟨aL,cL,eL,_⟩:=aY hk'.slots;obtain⟨aP,cP,eP,_⟩:=aY hk'.aj;have c0:=hk'.c0;have c1:=hk'.c1;have c2:=hk'.c2;have c3:=hk'.c3;rw[eS] at c0;rw[eF] at c1;rw[eL] at c2;rw[eP] at c3;have hbl:Below w.heap.size w w':=aH.below QJ hc'.kp QJ.size (fun b hb=>by have:=(hV.qF b hb).1;omega);refine⟨av,_,cv,aS,_,cS,aF,_,cF,aL,_,cL,aP,_,cP,_,e1,c0,c1,c2,c3,hk'.c4,hk'.lt,fun V' hb'=>?_,hc'.keep hrV (Gc _ (by omega)),hc'.keep hfV (Gc _ Ox),hbl,fun U hU=>⟨S',hs,by rw[hrk];omega,by rw[eS,eF,eL,eP];rfl,?_,?_⟩⟩
      · exact Mf (bu (bh k j ad n way).2 hs) S' V' (bh k j ad n way).1 av cv (hk'.below hb') (yA.ch (dI.below hb')) (fun m hm=>MV m hm) Ot (fun m hm=>WY m hm) acK
      · exact(hk'.toiZ.kp hU (fun b hb e=>hb (hc'.no b (by have:=aO hfV;omega) (Gc b (by omega))))).mono (by omega)
      · exact aH.below hbl hU hbl.size (fun b e=>by omega)
     obtain⟨P,hP⟩:=ex (bN w (bh k j ad n way).2 [.string (o9 k j ad n way),.agg #[I 0,I 0],I 0]);rw[<- hP] at sS;obtain⟨LD,hLD⟩:=ex (o9 k j ad n way);rw[<- hLD] at sS HPT;obtain⟨JD,hJD⟩:=ex (iT (bh k j ad n way).2.frames (bh k j ad n way).1 (bh k j ad n way).1.length);rw[<- hJD] at sS HPT;obtain⟨md,hmd⟩:=ex ((ad%16).toNat);rw[<- hmd] at HPT aiQ;show Calls _ _ _ _ (bN w (bh k j ad n way).2 [.string (o9 k j ad n way),.agg #[I 0,I 0],I 0]);rw[<- hP];have uq:Hid (Calls Tryz.prog 51 #[.agg (aT a k),I (j:Int),I n,I way,.slice (some (Ad WA.heap.size 0)) 2 2] WB fun e w'=>∃mb S hs,e=.returned (.tuple #[.pointer (some (Ad mb 0)),I 0])/\dw k.aA hs/\bQ WB.heap.size mb 104 (ik k) w' S (bu k hs)/\Below WB.heap.size WB w'):=vt.o;unfold aT at uq iG ⊢;clear hK hF hsp had hA c hP iK Xm hb0 hb1 kb rb fb hrow hsz Oo vt hf Ov hal hau hmap qP hm2 hrk hR hlv hn hwy hj mN wR RH hcc acK Ot MV WY hPg hfit hjs L1 hLD hJD hmd;go_enter Tryz.func25,Tryz.ntmps25;go_upto_region 1 with fail;rw[<- iG.o];go_upto_region 7 with(first
      | (go_at_call 51;rw[<- HWB.o];refine uq.o.mono ?_;rintro e w1 ⟨mb,S1,hs1,rfl,hs2,hk1,hb1⟩;have fq:=ai (cT.o.trans (hb1.mono cT.o.size));have R1:=ai (RB.o _ hb1);have F1:=ai (FB.o _ hb1);have yj:=ai hk1;have mg:=ai hs2;clear hb1 hk1 hs2)
      | (go_at_call 52;refine(sS.o _ _ _ _ mg.o yj.o fq.o R1.o F1.o).mono ?_;rintro e w2 ⟨av,nv,cv,aS,nS,cS,aF,nF,cF,aL,nL,cL,aP,nP,cP,hd,rfl,m0,m1,m2,m3,m4,Bk,hjo,hr2,hf2,hb2,hfin⟩;have HJO:=ai hjo;clear hjo;have R2:=ai hr2;have F2:=ai hf2;have qN:=ai hfin;have X2:=ai (bG w2 #[I 0,I 0] 36);obtain⟨x0,x1⟩:=kI X2.o;clear hr2 hf2 hb2 hfin))
     have R3:=ai (bE R2.o (.cells #[I 0,I 0] 36));have F3:=ai (bE F2.o (.cells #[I 0,I 0] 36));have HA:=ai ((aK w2.heap.size w2).alloc (aM _) (.cells #[I 0,I 0] 36));have p0:=(HA.o.cell (p:=(Ad mb 0)) Bk).trans m0;have p1:=(HA.o.cell (p:=(Ad mb 1)) Bk).trans m1;have p2:=(HA.o.cell (p:=(Ad mb 2)) Bk).trans m2;have p3:=(HA.o.cell (p:=(Ad mb 3)) Bk).trans m3;have p4:=(HA.o.cell (p:=(Ad mb 4)) Bk).trans m4;obtain⟨W3,hW3⟩:=ex (w2.alloc (.cells #[I 0,I 0] 36));rw[<- hW3] at R3 F3 HA p0 p1 p2 p3 p4 ⊢;clear hW3 m0 m1 m2 m3 m4 x0 x1;obtain⟨y0,y1,y2,y3,y4⟩:=dx R3.o;obtain⟨z0,z1⟩:=kI F3.o;have f0:=aJ R3.o 0;have f1:=aJ R3.o 1;have f2:=aJ R3.o 2;have f3:=aJ R3.o 3;have f4:=aJ R3.o 4;have g0:=aJ F3.o 0;have g1:=aJ F3.o 1;have h7:=ai (fun V=>wB R3.o F3.o IJ (.slice aS nS cS) (.slice aF nF cF) (.slice aL nL cL) (.slice aP nP cP) (I hd) (I 0) (I 0) (V:=V));go_wp2_with (first
      | (go_at_call 64;refine(HJO.o _ HA.o).mono ?_;rintro e w4 ⟨rfl,rfl⟩)
      | (go_at_call 63;refine(HPT.o _).mono ?_;rintro e w5 ⟨rfl,Cf⟩;have ym:=ai Cf;have R5:=ai (aQ R3.o Cf (aO R3.o));have F5:=ai (aQ F3.o Cf (aO F3.o));have HML:mb<w4.heap.size:=jt Bk HA.o.size;have p0:=(Cf.cell (p:=(Ad mb 0)) HML).trans p0;have p1:=(Cf.cell (p:=(Ad mb 1)) HML).trans p1;have p2:=(Cf.cell (p:=(Ad mb 2)) HML).trans p2;have p3:=(Cf.cell (p:=(Ad mb 3)) HML).trans p3;have p4:=(Cf.cell (p:=(Ad mb 4)) HML).trans p4;obtain⟨y0,y1,y2,y3,y4⟩:=dx R5.o;obtain⟨z0,z1⟩:=kI F5.o;have f0:=aJ R5.o 0;have f1:=aJ R5.o 1;have f2:=aJ R5.o 2;have f3:=aJ R5.o 3;have f4:=aJ R5.o 4;have g0:=aJ F5.o 0;have g1:=aJ F5.o 1;clear Cf))
     have h7:=ai (fun V=>wB R5.o F5.o IJ (.slice aS nS cS) (.slice aF nF cF) (.slice aL nL cL) (.slice aP nP cP) (I hd) (I 0) (I 0) (V:=V));obtain⟨q1,q2,q3⟩:=h7.out _ rfl;obtain⟨y0,y1,y2,y3,y4⟩:=dx q1;obtain⟨z0,z1⟩:=kI q2;refine bR (v:=.tuple #[.agg #[.slice aS nS cS,.slice aF nF cF,.slice aL nL cL,.slice aP nP cP,I hd],.string LD,.agg #[I 0,I 0],I 0]) (by simp[results,Tryz.results25,go_sem,y0,y1,y2,y3,y4,z0,z1]) rfl ?_;exact qN.o _ (((aH.b7 HA.o).trans (aH.b7 ym.o) (fun _ _ g=>g)).trans q3 (fun _ _ g=>g))
   · have hA:gL k (j:Int) ad n way=(cJ,⟨#[]⟩,dQ (ak k.aj j).aZ ad n way,0):=by
      unfold gL
      grind
     rw[hA];obtain⟨FA,hFA⟩:=ex (dQ (ak k.aj j).aZ ad n way);have sS:Hid (∀V S mb hs,dw k.aA hs->bQ WB.heap.size mb 104 (ik k) V S (bu k hs)->Calls Tryz.prog 52 #[.pointer (some (Ad mb 0)),I (j:Int),I ad,I n,I way] V fun e w'=>e=.returned (.tuple #[Nl,.agg #[I FA.1,I FA.2]])/\Below V.heap.size V w'):=fun V S mb hs hsame hV=>by
      rw[hFA];exact yI (bu k hs) S V j ad n way hV (hR.Dn hsame) hj had hn hf
     rw[<- hFA] at hf ⊢;have G3:(FA.1 != 0)=true:=by grind
     have uq:Hid (Calls Tryz.prog 51 #[.agg (aT a k),I (j:Int),I n,I way,.slice (some (Ad WA.heap.size 0)) 2 2] WB fun e w'=>∃mb S hs,e=.returned (.tuple #[.pointer (some (Ad mb 0)),I 0])/\dw k.aA hs/\bQ WB.heap.size mb 104 (ik k) w' S (bu k hs)/\Below WB.heap.size WB w'):=vt.o;obtain⟨f0,f1⟩:=FA;simp only at sS G3 ⊢;have cZ:Hid (∀V,Below w.heap.size w V->bN w cJ [.string ⟨#[]⟩,.agg #[I f0,I f1],I 0] (.returned (.tuple #[.agg #[Nl,Nl,Nl,Nl,I 0],.string ⟨#[]⟩,.agg #[I f0,I f1],I 0])) V):=fun V hV=>mo _ hV
     obtain⟨P,hP⟩:=ex (bN w cJ [.string ⟨#[]⟩,.agg #[I f0,I f1],I 0]);rw[<- hP] at cZ ⊢;unfold aT at uq iG ⊢;clear hK hF hsp had hA c hP iK Xm hb0 hb1 kb rb fb hrow hsz Oo vt hf hR hlv hn hwy hj mN wR hFA;go_enter Tryz.func25,Tryz.ntmps25;go_upto_region 1 with fail;rw[<- iG.o];go_upto_region 6 with(first
      | (go_at_call 51;rw[<- HWB.o];refine uq.o.mono ?_;rintro e w1 ⟨mb,S1,hs1,rfl,hs2,hk1,hb1⟩;have fq:=ai (cT.o.trans (hb1.mono cT.o.size));have R1:=ai (RB.o _ hb1);have F1:=ai (FB.o _ hb1);have yj:=ai hk1;have mg:=ai hs2;clear hb1 hk1 hs2)
      | (go_at_call 52;refine(sS.o _ _ _ _ mg.o yj.o).mono ?_;rintro e w2 ⟨rfl,hb2⟩;have R2:=ai (aQ R1.o hb2 (aO R1.o));have F2:=ai (aQ F1.o hb2 (aO F1.o));have jo:=ai (fq.o.trans (hb2.mono fq.o.size));have X2:=ai (bG w2 #[I f0,I f1] 36);obtain⟨x0,x1⟩:=kI X2.o;clear hb2))
     have R3:=ai (bE R2.o (.cells #[I f0,I f1] 36));have F3:=ai (bE F2.o (.cells #[I f0,I f1] 36));have kO:=ai (jo.o.alloc jo.o.size (.cells #[I f0,I f1] 36));have hl3:=aO F2.o;obtain⟨W3,hW3⟩:=ex (w2.alloc (.cells #[I f0,I f1] 36));rw[<- hW3] at R3 F3 kO x0 x1 ⊢;clear hW3;obtain⟨y0,y1,y2,y3,y4⟩:=dx R3.o;obtain⟨z0,z1⟩:=kI F3.o;have e0:=aJ R3.o 0;have e1:=aJ R3.o 1;have e2:=aJ R3.o 2;have e3:=aJ R3.o 3;have e4:=aJ R3.o 4;have g0:=aJ F3.o 0;have g1:=aJ F3.o 1;have h7:=ai (fun V=>wB R3.o F3.o IJ Nl Nl Nl Nl (I 0) (I f0) (I f1) (V:=V));go_region;go_wp2;obtain⟨q1,q2,q3⟩:=h7.out _ rfl;obtain⟨y0,y1,y2,y3,y4⟩:=dx q1;obtain⟨z0,z1⟩:=kI q2;refine bR (v:=.tuple #[.agg #[Nl,Nl,Nl,Nl,I 0],.string ⟨#[]⟩,.agg #[I f0,I f1],I 0]) (by simp[results,Tryz.results25,go_sem,y0,y1,y2,y3,y4,z0,z1]) rfl ?_;exact cZ.o _ (aH.below kO.o (q3.trans (aH.drew _ _) (fun _ _ g=>g)) kO.o.size (fun b e=>by omega))
 · have hA:gL k sp ad n way=(cJ,⟨#[]⟩,(0,0),eI k sp n way [0,2]):=by unfold gL;grind
   rw[hA];have vt:=ai (yG k a sp n way [0,2] (some (Ad WA.heap.size 0)) 2 WB (hK.below hb1) hF hsp hrow (by simp) c);rw[show([0,2]:List Int).length=2 from rfl] at vt;obtain⟨C,hC⟩:=ex (eI k sp n way [0,2]);rw[<- hC] at vt c ⊢;have cb:(C != 0)=true:=by grind
   have cZ:Hid (∀V,Below w.heap.size w V->bN w cJ [.string ⟨#[]⟩,.agg #[I 0,I 0],I C] (.returned (.tuple #[.agg #[Nl,Nl,Nl,Nl,I 0],.string ⟨#[]⟩,.agg #[I 0,I 0],I C])) V):=fun V hV=>mo _ hV
   obtain⟨P,hP⟩:=ex (bN w cJ [.string ⟨#[]⟩,.agg #[I 0,I 0],I C]);rw[<- hP] at cZ ⊢;unfold aT at vt iG ⊢;clear hK hF hsp had hA hC c hP iK Xm hb0 hb1 kb rb fb hrow hsz Oo;go_enter Tryz.func25,Tryz.ntmps25;go_upto_region 1 with fail;rw[<- iG.o];go_upto_region 3 with(go_at_call 51;rw[<- HWB.o];refine vt.o.mono ?_;rintro e w1 ⟨rfl,hb1⟩;have fq:=ai (cT.o.trans (hb1.mono cT.o.size));have R1:=ai (RB.o _ hb1);have F1:=ai (FB.o _ hb1);clear hb1)
   obtain⟨y0,y1,y2,y3,y4⟩:=dx R1.o;obtain⟨z0,z1⟩:=kI F1.o;have f0:=aJ R1.o 0;have f1:=aJ R1.o 1;have f2:=aJ R1.o 2;have f3:=aJ R1.o 3;have f4:=aJ R1.o 4;have g0:=aJ F1.o 0;have g1:=aJ F1.o 1;have h7:=ai (fun V=>wB R1.o F1.o (by omega) Nl Nl Nl Nl (I 0) (I 0) (I 0) (V:=V));go_wp2;obtain⟨q1,q2,q3⟩:=h7.out _ rfl;obtain⟨y0,y1,y2,y3,y4⟩:=dx q1;obtain⟨z0,z1⟩:=kI q2;refine bR (v:=.tuple #[.agg #[Nl,Nl,Nl,Nl,I 0],.string ⟨#[]⟩,.agg #[I 0,I 0],I C]) (by simp[results,Tryz.results25,go_sem,y0,y1,y2,y3,y4,z0,z1]) rfl ?_;exact cZ.o _ (aH.below fq.o q3 fq.o.size (fun b e=>by omega))
def fE (k:aN) (sp a:Int) (d:ByteArray):aN×(Int×Int)×Int:=if eI k sp d.size 1 [1]≠0 then (cJ,(0,0),eI k sp d.size 1 [1]) else if (dQ (ak k.aj sp.toNat).aZ a d.size 1).1≠0 then (cJ,dQ (ak k.aj sp.toNat).aZ a d.size 1,0) else (kR k sp.toNat a d,(0,0),0)
theorem aal (V:World):dz eZ 1 0 (V.alloc (.cells #[I 1] 3)) (some (Ad V.heap.size 0)) [1]:=fun _=>by
 have h:=bG V #[I 1] 3;refine⟨V.heap.size,0,rfl,aO h,fun i hi j hj=>?_⟩;obtain rfl:j=0:=by omega
 have hi:i<1:=hi;obtain rfl:i=0:=by omega
 exact aB h 0 rfl
theorem CI (zw:oD) (k:aN) (a:fP) (sp ad:Int) (d:ByteArray) (w:World) (hK:fT w a k) (hF:gW k) (hsp:dY sp) (had:dY ad) :
  Calls Tryz.prog 28 #[.agg (aT a k),I sp,I ad,.string d] w (bN w (fE k sp ad d).1 [.agg #[I (fE k sp ad d).2.1.1,I (fE k sp ad d).2.1.2],I (fE k sp ad d).2.2]):=by
 obtain⟨WA,iK⟩:=ex (((w.alloc (.cells (aT a k) 27)).alloc (.cells #[Nl,Nl,Nl,Nl,I 0] 27)).alloc (.cells #[I 0,I 0] 36));have hb0:Below w.heap.size w WA:=by rw[iK];exact(((aK _ _).alloc (aM _) _).alloc (by simp) _).alloc (by simp;omega) _
 have kb:WA.heap[w.heap.size]?=some (.cells (aT a k) 27 (0,0)):=by grind [bE,bG]
 have rb:WA.heap[w.heap.size+1]?=some (.cells #[Nl,Nl,Nl,Nl,I 0] 27 (0,0)):=by
  grind [bE,bG,World.size_alloc]
 have fb:WA.heap[w.heap.size+1+1]?=some (.cells #[I 0,I 0] 36 (0,0)):=by
  grind [bG,World.size_alloc]
 have hsz:WA.heap.size=w.heap.size+3:=by simp_all
 obtain⟨WB,Xm⟩:=ex (WA.alloc (.cells #[I 1] 3));have hb1:Below w.heap.size w WB:=by grind [Below.alloc]
 have hrow:dz eZ 1 0 WB (some (Ad WA.heap.size 0)) [1]:=by grind [aal]
 have Oo:WB.heap.size=w.heap.size+4:=by simp_all
 have RB:Hid (∀V,Below WB.heap.size WB V->V.heap[w.heap.size+1]?=some (.cells #[Nl,Nl,Nl,Nl,I 0] 27 (0,0))):=fun V hb=>aQ (by grind [bE]) hb (by omega)
 have FB:Hid (∀V,Below WB.heap.size WB V->V.heap[w.heap.size+1+1]?=some (.cells #[I 0,I 0] 36 (0,0))):=fun V hb=>aQ (by grind [bE]) hb (by omega)
 have k0:WA.cell? (Ad w.heap.size 0)=some (.slice a.aS k.aA.length a.cS):=aB kb 0 rfl;have k1:WA.cell? (Ad w.heap.size 1)=some (.slice a.aF k.frames.length a.cF):=aB kb 1 rfl;have k2:WA.cell? (Ad w.heap.size 2)=some (.slice a.aL k.slots.length a.cL):=aB kb 2 rfl;have k3:WA.cell? (Ad w.heap.size 3)=some (.slice a.aP k.aj.length a.cP):=aB kb 3 rfl;have k4:WA.cell? (Ad w.heap.size 4)=some (I k.hand):=aB kb 4 rfl;have iG:=ai iK;have HWB:=ai Xm;have cT:=ai hb1;by_cases c:eI k sp (d.size:Int) 1 [1]=0
 · obtain⟨hlv,hn,hwy⟩:=r9 c;obtain⟨hR,wR,hj,mN⟩:=jy hlv;obtain⟨j,Xh⟩:∃j:Nat,sp=(j:Int):=⟨sp.toNat,by omega⟩;subst Xh;rw[iu] at hj mN;have vt:=ai (AG zw k a (j:Int) (d.size:Int) 1 [1] (some (Ad WA.heap.size 0)) 1 WB (hK.below hb1) hF hsp hrow (by simp) c);rw[show([1]:List Int).length=1 from rfl] at vt;have IJ:w.heap.size+1≠w.heap.size+1+1:=by omega
   have HLB:=ai (show w.heap.size+1+1<WB.heap.size by omega);by_cases hf:(dQ (ak k.aj j).aZ ad (d.size:Int) 1).1=0
   · obtain⟨Ov,hal,hau,hmap⟩:=kS hn.1 hn.2 hf;have qP:cV k j (ad/16):=by
      have:=hmap 0 (by omega) (by omega);rw[xM] at this;exact this
     have hm2:cV k j (bK ad (d.size:Int)):=by
      have:=hmap ((d.size:Int)-1) (by omega) (by omega);unfold bK;rw[show ad+(d.size:Int)-1=ad+((d.size:Int)-1) by omega];exact this
     have RH:=l8 hR hj ad (d.size:Int) 1 qP hm2;have hcc:=hR.c;have acK:0<(bh k j ad (d.size:Int) 1).2.frames.length:=by rw[RH.kept.nf];omega
     have Ot:(bh k j ad (d.size:Int) 1).1.length<=2:=by
      rw[(Aa k j ad (d.size:Int) 1).2.2];unfold nR
      grind
     have MV:∀m,m<(bh k j ad (d.size:Int) 1).1.length->(bh k j ad (d.size:Int) 1).1.getD m 0<(bh k j ad (d.size:Int) 1).2.frames.length:=fun m hm=>by
      rw[RH.kept.nf];by_cases z:bK ad (d.size:Int)=ad/16
      · have e:(bh k j ad (d.size:Int) 1).1=[(ft k j ad 1).1]:=by unfold bh;rw[bf z]
        rw[e] at hm ⊢;have hm:m<1:=hm;obtain rfl:m=0:=by omega
        exact RH.one.2
      · have e:(bh k j ad (d.size:Int) 1).1=[(ft k j ad 1).1,(iN k j ad (d.size:Int) 1).1]:=by unfold bh;rw[bl z]
        rw[e] at hm ⊢;have hm:m<2:=hm;rcases(show m=0∨m=1 by omega) with rfl | rfl
        · exact RH.one.2
        · exact(RH.two z).2
     have WY:∀m,m<(bh k j ad (d.size:Int) 1).1.length->(au (bh k j ad (d.size:Int) 1).2.frames ((bh k j ad (d.size:Int) 1).1.getD m 0)).data.size<=1000:=fun m hm=>by
      have hi:=MV m hm;by_cases z:(au (bh k j ad (d.size:Int) 1).2.frames ((bh k j ad (d.size:Int) 1).1.getD m 0)).refs=0
      · have:=(RH.right.zS _ hi).zero ((RH.right.zS _ hi).nil z);rw[this];show(0:Nat)<=1000;omega
      · have:=(RH.right.zS _ hi).size ((RH.right.zS _ hi).ne z);omega
     have hPg:pX (cQ k j) ad (d.size:Int):=⟨kX hR hj qP,kX hR hj hm2⟩;have hfit:=xj hPg hn.1 hn.2;have hjs:=yc hPg hn.1 hn.2;have L1:=s9 hR hj ad (d.size:Int) 1 qP hm2;have apz:=hjs;have hlL:(fU (iT (bh k j ad (d.size:Int) 1).2.frames (bh k j ad (d.size:Int) 1).1 (bh k j ad (d.size:Int) 1).1.length) (ad%16).toNat d).size=(oI (cQ k j) ad (d.size:Int)).size:=by
      rw[L1];exact CY _ _ _ (by omega)
     have hpl:(bh k j ad (d.size:Int) 1).1.length*16=(oI (cQ k j) ad (d.size:Int)).size:=by
      rw[(Aa k j ad (d.size:Int) 1).2.2];unfold nR;split at hjs <;> rename_i z
      · rw[bf z];omega
      · rw[bl z];omega
     have apR:(oI (cQ k j) ad (d.size:Int)).size<=32:=by omega
     have HLY:Hid (∀V,Calls Tryz.prog 65 #[.string (iT (bh k j ad (d.size:Int) 1).2.frames (bh k j ad (d.size:Int) 1).1 (bh k j ad (d.size:Int) 1).1.length),I (((ad%16).toNat:Nat):Int),.string d] V fun e w'=>e=.returned (.tuple #[.string (fU (iT (bh k j ad (d.size:Int) 1).2.frames (bh k j ad (d.size:Int) 1).1 (bh k j ad (d.size:Int) 1).1.length) (ad%16).toNat d),I 0])/\Below V.heap.size V w'):=fun V=>Hv _ d (ad%16).toNat V (by rw[L1];omega) (by rw[L1];omega)
     have aiQ:ad.tmod 16=(((ad%16).toNat:Nat):Int):=by
      rw[N8 (by omega)];omega
     have hST:=JI hR hj ad d hn.1 hn.2 qP hm2;have hsk:=hST.aA;have hA:fE k (j:Int) ad d=(kR k j ad d,(0,0),0):=by
      unfold fE;rw[bl (fun x=>x c),iu,bl (fun x=>x hf)]
     rw[hA];have sS:Hid (∀V S mb hs,dw k.aA hs->bQ WB.heap.size mb 104 (ik k) V S (bu k hs)->Below w.heap.size w V->V.heap[w.heap.size+1]?=some (.cells #[Nl,Nl,Nl,Nl,I 0] 27 (0,0))->V.heap[w.heap.size+1+1]?=some (.cells #[I 0,I 0] 36 (0,0))->Calls Tryz.prog 52 #[.pointer (some (Ad mb 0)),I (j:Int),I ad,I (d.size:Int),I 1] V fun e w'=>∃av nv cv,e=.returned (.tuple #[.slice av nv cv,.agg #[I 0,I 0]])/\(∀V',Below w'.heap.size w' V'->Calls Tryz.prog 64 #[.pointer (some (Ad mb 0)),.slice av nv cv] V' fun e w''=>e=.returned (.string (iT (bh k j ad (d.size:Int) 1).2.frames (bh k j ad (d.size:Int) 1).1 (bh k j ad (d.size:Int) 1).1.length))/\w''=V')/\(∀V',Below w'.heap.size w' V'->Calls Tryz.prog 66 #[.pointer (some (Ad mb 0)),.slice av nv cv,.string (fU (iT (bh k j ad (d.size:Int) 1).2.frames (bh k j ad (d.size:Int) 1).1 (bh k j ad (d.size:Int) 1).1.length) (ad%16).toNat d)] V' fun e w''=>∃aS nS cS aF nF cF aL nL cL aP nP cP hd,e=.returned (.tuple #[])/\w''.cell? (Ad mb 0)=some (.slice aS nS cS)/\w''.cell? (Ad mb 1)=some (.slice aF nF cF)/\w''.cell? (Ad mb 2)=some (.slice aL nL cL)/\w''.cell? (Ad mb 3)=some (.slice aP nP cP)/\w''.cell? (Ad mb 4)=some (I hd)/\w''.heap[w.heap.size+1]?=some (.cells #[Nl,Nl,Nl,Nl,I 0] 27 (0,0))/\w''.heap[w.heap.size+1+1]?=some (.cells #[I 0,I 0] 36 (0,0))/\(∀U,aH (fun b=>b=w.heap.size+1∨b=w.heap.size+1+1) w'' U->bN w (kR k j ad d) [.agg #[I 0,I 0],I 0] (.returned (.tuple #[.agg #[.slice aS nS cS,.slice aF nF cF,.slice aL nL cL,.slice aP nP cP,I hd],.agg #[I 0,I 0],I 0])) U))):=fun V S mb hs hsame hV QJ hrV hfV=>by
      have hR':=hR.Dn hsame;refine(AH (bu k hs) S V j ad (d.size:Int) 1 hV hR' hj had hn hf (Ei hR.lQ hsame)).mono fun e w' ⟨av,cv,S',e1,yA,hk',hc'⟩=>?_
      rw[yR hR hj qP hsame] at hk' e1 yA;have Gc:∀b,b<WB.heap.size->S.lab b=.no:=fun b hb=>pK.1 fun x=>by have:=(hV.qF b x).1;omega
      have Ox:=HLB.o;have hbl:Below w.heap.size w w':=aH.below QJ hc'.kp QJ.size (fun b hb=>by have:=(hV.qF b hb).1;omega);have G1:w.heap.size+1<w'.heap.size:=jt (aO hrV) hc'.kp.size;have hl2:w.heap.size+1+1<w'.heap.size:=jt (aO hfV) hc'.kp.size;have nN:S'.lab (w.heap.size+1)=.no:=hc'.no _ (aO hrV) (Gc _ (by omega));have qg:S'.lab (w.heap.size+1+1)=.no:=hc'.no _ (aO hfV) (Gc _ Ox);have hr':=hc'.keep hrV (Gc _ (by omega));have hf':=hc'.keep hfV (Gc _ Ox);refine⟨av,_,cv,e1,fun V' hb'=>?_,fun V' hb'=>?_⟩
      · exact Mf (bu (bh k j ad (d.size:Int) 1).2 hs) S' V' (bh k j ad (d.size:Int) 1).1 av cv (hk'.below hb') (yA.ch (dI.below hb')) (fun m hm=>MV m hm) Ot (fun m hm=>WY m hm) acK
      · refine(XT (bu (bh k j ad (d.size:Int) 1).2 hs) S' V' (bh k j ad (d.size:Int) 1).1 (fU (iT (bh k j ad (d.size:Int) 1).2.frames (bh k j ad (d.size:Int) 1).1 (bh k j ad (d.size:Int) 1).1.length) (ad%16).toNat d) av cv (hk'.below hb') (yA.ch (dI.below hb')) (fun m hm=>MV m hm) Ot (by omega) (by omega) acK).mono fun e w'' ⟨e2,hk2,hc2⟩=>?_
        rw[GF] at hk2;have hk3:bQ WB.heap.size mb 104 (ik k) w'' S' (bu (kR k j ad d) hs):=hk2;clear hk2;obtain⟨aS,cS,eS,_⟩:=aY hk3.aA;obtain⟨aF,cF,eF,_⟩:=aY hk3.frames;obtain⟨aL,cL,eL,_⟩:=aY hk3.slots;obtain⟨aP,cP,eP,_⟩:=aY hk3.aj;have c0:=hk3.c0;have c1:=hk3.c1;have c2:=hk3.c2;have c3:=hk3.c3;rw[eS] at c0;rw[eF] at c1;rw[eL] at c2;rw[eP] at c3;have acQ:Below w.heap.size w w'':=aH.below (hbl.trans (hb'.mono hbl.size)) hc2.kp (gJ hbl.size hb'.size) (fun b hb=>by have:=(hk'.qF b hb).1;omega);refine⟨aS,_,cS,aF,_,cF,aL,_,cL,aP,_,cP,_,e2,c0,c1,c2,c3,hk3.c4,hc2.keep (aQ hr' hb' G1) nN,hc2.keep (aQ hf' hb' hl2) qg,fun U hU=>⟨S',hs,by rw[hsk];omega,by rw[eS,eF,eL,eP];rfl,?_,?_⟩⟩
        · exact(hk3.toiZ.kp hU (fun b hb e=>hb (by rcases e with e | e <;> rw[e] <;> first | exact nN | exact qg))).mono (by omega)
        · exact aH.below acQ hU acQ.size (fun b e=>by omega)
     obtain⟨P,hP⟩:=ex (bN w (kR k j ad d) [.agg #[I 0,I 0],I 0]);rw[<- hP] at sS;obtain⟨LD,hLD⟩:=ex ((fU (iT (bh k j ad (d.size:Int) 1).2.frames (bh k j ad (d.size:Int) 1).1 (bh k j ad (d.size:Int) 1).1.length) (ad%16).toNat d));rw[<- hLD] at sS HLY;obtain⟨JD,hJD⟩:=ex ((iT (bh k j ad (d.size:Int) 1).2.frames (bh k j ad (d.size:Int) 1).1 (bh k j ad (d.size:Int) 1).1.length));rw[<- hJD] at sS HLY;obtain⟨md,hmd⟩:=ex ((ad%16).toNat);rw[<- hmd] at HLY aiQ;show Calls _ _ _ _ (bN w (kR k j ad d) [.agg #[I 0,I 0],I 0]);rw[<- hP];have uq:Hid (Calls Tryz.prog 51 #[.agg (aT a k),I (j:Int),I (d.size:Int),I 1,.slice (some (Ad WA.heap.size 0)) 1 1] WB fun e w'=>∃mb S hs,e=.returned (.tuple #[.pointer (some (Ad mb 0)),I 0])/\dw k.aA hs/\bQ WB.heap.size mb 104 (ik k) w' S (bu k hs)/\Below WB.heap.size WB w'):=vt.o;unfold aT at uq iG ⊢;clear hK hF hsp had hA c hP iK Xm hb0 hb1 kb rb fb hrow hsz Oo vt hf Ov hal hau hmap qP hm2 hR hlv hn hwy hj mN wR RH hcc acK Ot MV WY hPg hfit hjs apz L1 hlL hpl apR hST hsk hLD hJD hmd;go_enter Tryz.func28,Tryz.ntmps28;go_upto_region 1 with fail;rw[<- iG.o];go_upto_region 7 with(first
      | (go_at_call 51;rw[<- HWB.o];refine uq.o.mono ?_;rintro e w1 ⟨mb,S1,hs1,rfl,hs2,hk1,hb1⟩;have fq:=ai (cT.o.trans (hb1.mono cT.o.size));have R1:=ai (RB.o _ hb1);have F1:=ai (FB.o _ hb1);have yj:=ai hk1;have mg:=ai hs2;clear hb1 hk1 hs2)
      | (go_at_call 52;refine(sS.o _ _ _ _ mg.o yj.o fq.o R1.o F1.o).mono ?_;rintro e w2 ⟨av,nv,cv,rfl,hjo,hpa⟩;have HJO:=ai hjo;have HPA:=ai hpa;clear hjo hpa;have X2:=ai (bG w2 #[I 0,I 0] 36);obtain⟨x0,x1⟩:=kI X2.o))
     have HA:=ai ((aK w2.heap.size w2).alloc (aM _) (.cells #[I 0,I 0] 36));obtain⟨W3,hW3⟩:=ex (w2.alloc (.cells #[I 0,I 0] 36));rw[<- hW3] at HA ⊢;clear hW3 x0 x1 X2;go_wp2_with (first
      | (go_at_call 64;refine(HJO.o _ HA.o).mono ?_;rintro e w4 ⟨rfl,rfl⟩)
      | (go_at_call 65;refine(HLY.o _).mono ?_;rintro e w5 ⟨rfl,Cf⟩;have ym:=ai (HA.o.trans (Cf.mono HA.o.size));clear Cf)
      | (go_at_call 66;refine(HPA.o _ ym.o).mono ?_;rintro e w6 ⟨aS,nS,cS,aF,nF,cF,aL,nL,cL,aP,nP,cP,hd,rfl,p0,p1,p2,p3,p4,r6,f6,hfin⟩;have R6:=ai r6;have F6:=ai f6;have qN:=ai hfin;clear r6 f6 hfin;obtain⟨y0,y1,y2,y3,y4⟩:=dx R6.o;obtain⟨z0,z1⟩:=kI F6.o;have f0:=aJ R6.o 0;have f1:=aJ R6.o 1;have f2:=aJ R6.o 2;have f3:=aJ R6.o 3;have f4:=aJ R6.o 4;have g0:=aJ F6.o 0;have g1:=aJ F6.o 1))
     have h7:=ai (fun V=>wB R6.o F6.o IJ (.slice aS nS cS) (.slice aF nF cF) (.slice aL nL cL) (.slice aP nP cP) (I hd) (I 0) (I 0) (V:=V));obtain⟨q1,q2,q3⟩:=h7.out _ rfl;obtain⟨y0,y1,y2,y3,y4⟩:=dx q1;obtain⟨z0,z1⟩:=kI q2;refine bR (v:=.tuple #[.agg #[.slice aS nS cS,.slice aF nF cF,.slice aL nL cL,.slice aP nP cP,I hd],.agg #[I 0,I 0],I 0]) (by simp[results,Tryz.results28,go_sem,y0,y1,y2,y3,y4,z0,z1]) rfl ?_;exact qN.o _ q3
   · have hA:fE k (j:Int) ad d=(cJ,dQ (ak k.aj j).aZ ad (d.size:Int) 1,0):=by
      unfold fE
      grind
     rw[hA];obtain⟨FA,hFA⟩:=ex (dQ (ak k.aj j).aZ ad (d.size:Int) 1);have sS:Hid (∀V S mb hs,dw k.aA hs->bQ WB.heap.size mb 104 (ik k) V S (bu k hs)->Calls Tryz.prog 52 #[.pointer (some (Ad mb 0)),I (j:Int),I ad,I (d.size:Int),I 1] V fun e w'=>e=.returned (.tuple #[Nl,.agg #[I FA.1,I FA.2]])/\Below V.heap.size V w'):=fun V S mb hs hsame hV=>by
      rw[hFA];exact yI (bu k hs) S V j ad (d.size:Int) 1 hV (hR.Dn hsame) hj had hn hf
     rw[<- hFA] at hf ⊢;have G3:(FA.1 != 0)=true:=by grind
     have uq:Hid (Calls Tryz.prog 51 #[.agg (aT a k),I (j:Int),I (d.size:Int),I 1,.slice (some (Ad WA.heap.size 0)) 1 1] WB fun e w'=>∃mb S hs,e=.returned (.tuple #[.pointer (some (Ad mb 0)),I 0])/\dw k.aA hs/\bQ WB.heap.size mb 104 (ik k) w' S (bu k hs)/\Below WB.heap.size WB w'):=vt.o;obtain⟨f0,f1⟩:=FA;simp only at sS G3 ⊢;have cZ:Hid (∀V,Below w.heap.size w V->bN w cJ [.agg #[I f0,I f1],I 0] (.returned (.tuple #[.agg #[Nl,Nl,Nl,Nl,I 0],.agg #[I f0,I f1],I 0])) V):=fun V hV=>mo _ hV
     obtain⟨P,hP⟩:=ex (bN w cJ [.agg #[I f0,I f1],I 0]);rw[<- hP] at cZ ⊢;unfold aT at uq iG ⊢;clear hK hF hsp had hA c hP iK Xm hb0 hb1 kb rb fb hrow hsz Oo vt hf hR hlv hn hwy hj mN wR hFA;go_enter Tryz.func28,Tryz.ntmps28;go_upto_region 1 with fail;rw[<- iG.o];go_upto_region 6 with(first
      | (go_at_call 51;rw[<- HWB.o];refine uq.o.mono ?_;rintro e w1 ⟨mb,S1,hs1,rfl,hs2,hk1,hb1⟩;have fq:=ai (cT.o.trans (hb1.mono cT.o.size));have R1:=ai (RB.o _ hb1);have F1:=ai (FB.o _ hb1);have yj:=ai hk1;have mg:=ai hs2;clear hb1 hk1 hs2)
      | (go_at_call 52;refine(sS.o _ _ _ _ mg.o yj.o).mono ?_;rintro e w2 ⟨rfl,hb2⟩;have R2:=ai (aQ R1.o hb2 (aO R1.o));have F2:=ai (aQ F1.o hb2 (aO F1.o));have jo:=ai (fq.o.trans (hb2.mono fq.o.size));have X2:=ai (bG w2 #[I f0,I f1] 36);obtain⟨x0,x1⟩:=kI X2.o;clear hb2))
     have R3:=ai (bE R2.o (.cells #[I f0,I f1] 36));have F3:=ai (bE F2.o (.cells #[I f0,I f1] 36));have kO:=ai (jo.o.alloc jo.o.size (.cells #[I f0,I f1] 36));have hl3:=aO F2.o;obtain⟨W3,hW3⟩:=ex (w2.alloc (.cells #[I f0,I f1] 36));rw[<- hW3] at R3 F3 kO x0 x1 ⊢;clear hW3;obtain⟨y0,y1,y2,y3,y4⟩:=dx R3.o;obtain⟨z0,z1⟩:=kI F3.o;have e0:=aJ R3.o 0;have e1:=aJ R3.o 1;have e2:=aJ R3.o 2;have e3:=aJ R3.o 3;have e4:=aJ R3.o 4;have g0:=aJ F3.o 0;have g1:=aJ F3.o 1;have h7:=ai (fun V=>wB R3.o F3.o IJ Nl Nl Nl Nl (I 0) (I f0) (I f1) (V:=V));go_region;go_wp2;obtain⟨q1,q2,q3⟩:=h7.out _ rfl;obtain⟨y0,y1,y2,y3,y4⟩:=dx q1;obtain⟨z0,z1⟩:=kI q2;refine bR (v:=.tuple #[.agg #[Nl,Nl,Nl,Nl,I 0],.agg #[I f0,I f1],I 0]) (by simp[results,Tryz.results28,go_sem,y0,y1,y2,y3,y4,z0,z1]) rfl ?_;exact cZ.o _ (aH.below kO.o (q3.trans (aH.drew _ _) (fun _ _ g=>g)) kO.o.size (fun b e=>by omega))
 · have hA:fE k sp ad d=(cJ,(0,0),eI k sp (d.size:Int) 1 [1]):=by unfold fE;grind
   rw[hA];have vt:=ai (yG k a sp (d.size:Int) 1 [1] (some (Ad WA.heap.size 0)) 1 WB (hK.below hb1) hF hsp hrow (by simp) c);rw[show([1]:List Int).length=1 from rfl] at vt;obtain⟨C,hC⟩:=ex (eI k sp (d.size:Int) 1 [1]);rw[<- hC] at vt c ⊢;have cb:(C != 0)=true:=by grind
   have cZ:Hid (∀V,Below w.heap.size w V->bN w cJ [.agg #[I 0,I 0],I C] (.returned (.tuple #[.agg #[Nl,Nl,Nl,Nl,I 0],.agg #[I 0,I 0],I C])) V):=fun V hV=>mo _ hV
   obtain⟨P,hP⟩:=ex (bN w cJ [.agg #[I 0,I 0],I C]);rw[<- hP] at cZ ⊢;unfold aT at vt iG ⊢;clear hK hF hsp had hA hC c hP iK Xm hb0 hb1 kb rb fb hrow hsz Oo;go_enter Tryz.func28,Tryz.ntmps28;go_upto_region 1 with fail;rw[<- iG.o];go_upto_region 3 with(go_at_call 51;rw[<- HWB.o];refine vt.o.mono ?_;rintro e w1 ⟨rfl,hb1⟩;have fq:=ai (cT.o.trans (hb1.mono cT.o.size));have R1:=ai (RB.o _ hb1);have F1:=ai (FB.o _ hb1);clear hb1)
   obtain⟨y0,y1,y2,y3,y4⟩:=dx R1.o;obtain⟨z0,z1⟩:=kI F1.o;have f0:=aJ R1.o 0;have f1:=aJ R1.o 1;have f2:=aJ R1.o 2;have f3:=aJ R1.o 3;have f4:=aJ R1.o 4;have g0:=aJ F1.o 0;have g1:=aJ F1.o 1;have h7:=ai (fun V=>wB R1.o F1.o (by omega) Nl Nl Nl Nl (I 0) (I 0) (I 0) (V:=V));go_wp2;obtain⟨q1,q2,q3⟩:=h7.out _ rfl;obtain⟨y0,y1,y2,y3,y4⟩:=dx q1;obtain⟨z0,z1⟩:=kI q2;refine bR (v:=.tuple #[.agg #[Nl,Nl,Nl,Nl,I 0],.agg #[I 0,I 0],I C]) (by simp[results,Tryz.results28,go_sem,y0,y1,y2,y3,y4,z0,z1]) rfl ?_;exact cZ.o _ (aH.below fq.o q3 fq.o.size (fun b e=>by omega))
structure Da (k:aN) (sp a n:Int) (j:Nat):Prop where
 sp:sp=(j:Int)
 lt:j<k.aj.length
 live:(ak k.aj j).live=true
 right:bg k
 size:1<=n/\n<=8
 one:cV k j (a/16)
 two:cV k j (bK a n)
 lo:16<=a
 hi:a+n<=4096
theorem aaZ {k:aN} {sp a n way:Int} {ways:List Int} (h:eI k sp n way ways=0) (hf:(dQ (ak k.aj sp.toNat).aZ a n way).1=0):Da k sp a n sp.toNat/\dQ (ak k.aj sp.toNat).aZ a n way=(0,0):=by
 obtain⟨h1,h2,h3⟩:=r9 h;obtain⟨hR,hs0,hj,hl⟩:=jy h1;obtain⟨e1,e2,e3,e4⟩:=kS h2.1 h2.2 hf;refine⟨⟨by omega,hj,hl,hR,h2,?_,?_,e2,e3⟩,e1⟩
 · have:=e4 0 (by omega) (by omega);rw[xM] at this;exact this
 · have:=e4 (n-1) (by omega) (by omega);rw[<- Int.add_sub_assoc] at this;exact this
theorem P9 (k:aN) (sp a:Int) (d:ByteArray):((fE k sp a d).2.2≠0)∨((fE k sp a d).2.2=0/\(fE k sp a d).2.1.1≠0)∨∃j,Da k sp a d.size j/\(dQ (ak k.aj j).aZ a d.size 1).1=0/\fE k sp a d=(kR k j a d,(0,0),0):=by
 grind [aaZ,fE]
theorem YM {hs1:List bM} (s:dw cJ.aA hs1):gW (bu cJ hs1):=by
 obtain rfl:hs1=[]:=by simp_all [dw,cJ]
 refine⟨⟨by show bY 0;grind [bY],fun k hk=>absurd hk (jQ _)⟩,by show bY 0;grind [bY],fun i hi=>absurd hi (jQ _),by show bY 0;grind [bY],fun i hi=>absurd hi (jQ _),by show bY 0;grind [bY],fun i hi=>absurd hi (jQ _),⟨by show -9223372036854775808<=(0:Int);omega,by show(0:Int)<=9223372036854775807;omega⟩⟩
def jm (N:Nat) (k:aN) (c:Array Value) (w:World):Prop:=∃hs a,dw k.aA hs/\c=aT a (bu k hs)/\∀U,aH (fun b=>b<N) w U->fT U a (bu k hs)
theorem jm.cells {N:Nat} {k:aN} {c:Array Value} {w:World} (h:jm N k c w):∃s1 nN q1 s2 n2 q2 s3 n3 q3 s4 n4 q4 hd,c=#[.slice s1 nN q1,.slice s2 n2 q2,.slice s3 n3 q3,.slice s4 n4 q4,I hd]:=by
 obtain⟨hs,a,_,h2,_⟩:=h;exact⟨_,_,_,_,_,_,_,_,_,_,_,_,_,h2⟩
theorem YL {w w':World} {k:aN} {e:Ending} (h:qu w k e w'):∃c,e=.returned (.agg c)/\jm w.heap.size k c w'/\Below w.heap.size w w':=by
 obtain⟨S,hs,h1,h2,h3,h4⟩:=h;obtain⟨a,e1,e2⟩:=E3 h3;exact⟨_,h2,⟨hs,a,h1,e1,e2⟩,h4⟩
theorem C8 (N:Nat) (w:World):jm N cJ #[Nl,Nl,Nl,Nl,I 0] w:=by
 obtain⟨a,e1,e2⟩:=E3 (Pf N w);exact⟨[],a,rfl,e1,e2⟩
theorem sG {N N':Nat} {k:aN} {c c':Array Value} {V V' U:World} (h:jm N k c V) (h':jm N' k c' V') (hf:∀hs1,dw k.aA hs1->gW (bu k hs1)) (g:aH (fun b=>b<N) V U) (g':aH (fun b=>b<N') V' U) :
  Calls Tryz.prog 20 #[.agg c,.agg c'] U fun e w'=>e=.returned (.bool true)/\Below U.heap.size U w':=by
 obtain⟨hs,a,h1,h2,h3⟩:=h;obtain⟨hs',a',h1',h2',h3'⟩:=h';subst h2 h2';have s:dw (bu k hs).aA hs':=by
  show hs'.map eQ=hs.map eQ;exact Eq.trans (show hs'.map eQ=k.aA.map eQ from h1') (Eq.symm (show hs.map eQ=k.aA.map eQ from h1))
 exact Hi (bu k hs) hs' a a' U (h3 U g) (h3' U g') s (hf hs h1)
theorem qV {K:aN} (h:K=cJ∨bg K):∀hs1,dw K.aA hs1->gW (bu K hs1):=fun hs1 s=>by
 grind [YM,qB,bg.Dn]
theorem qA {w w':World} {K:aN} {vs:List Value} {e:Ending} (h:bN w K vs e w'):∃s1 n1 q1 s2 n2 q2 s3 n3 q3 s4 n4 q4 hd,e=.returned (.tuple (Value.agg #[.slice s1 n1 q1,.slice s2 n2 q2,.slice s3 n3 q3,.slice s4 n4 q4,I hd]::vs).toArray)/\jm w.heap.size K #[.slice s1 n1 q1,.slice s2 n2 q2,.slice s3 n3 q3,.slice s4 n4 q4,I hd] w'/\Below w.heap.size w w':=by
 obtain⟨hs1,a1,h1,h2,h3,h4⟩:=Qd h;exact⟨_,_,_,_,_,_,_,_,_,_,_,_,_,h2,⟨hs1,a1,h1,rfl,h3⟩,h4⟩
end Go.Proofs.YtpgifpeohlllfaaGreat
end Go.Proofs.YtpgifpeohlllfaaGreat
