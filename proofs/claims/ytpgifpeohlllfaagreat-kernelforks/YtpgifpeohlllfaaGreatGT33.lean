import Derived.Test.YtpgifpeohlllfaaGreatGT32
set_option maxHeartbeats 20000000
set_option linter.unusedVariables false
set_option maxRecDepth 100000
set_option linter.unusedSimpArgs false
namespace Go.Proofs.YtpgifpeohlllfaaGreat
namespace KZ
open Go.RowKit GK KO
open FW (ai aD)
open KW (bJ bI aK aZ fh cK aI dA bU kK eB cu iU)
open KS (Lc bw kM cD blk cJ)
open KX (vB Held ids)
open KY (km fB dQ pq)
def oH (k:KM.Kn) (sp a n way:Int):KM.Kn×ByteArray×(Int×Int)×Int:=if dQ k sp n way [0,2]≠0 then (gK,⟨#[]⟩,(0,0),dQ k sp n way [0,2]) else if (FM.fO (KM.au k.aj sp.toNat).aB a n way).1≠0 then (gK,⟨#[]⟩,FM.fO (KM.au k.aj sp.toNat).aB a n way,0) else ((KM.aO k sp.toNat a n way).2,KM.vU k sp.toNat a n way,(0,0),0)
theorem Ss (V:World):aZ bU 1 0 (V.alloc (.cells #[I 0,I 2] 3)) (some (Ad V.heap.size 0)) [0,2]:=fun _=>by
 have h:=B.new V #[I 0,I 2] 3;refine⟨V.heap.size,0,rfl,B.isLt h,fun i hi j hj=>?_⟩;obtain rfl:j=0:=by omega
 have hi:i<2:=hi;rcases(show i=0∨i=1 by omega) with rfl | rfl
 · exact B.cell h 0 rfl
 · exact B.cell h 1 rfl
theorem OC (uW:km) (k:KM.Kn) (a:fh) (sp ad n way:Int) (w:World) (hK:cK w a k) (hF:eB k) (hsp:M.gu sp) (had:M.gu ad) :
  Calls Tryz.prog 25 #[.agg (aI a k),I sp,I ad,I n,I way] w (b6 w (oH k sp ad n way).1 [.string (oH k sp ad n way).2.1,.agg #[I (oH k sp ad n way).2.2.1.1,I (oH k sp ad n way).2.2.1.2],I (oH k sp ad n way).2.2.2]):=by
 obtain⟨Z5,WV⟩:∃Z5:Array Value,Z5=#[Nl,Nl,Nl,Nl,I 0]:=⟨_,rfl⟩;obtain⟨WA,di⟩:=ex (((w.alloc (.cells (aI a k) 27)).alloc (.cells #[Nl,Nl,Nl,Nl,I 0] 27)).alloc (.cells #[I 0,I 0] 36));have hb0:Below w.heap.size w WA:=by rw[di];exact(((Below.refl _ _).alloc (Nat.le_refl _) _).alloc (by simp) _).alloc (by simp;omega) _
 have kb:WA.heap[w.heap.size]?=some (.cells (aI a k) 27 (0,0)):=by rw[di];exact B.alloc (B.alloc (B.new w _ _) _) _
 have rb:WA.heap[w.heap.size+1]?=some (.cells #[Nl,Nl,Nl,Nl,I 0] 27 (0,0)):=by
  have:=B.alloc (B.new (w.alloc (.cells (aI a k) 27)) #[Nl,Nl,Nl,Nl,I 0] 27) (.cells #[I 0,I 0] 36);rw[World.size_alloc] at this;rw[di];exact this
 have fb:WA.heap[w.heap.size+1+1]?=some (.cells #[I 0,I 0] 36 (0,0)):=by
  have:=B.new ((w.alloc (.cells (aI a k) 27)).alloc (.cells #[Nl,Nl,Nl,Nl,I 0] 27)) #[I 0,I 0] 36;rw[World.size_alloc,World.size_alloc] at this;rw[di];exact this
 have hsz:WA.heap.size=w.heap.size+3:=by rw[di,World.size_alloc,World.size_alloc,World.size_alloc]
 obtain⟨WB,xP⟩:=ex (WA.alloc (.cells #[I 0,I 2] 3));have hb1:Below w.heap.size w WB:=by rw[xP];exact hb0.alloc hb0.size _
 have hrow:aZ bU 1 0 WB (some (Ad WA.heap.size 0)) [0,2]:=by rw[xP];exact Ss WA
 have Hw:WB.heap.size=w.heap.size+4:=by rw[xP,World.size_alloc,hsz]
 have RB:Hid (∀V,Below WB.heap.size WB V->V.heap[w.heap.size+1]?=some (.cells #[Nl,Nl,Nl,Nl,I 0] 27 (0,0))):=fun V hb=>B.below (by rw[xP];exact B.alloc rb _) hb (by omega)
 have FB:Hid (∀V,Below WB.heap.size WB V->V.heap[w.heap.size+1+1]?=some (.cells #[I 0,I 0] 36 (0,0))):=fun V hb=>B.below (by rw[xP];exact B.alloc fb _) hb (by omega)
 have k0:WA.cell? (Ad w.heap.size 0)=some (.slice a.aS k.ak.length a.cS):=B.cell kb 0 rfl;have k1:WA.cell? (Ad w.heap.size 1)=some (.slice a.aF k.frames.length a.cF):=B.cell kb 1 rfl;have k2:WA.cell? (Ad w.heap.size 2)=some (.slice a.aL k.slots.length a.cL):=B.cell kb 2 rfl;have k3:WA.cell? (Ad w.heap.size 3)=some (.slice a.aP k.aj.length a.cP):=B.cell kb 3 rfl;have k4:WA.cell? (Ad w.heap.size 4)=some (I k.hand):=B.cell kb 4 rfl;have eZ:=ai di;have Uv:=ai xP;have bE:=ai hb1;by_cases c:dQ k sp n way [0,2]=0
 · obtain⟨hlv,hn,Zl⟩:=Cb c;obtain⟨hR,qi,hj,gN⟩:=KY.gJ hlv;obtain⟨j,L4⟩:∃j:Nat,sp=(j:Int):=⟨sp.toNat,by omega⟩;subst L4;rw[Int.toNat_natCast] at hj gN;have og:=ai (KY.yM uW k a (j:Int) n way [0,2] (some (Ad WA.heap.size 0)) 2 WB (hK.below hb1) hF hsp hrow (by simp) c);rw[show([0,2]:List Int).length=2 from rfl] at og;have BH:w.heap.size+1≠w.heap.size+1+1:=by omega
   have HLB:=ai (show w.heap.size+1+1<WB.heap.size by omega);by_cases hf:(FM.fO (KM.au k.aj j).aB ad n way).1=0
   · obtain⟨Vn,hal,hau,hmap⟩:=KX.sM hn.1 hn.2 hf;have jP:KM.mapped k j (ad/16):=by
      have:=hmap 0 (by omega) (by omega);rw[Int.add_zero] at this;exact this
     have hm2:KM.mapped k j (KM.cA ad n):=by
      have:=hmap (n-1) (by omega) (by omega);unfold KM.cA;rw[show ad+n-1=ad+(n-1) by omega];exact this
     have RH:=KM.ov hR hj ad n way jP hm2;have O8:=RH.kept.ak;have hcc:=hR.c;have LX:0<(KM.aO k j ad n way).2.frames.length:=by rw[RH.kept.nf];omega
     have zh:(KM.aO k j ad n way).1.length<=2:=by
      rw[(KX.tA k j ad n way).2.2];unfold KX.rp;split <;> omega
     have xx:∀m,m<(KM.aO k j ad n way).1.length->(KM.aO k j ad n way).1.getD m 0<(KM.aO k j ad n way).2.frames.length:=fun m hm=>by
      rw[RH.kept.nf];by_cases z:KM.cA ad n=ad/16
      · have e:(KM.aO k j ad n way).1=[(KM.dz k j ad way).1]:=by unfold KM.aO;rw[if_pos z]
        rw[e] at hm ⊢;have hm:m<1:=hm;obtain rfl:m=0:=by omega
        exact RH.one.2
      · have e:(KM.aO k j ad n way).1=[(KM.dz k j ad way).1,(KM.iO k j ad n way).1]:=by unfold KM.aO;rw[if_neg z]
        rw[e] at hm ⊢;have hm:m<2:=hm;rcases(show m=0∨m=1 by omega) with rfl | rfl
        · exact RH.one.2
        · exact(RH.two z).2
     have E3:∀m,m<(KM.aO k j ad n way).1.length->(KM.aH (KM.aO k j ad n way).2.frames ((KM.aO k j ad n way).1.getD m 0)).data.size<=1000:=fun m hm=>by
      have hi:=xx m hm;by_cases z:(KM.aH (KM.aO k j ad n way).2.frames ((KM.aO k j ad n way).1.getD m 0)).refs=0
      · have:=(RH.right.m7 _ hi).zero ((RH.right.m7 _ hi).nil z);rw[this];show(0:Nat)<=1000;omega
      · have:=(RH.right.m7 _ hi).size ((RH.right.m7 _ hi).ne z);omega
     have WY:KM.YF (KM.dD k j) ad n:=⟨KM.mo hR hj jP,KM.mo hR hj hm2⟩;have hfit:=KM.yZ WY hn.1 hn.2;have hjs:=KM.qP WY hn.1 hn.2;have wk:=KM.si hR hj ad n way jP hm2;have Xz:Hid (∀V,Calls Tryz.prog 63 #[.string (KM.fH (KM.aO k j ad n way).2.frames (KM.aO k j ad n way).1 (KM.aO k j ad n way).1.length),I (((ad%16).toNat:Nat):Int),I n] V fun e w'=>e=.returned (.tuple #[.string (KM.vU k j ad n way),I 0])/\Below V.heap.size V w'):=fun V=>by
      have:=CW.yI (KM.fH (KM.aO k j ad n way).2.frames (KM.aO k j ad n way).1 (KM.aO k j ad n way).1.length) (ad%16).toNat n.toNat V (by rw[wk];split at hjs <;> omega) (by rw[wk];omega);rw[show((n.toNat:Nat):Int)=n by omega] at this;exact this
     have Wt:ad.tmod 16=(((ad%16).toNat:Nat):Int):=by
      rw[Int.tmod_eq_emod_of_nonneg (by omega)];omega
     have hA:oH k (j:Int) ad n way=((KM.aO k j ad n way).2,KM.vU k j ad n way,(0,0),0):=by
      unfold oH;rw[if_neg (fun x=>x c),Int.toNat_natCast,if_neg (fun x=>x hf)]
     rw[hA];have m6:Hid (∀V S mb hs,KM.Same k.ak hs->Km WB.heap.size mb 104 (fB k) V S (KM.aT k hs)->Below w.heap.size w V->V.heap[w.heap.size+1]?=some (.cells #[Nl,Nl,Nl,Nl,I 0] 27 (0,0))->V.heap[w.heap.size+1+1]?=some (.cells #[I 0,I 0] 36 (0,0))->Calls Tryz.prog 52 #[.pointer (some (Ad mb 0)),I (j:Int),I ad,I n,I way] V fun e w'=>∃av nv cv aS nS cS aF nF cF aL nL cL aP nP cP hd,e=.returned (.tuple #[.slice av nv cv,.agg #[I 0,I 0]])/\w'.cell? (Ad mb 0)=some (.slice aS nS cS)/\w'.cell? (Ad mb 1)=some (.slice aF nF cF)/\w'.cell? (Ad mb 2)=some (.slice aL nL cL)/\w'.cell? (Ad mb 3)=some (.slice aP nP cP)/\w'.cell? (Ad mb 4)=some (I hd)/\mb<w'.heap.size/\(∀V',Below w'.heap.size w' V'->Calls Tryz.prog 64 #[.pointer (some (Ad mb 0)),.slice av nv cv] V' fun e w''=>e=.returned (.string (KM.fH (KM.aO k j ad n way).2.frames (KM.aO k j ad n way).1 (KM.aO k j ad n way).1.length))/\w''=V')/\w'.heap[w.heap.size+1]?=some (.cells #[Nl,Nl,Nl,Nl,I 0] 27 (0,0))/\w'.heap[w.heap.size+1+1]?=some (.cells #[I 0,I 0] 36 (0,0))/\Below w.heap.size w w'/\(∀U,Kp (fun b=>b=w.heap.size+1∨b=w.heap.size+1+1) w' U->b6 w (KM.aO k j ad n way).2 [.string (KM.vU k j ad n way),.agg #[I 0,I 0],I 0] (.returned (.tuple #[.agg #[.slice aS nS cS,.slice aF nF cF,.slice aL nL cL,.slice aP nP cP,I hd],.string (KM.vU k j ad n way),.agg #[I 0,I 0],I 0])) U)):=fun V S mb hs hsame hV Vp Tu Yz=>by
      have hR':=hR.aT hsame;refine(KX.yF (KM.aT k hs) S V j ad n way hV hR' hj had hn hf (KY.Fv hR.eJ hsame)).mono fun e w' ⟨av,cv,S',e1,mO,hk',hc'⟩=>?_
      rw[KM.vO hR hj jP hsame] at hk' e1 mO;have tV:∀b,b<WB.heap.size->S.lab b=.no:=fun b hb=>Classical.not_not.1 fun x=>by have:=(hV.iJ b x).1;omega
      have DK:=HLB.o;obtain⟨aS,cS,eS,_⟩:=aN hk'.ak;obtain⟨aF,cF,eF,_⟩:=aN hk'.frames;obtain⟨aL,cL,eL,_⟩:=aN hk'.slots;obtain⟨aP,cP,eP,_⟩:=aN hk'.aj;have c0:=hk'.c0;have c1:=hk'.c1;have c2:=hk'.c2;have c3:=hk'.c3;rw[eS] at c0;rw[eF] at c1;rw[eL] at c2;rw[eP] at c3;have hbl:Below w.heap.size w w':=Kp.below Vp hc'.kp Vp.size (fun b hb=>by have:=(hV.iJ b hb).1;omega);refine⟨av,_,cv,aS,_,cS,aF,_,cF,aL,_,cL,aP,_,cP,_,e1,c0,c1,c2,c3,hk'.c4,hk'.lt,fun V' hb'=>?_,hc'.keep Tu (tV _ (by omega)),hc'.keep Yz (tV _ DK),hbl,fun U hU=>⟨S',hs,by rw[O8];exact hsame,by rw[eS,eF,eL,eP];rfl,?_,?_⟩⟩
      · exact KX.EY (KM.aT (KM.aO k j ad n way).2 hs) S' V' (KM.aO k j ad n way).1 av cv (hk'.below hb') (mO.ch (Ch.below hb')) (fun m hm=>xx m hm) zh (fun m hm=>E3 m hm) LX
      · exact(hk'.toKr.kp hU (fun b hb e=>hb (hc'.no b (by have:=hc'.kp.size;have:=B.isLt Tu;have:=B.isLt Yz;rcases e with e | e <;> omega) (tV b (by rcases e with e | e <;> omega))))).mono (by have:=hb1.size;omega)
      · exact Kp.below hbl hU hbl.size (fun b e=>by rcases e with e | e <;> omega)
     obtain⟨P,hP⟩:=ex (b6 w (KM.aO k j ad n way).2 [.string (KM.vU k j ad n way),.agg #[I 0,I 0],I 0]);rw[<- hP] at m6;obtain⟨LD,hLD⟩:=ex (KM.vU k j ad n way);rw[<- hLD] at m6 Xz;obtain⟨JD,Vs⟩:=ex (KM.fH (KM.aO k j ad n way).2.frames (KM.aO k j ad n way).1 (KM.aO k j ad n way).1.length);rw[<- Vs] at m6 Xz;obtain⟨md,ZI⟩:=ex ((ad%16).toNat);rw[<- ZI] at Xz Wt;show Calls _ _ _ _ (b6 w (KM.aO k j ad n way).2 [.string (KM.vU k j ad n way),.agg #[I 0,I 0],I 0]);rw[<- hP];have od:Hid (Calls Tryz.prog 51 #[.agg (aI a k),I (j:Int),I n,I way,.slice (some (Ad WA.heap.size 0)) 2 2] WB fun e w'=>∃mb S hs,e=.returned (.tuple #[.pointer (some (Ad mb 0)),I 0])/\KM.Same k.ak hs/\Km WB.heap.size mb 104 (fB k) w' S (KM.aT k hs)/\Below WB.heap.size WB w'):=og.o;unfold aI at od eZ ⊢;clear hK hF hsp had hA c hP di xP hb0 hb1 kb rb fb hrow WV hsz Hw og hf Vn hal hau hmap jP hm2 O8 hR hlv hn Zl hj gN qi RH hcc LX zh xx E3 WY hfit hjs wk hLD Vs ZI;go_enter Tryz.func25,Tryz.ntmps25;go_upto_region 1 with fail;rw[<- eZ.o];go_upto_region 7 with(first
      | (go_at_call 51;rw[<- Uv.o];refine od.o.mono ?_;rintro e w1 ⟨mb,S1,hs1,rfl,hs2,hk1,hb1⟩;have cM:=ai (bE.o.trans (hb1.mono bE.o.size));have R1:=ai (RB.o _ hb1);have F1:=ai (FB.o _ hb1);have pL:=ai hk1;have kr:=ai hs2;clear hb1 hk1 hs2)
      | (go_at_call 52;refine(m6.o _ _ _ _ kr.o pL.o cM.o R1.o F1.o).mono ?_;rintro e w2 ⟨av,nv,cv,aS,nS,cS,aF,nF,cF,aL,nL,cL,aP,nP,cP,hd,rfl,m0,m1,m2,m3,m4,oJ,hjo,hr2,hf2,hb2,hfin⟩;have HJO:=ai hjo;clear hjo;have R2:=ai hr2;have F2:=ai hf2;have ed:=ai hb2;have kY:=ai hfin;have X2:=ai (B.new w2 #[I 0,I 0] 36);obtain⟨x0,x1⟩:=B.c2 X2.o;clear hr2 hf2 hb2 hfin))
     have R3:=ai (B.alloc R2.o (.cells #[I 0,I 0] 36));have F3:=ai (B.alloc F2.o (.cells #[I 0,I 0] 36));have HA:=ai ((Below.refl w2.heap.size w2).alloc (Nat.le_refl _) (.cells #[I 0,I 0] 36));have p0:=(HA.o.cell (p:=(Ad mb 0)) oJ).trans m0;have p1:=(HA.o.cell (p:=(Ad mb 1)) oJ).trans m1;have p2:=(HA.o.cell (p:=(Ad mb 2)) oJ).trans m2;have p3:=(HA.o.cell (p:=(Ad mb 3)) oJ).trans m3;have p4:=(HA.o.cell (p:=(Ad mb 4)) oJ).trans m4;obtain⟨W3,hW3⟩:=ex (w2.alloc (.cells #[I 0,I 0] 36));rw[<- hW3] at R3 F3 HA p0 p1 p2 p3 p4 ⊢;clear hW3 m0 m1 m2 m3 m4 x0 x1;obtain⟨y0,y1,y2,y3,y4⟩:=B.c5 R3.o;obtain⟨z0,z1⟩:=B.c2 F3.o;have f0:=B.free R3.o 0;have f1:=B.free R3.o 1;have f2:=B.free R3.o 2;have f3:=B.free R3.o 3;have f4:=B.free R3.o 4;have g0:=B.free F3.o 0;have g1:=B.free F3.o 1;have h7:=ai (fun V=>GV R3.o F3.o BH (.slice aS nS cS) (.slice aF nF cF) (.slice aL nL cL) (.slice aP nP cP) (I hd) (I 0) (I 0) (V:=V));go_wp2_with (first
      | (go_at_call 64;refine(HJO.o _ HA.o).mono ?_;rintro e w4 ⟨rfl,rfl⟩)
      | (go_at_call 63;refine(Xz.o _).mono ?_;rintro e w5 ⟨rfl,wy⟩;have pM:=ai wy;have R5:=ai (B.below R3.o wy (B.isLt R3.o));have F5:=ai (B.below F3.o wy (B.isLt F3.o));have HML:mb<w4.heap.size:=Nat.lt_of_lt_of_le oJ HA.o.size;have p0:=(wy.cell (p:=(Ad mb 0)) HML).trans p0;have p1:=(wy.cell (p:=(Ad mb 1)) HML).trans p1;have p2:=(wy.cell (p:=(Ad mb 2)) HML).trans p2;have p3:=(wy.cell (p:=(Ad mb 3)) HML).trans p3;have p4:=(wy.cell (p:=(Ad mb 4)) HML).trans p4;obtain⟨y0,y1,y2,y3,y4⟩:=B.c5 R5.o;obtain⟨z0,z1⟩:=B.c2 F5.o;have f0:=B.free R5.o 0;have f1:=B.free R5.o 1;have f2:=B.free R5.o 2;have f3:=B.free R5.o 3;have f4:=B.free R5.o 4;have g0:=B.free F5.o 0;have g1:=B.free F5.o 1;clear wy))
     have h7:=ai (fun V=>GV R5.o F5.o BH (.slice aS nS cS) (.slice aF nF cF) (.slice aL nL cL) (.slice aP nP cP) (I hd) (I 0) (I 0) (V:=V));obtain⟨q1,q2,q3⟩:=h7.out _ rfl;obtain⟨y0,y1,y2,y3,y4⟩:=B.c5 q1;obtain⟨z0,z1⟩:=B.c2 q2;refine bodyPost_ret (v:=.tuple #[.agg #[.slice aS nS cS,.slice aF nF cF,.slice aL nL cL,.slice aP nP cP,I hd],.string LD,.agg #[I 0,I 0],I 0]) (by simp[results,Tryz.results25,go_sem,y0,y1,y2,y3,y4,z0,z1]) rfl ?_;exact kY.o _ (((Kp.bc HA.o).trans (Kp.bc pM.o) (fun _ _ g=>g)).trans q3 (fun _ _ g=>g))
   · have hA:oH k (j:Int) ad n way=(gK,⟨#[]⟩,FM.fO (KM.au k.aj j).aB ad n way,0):=by
      unfold oH;rw[if_neg (fun x=>x c),Int.toNat_natCast,if_pos hf]
     rw[hA];obtain⟨FA,Xa⟩:=ex (FM.fO (KM.au k.aj j).aB ad n way);have m6:Hid (∀V S mb hs,KM.Same k.ak hs->Km WB.heap.size mb 104 (fB k) V S (KM.aT k hs)->Calls Tryz.prog 52 #[.pointer (some (Ad mb 0)),I (j:Int),I ad,I n,I way] V fun e w'=>e=.returned (.tuple #[Nl,.agg #[I FA.1,I FA.2]])/\Below V.heap.size V w'):=fun V S mb hs hsame hV=>by
      rw[Xa];exact KX.vQ (KM.aT k hs) S V j ad n way hV (hR.aT hsame) hj had hn hf
     rw[<- Xa] at hf ⊢;have sJ:(FA.1 != 0)=true:=by simpa using hf
     have od:Hid (Calls Tryz.prog 51 #[.agg (aI a k),I (j:Int),I n,I way,.slice (some (Ad WA.heap.size 0)) 2 2] WB fun e w'=>∃mb S hs,e=.returned (.tuple #[.pointer (some (Ad mb 0)),I 0])/\KM.Same k.ak hs/\Km WB.heap.size mb 104 (fB k) w' S (KM.aT k hs)/\Below WB.heap.size WB w'):=og.o;obtain⟨f0,f1⟩:=FA;simp only at m6 sJ ⊢;have bB:Hid (∀V,Below w.heap.size w V->b6 w gK [.string ⟨#[]⟩,.agg #[I f0,I f1],I 0] (.returned (.tuple #[.agg #[Nl,Nl,Nl,Nl,I 0],.string ⟨#[]⟩,.agg #[I f0,I f1],I 0])) V):=fun V hV=>iD _ hV
     obtain⟨P,hP⟩:=ex (b6 w gK [.string ⟨#[]⟩,.agg #[I f0,I f1],I 0]);rw[<- hP] at bB ⊢;unfold aI at od eZ ⊢;clear hK hF hsp had hA c hP di xP hb0 hb1 kb rb fb hrow WV hsz Hw og hf hR hlv hn Zl hj gN qi Xa;go_enter Tryz.func25,Tryz.ntmps25;go_upto_region 1 with fail;rw[<- eZ.o];go_upto_region 6 with(first
      | (go_at_call 51;rw[<- Uv.o];refine od.o.mono ?_;rintro e w1 ⟨mb,S1,hs1,rfl,hs2,hk1,hb1⟩;have cM:=ai (bE.o.trans (hb1.mono bE.o.size));have R1:=ai (RB.o _ hb1);have F1:=ai (FB.o _ hb1);have pL:=ai hk1;have kr:=ai hs2;clear hb1 hk1 hs2)
      | (go_at_call 52;refine(m6.o _ _ _ _ kr.o pL.o).mono ?_;rintro e w2 ⟨rfl,hb2⟩;have R2:=ai (B.below R1.o hb2 (B.isLt R1.o));have F2:=ai (B.below F1.o hb2 (B.isLt F1.o));have ed:=ai (cM.o.trans (hb2.mono cM.o.size));have X2:=ai (B.new w2 #[I f0,I f1] 36);obtain⟨x0,x1⟩:=B.c2 X2.o;clear hb2))
     have R3:=ai (B.alloc R2.o (.cells #[I f0,I f1] 36));have F3:=ai (B.alloc F2.o (.cells #[I f0,I f1] 36));have gw:=ai (ed.o.alloc ed.o.size (.cells #[I f0,I f1] 36));have hl2:=B.isLt R2.o;have hl3:=B.isLt F2.o;have zg:¬w2.heap.size=w.heap.size+1:=by omega
     have Pe:¬w2.heap.size=w.heap.size+1+1:=by omega
     obtain⟨W3,hW3⟩:=ex (w2.alloc (.cells #[I f0,I f1] 36));rw[<- hW3] at R3 F3 gw x0 x1 ⊢;clear hW3;obtain⟨y0,y1,y2,y3,y4⟩:=B.c5 R3.o;obtain⟨z0,z1⟩:=B.c2 F3.o;have e0:=B.free R3.o 0;have e1:=B.free R3.o 1;have e2:=B.free R3.o 2;have e3:=B.free R3.o 3;have e4:=B.free R3.o 4;have g0:=B.free F3.o 0;have g1:=B.free F3.o 1;have h7:=ai (fun V=>GV R3.o F3.o BH Nl Nl Nl Nl (I 0) (I f0) (I f1) (V:=V));go_region;go_wp2;obtain⟨q1,q2,q3⟩:=h7.out _ rfl;obtain⟨y0,y1,y2,y3,y4⟩:=B.c5 q1;obtain⟨z0,z1⟩:=B.c2 q2;refine bodyPost_ret (v:=.tuple #[.agg #[Nl,Nl,Nl,Nl,I 0],.string ⟨#[]⟩,.agg #[I f0,I f1],I 0]) (by simp[results,Tryz.results25,go_sem,y0,y1,y2,y3,y4,z0,z1]) rfl ?_;exact bB.o _ (Kp.below gw.o (q3.trans (Kp.drew _ _) (fun _ _ g=>g)) gw.o.size (fun b e=>by rcases e with e | e <;> omega))
 · have hA:oH k sp ad n way=(gK,⟨#[]⟩,(0,0),dQ k sp n way [0,2]):=by unfold oH;rw[if_pos c]
   rw[hA];have og:=ai (KY.vR k a sp n way [0,2] (some (Ad WA.heap.size 0)) 2 WB (hK.below hb1) hF hsp hrow (by simp) c);rw[show([0,2]:List Int).length=2 from rfl] at og;obtain⟨C,hC⟩:=ex (dQ k sp n way [0,2]);rw[<- hC] at og c ⊢;have cb:(C != 0)=true:=by simpa using c
   have bB:Hid (∀V,Below w.heap.size w V->b6 w gK [.string ⟨#[]⟩,.agg #[I 0,I 0],I C] (.returned (.tuple #[.agg #[Nl,Nl,Nl,Nl,I 0],.string ⟨#[]⟩,.agg #[I 0,I 0],I C])) V):=fun V hV=>iD _ hV
   obtain⟨P,hP⟩:=ex (b6 w gK [.string ⟨#[]⟩,.agg #[I 0,I 0],I C]);rw[<- hP] at bB ⊢;unfold aI at og eZ ⊢;clear hK hF hsp had hA hC c hP di xP hb0 hb1 kb rb fb hrow WV hsz Hw;go_enter Tryz.func25,Tryz.ntmps25;go_upto_region 1 with fail;rw[<- eZ.o];go_upto_region 3 with(go_at_call 51;rw[<- Uv.o];refine og.o.mono ?_;rintro e w1 ⟨rfl,hb1⟩;have cM:=ai (bE.o.trans (hb1.mono bE.o.size));have R1:=ai (RB.o _ hb1);have F1:=ai (FB.o _ hb1);clear hb1)
   obtain⟨y0,y1,y2,y3,y4⟩:=B.c5 R1.o;obtain⟨z0,z1⟩:=B.c2 F1.o;have f0:=B.free R1.o 0;have f1:=B.free R1.o 1;have f2:=B.free R1.o 2;have f3:=B.free R1.o 3;have f4:=B.free R1.o 4;have g0:=B.free F1.o 0;have g1:=B.free F1.o 1;have h7:=ai (fun V=>GV R1.o F1.o (by omega) Nl Nl Nl Nl (I 0) (I 0) (I 0) (V:=V));go_wp2;obtain⟨q1,q2,q3⟩:=h7.out _ rfl;obtain⟨y0,y1,y2,y3,y4⟩:=B.c5 q1;obtain⟨z0,z1⟩:=B.c2 q2;refine bodyPost_ret (v:=.tuple #[.agg #[Nl,Nl,Nl,Nl,I 0],.string ⟨#[]⟩,.agg #[I 0,I 0],I C]) (by simp[results,Tryz.results25,go_sem,y0,y1,y2,y3,y4,z0,z1]) rfl ?_;exact bB.o _ (Kp.below cM.o q3 cM.o.size (fun b e=>by rcases e with e | e <;> omega))
def kE (k:KM.Kn) (sp a:Int) (d:ByteArray):KM.Kn×(Int×Int)×Int:=if dQ k sp d.size 1 [1]≠0 then (gK,(0,0),dQ k sp d.size 1 [1]) else if (FM.fO (KM.au k.aj sp.toNat).aB a d.size 1).1≠0 then (gK,FM.fO (KM.au k.aj sp.toNat).aB a d.size 1,0) else (KM.pW k sp.toNat a d,(0,0),0)
theorem CV (V:World):aZ bU 1 0 (V.alloc (.cells #[I 1] 3)) (some (Ad V.heap.size 0)) [1]:=fun _=>by
 have h:=B.new V #[I 1] 3;refine⟨V.heap.size,0,rfl,B.isLt h,fun i hi j hj=>?_⟩;obtain rfl:j=0:=by omega
 have hi:i<1:=hi;obtain rfl:i=0:=by omega
 exact B.cell h 0 rfl
theorem Bb (uW:km) (k:KM.Kn) (a:fh) (sp ad:Int) (d:ByteArray) (w:World) (hK:cK w a k) (hF:eB k) (hsp:M.gu sp) (had:M.gu ad) :
  Calls Tryz.prog 28 #[.agg (aI a k),I sp,I ad,.string d] w (b6 w (kE k sp ad d).1 [.agg #[I (kE k sp ad d).2.1.1,I (kE k sp ad d).2.1.2],I (kE k sp ad d).2.2]):=by
 obtain⟨Z5,WV⟩:∃Z5:Array Value,Z5=#[Nl,Nl,Nl,Nl,I 0]:=⟨_,rfl⟩;obtain⟨WA,di⟩:=ex (((w.alloc (.cells (aI a k) 27)).alloc (.cells #[Nl,Nl,Nl,Nl,I 0] 27)).alloc (.cells #[I 0,I 0] 36));have hb0:Below w.heap.size w WA:=by rw[di];exact(((Below.refl _ _).alloc (Nat.le_refl _) _).alloc (by simp) _).alloc (by simp;omega) _
 have kb:WA.heap[w.heap.size]?=some (.cells (aI a k) 27 (0,0)):=by rw[di];exact B.alloc (B.alloc (B.new w _ _) _) _
 have rb:WA.heap[w.heap.size+1]?=some (.cells #[Nl,Nl,Nl,Nl,I 0] 27 (0,0)):=by
  have:=B.alloc (B.new (w.alloc (.cells (aI a k) 27)) #[Nl,Nl,Nl,Nl,I 0] 27) (.cells #[I 0,I 0] 36);rw[World.size_alloc] at this;rw[di];exact this
 have fb:WA.heap[w.heap.size+1+1]?=some (.cells #[I 0,I 0] 36 (0,0)):=by
  have:=B.new ((w.alloc (.cells (aI a k) 27)).alloc (.cells #[Nl,Nl,Nl,Nl,I 0] 27)) #[I 0,I 0] 36;rw[World.size_alloc,World.size_alloc] at this;rw[di];exact this
 have hsz:WA.heap.size=w.heap.size+3:=by rw[di,World.size_alloc,World.size_alloc,World.size_alloc]
 obtain⟨WB,xP⟩:=ex (WA.alloc (.cells #[I 1] 3));have hb1:Below w.heap.size w WB:=by rw[xP];exact hb0.alloc hb0.size _
 have hrow:aZ bU 1 0 WB (some (Ad WA.heap.size 0)) [1]:=by rw[xP];exact CV WA
 have Hw:WB.heap.size=w.heap.size+4:=by rw[xP,World.size_alloc,hsz]
 have RB:Hid (∀V,Below WB.heap.size WB V->V.heap[w.heap.size+1]?=some (.cells #[Nl,Nl,Nl,Nl,I 0] 27 (0,0))):=fun V hb=>B.below (by rw[xP];exact B.alloc rb _) hb (by omega)
 have FB:Hid (∀V,Below WB.heap.size WB V->V.heap[w.heap.size+1+1]?=some (.cells #[I 0,I 0] 36 (0,0))):=fun V hb=>B.below (by rw[xP];exact B.alloc fb _) hb (by omega)
 have k0:WA.cell? (Ad w.heap.size 0)=some (.slice a.aS k.ak.length a.cS):=B.cell kb 0 rfl;have k1:WA.cell? (Ad w.heap.size 1)=some (.slice a.aF k.frames.length a.cF):=B.cell kb 1 rfl;have k2:WA.cell? (Ad w.heap.size 2)=some (.slice a.aL k.slots.length a.cL):=B.cell kb 2 rfl;have k3:WA.cell? (Ad w.heap.size 3)=some (.slice a.aP k.aj.length a.cP):=B.cell kb 3 rfl;have k4:WA.cell? (Ad w.heap.size 4)=some (I k.hand):=B.cell kb 4 rfl;have eZ:=ai di;have Uv:=ai xP;have bE:=ai hb1;by_cases c:dQ k sp (d.size:Int) 1 [1]=0
 · obtain⟨hlv,hn,Zl⟩:=Cb c;obtain⟨hR,qi,hj,gN⟩:=KY.gJ hlv;obtain⟨j,L4⟩:∃j:Nat,sp=(j:Int):=⟨sp.toNat,by omega⟩;subst L4;rw[Int.toNat_natCast] at hj gN;have og:=ai (KY.yM uW k a (j:Int) (d.size:Int) 1 [1] (some (Ad WA.heap.size 0)) 1 WB (hK.below hb1) hF hsp hrow (by simp) c);rw[show([1]:List Int).length=1 from rfl] at og;have BH:w.heap.size+1≠w.heap.size+1+1:=by omega
   have HLB:=ai (show w.heap.size+1+1<WB.heap.size by omega);by_cases hf:(FM.fO (KM.au k.aj j).aB ad (d.size:Int) 1).1=0
   · obtain⟨Vn,hal,hau,hmap⟩:=KX.sM hn.1 hn.2 hf;have jP:KM.mapped k j (ad/16):=by
      have:=hmap 0 (by omega) (by omega);rw[Int.add_zero] at this;exact this
     have hm2:KM.mapped k j (KM.cA ad (d.size:Int)):=by
      have:=hmap ((d.size:Int)-1) (by omega) (by omega);unfold KM.cA;rw[show ad+(d.size:Int)-1=ad+((d.size:Int)-1) by omega];exact this
     have RH:=KM.ov hR hj ad (d.size:Int) 1 jP hm2;have O8:=RH.kept.ak;have hcc:=hR.c;have LX:0<(KM.aO k j ad (d.size:Int) 1).2.frames.length:=by rw[RH.kept.nf];omega
     have zh:(KM.aO k j ad (d.size:Int) 1).1.length<=2:=by
      rw[(KX.tA k j ad (d.size:Int) 1).2.2];unfold KX.rp;split <;> omega
     have xx:∀m,m<(KM.aO k j ad (d.size:Int) 1).1.length->(KM.aO k j ad (d.size:Int) 1).1.getD m 0<(KM.aO k j ad (d.size:Int) 1).2.frames.length:=fun m hm=>by
      rw[RH.kept.nf];by_cases z:KM.cA ad (d.size:Int)=ad/16
      · have e:(KM.aO k j ad (d.size:Int) 1).1=[(KM.dz k j ad 1).1]:=by unfold KM.aO;rw[if_pos z]
        rw[e] at hm ⊢;have hm:m<1:=hm;obtain rfl:m=0:=by omega
        exact RH.one.2
      · have e:(KM.aO k j ad (d.size:Int) 1).1=[(KM.dz k j ad 1).1,(KM.iO k j ad (d.size:Int) 1).1]:=by unfold KM.aO;rw[if_neg z]
        rw[e] at hm ⊢;have hm:m<2:=hm;rcases(show m=0∨m=1 by omega) with rfl | rfl
        · exact RH.one.2
        · exact(RH.two z).2
     have E3:∀m,m<(KM.aO k j ad (d.size:Int) 1).1.length->(KM.aH (KM.aO k j ad (d.size:Int) 1).2.frames ((KM.aO k j ad (d.size:Int) 1).1.getD m 0)).data.size<=1000:=fun m hm=>by
      have hi:=xx m hm;by_cases z:(KM.aH (KM.aO k j ad (d.size:Int) 1).2.frames ((KM.aO k j ad (d.size:Int) 1).1.getD m 0)).refs=0
      · have:=(RH.right.m7 _ hi).zero ((RH.right.m7 _ hi).nil z);rw[this];show(0:Nat)<=1000;omega
      · have:=(RH.right.m7 _ hi).size ((RH.right.m7 _ hi).ne z);omega
     have WY:KM.YF (KM.dD k j) ad (d.size:Int):=⟨KM.mo hR hj jP,KM.mo hR hj hm2⟩;have hfit:=KM.yZ WY hn.1 hn.2;have hjs:=KM.qP WY hn.1 hn.2;have wk:=KM.si hR hj ad (d.size:Int) 1 jP hm2;have adW:=hjs;have hlL:(CL.over (KM.fH (KM.aO k j ad (d.size:Int) 1).2.frames (KM.aO k j ad (d.size:Int) 1).1 (KM.aO k j ad (d.size:Int) 1).1.length) (ad%16).toNat d).size=(KM.rG (KM.dD k j) ad (d.size:Int)).size:=by
      rw[wk];exact KM.oD _ _ _ (by omega)
     have hpl:(KM.aO k j ad (d.size:Int) 1).1.length*16=(KM.rG (KM.dD k j) ad (d.size:Int)).size:=by
      rw[(KX.tA k j ad (d.size:Int) 1).2.2];unfold KX.rp;split at hjs <;> rename_i z
      · rw[if_pos z];omega
      · rw[if_neg z];omega
     have aef:(KM.rG (KM.dD k j) ad (d.size:Int)).size<=32:=by split at hjs <;> omega
     have Nc:Hid (∀V,Calls Tryz.prog 65 #[.string (KM.fH (KM.aO k j ad (d.size:Int) 1).2.frames (KM.aO k j ad (d.size:Int) 1).1 (KM.aO k j ad (d.size:Int) 1).1.length),I (((ad%16).toNat:Nat):Int),.string d] V fun e w'=>e=.returned (.tuple #[.string (CL.over (KM.fH (KM.aO k j ad (d.size:Int) 1).2.frames (KM.aO k j ad (d.size:Int) 1).1 (KM.aO k j ad (d.size:Int) 1).1.length) (ad%16).toNat d),I 0])/\Below V.heap.size V w'):=fun V=>CW.C4 _ d (ad%16).toNat V (by rw[wk];omega) (by rw[wk];omega)
     have Wt:ad.tmod 16=(((ad%16).toNat:Nat):Int):=by
      rw[Int.tmod_eq_emod_of_nonneg (by omega)];omega
     have hST:=KM.KH hR hj ad d hn.1 hn.2 jP hm2;have hsk:=hST.ak;have hA:kE k (j:Int) ad d=(KM.pW k j ad d,(0,0),0):=by
      unfold kE;rw[if_neg (fun x=>x c),Int.toNat_natCast,if_neg (fun x=>x hf)]
     rw[hA];have m6:Hid (∀V S mb hs,KM.Same k.ak hs->Km WB.heap.size mb 104 (fB k) V S (KM.aT k hs)->Below w.heap.size w V->V.heap[w.heap.size+1]?=some (.cells #[Nl,Nl,Nl,Nl,I 0] 27 (0,0))->V.heap[w.heap.size+1+1]?=some (.cells #[I 0,I 0] 36 (0,0))->Calls Tryz.prog 52 #[.pointer (some (Ad mb 0)),I (j:Int),I ad,I (d.size:Int),I 1] V fun e w'=>∃av nv cv,e=.returned (.tuple #[.slice av nv cv,.agg #[I 0,I 0]])/\(∀V',Below w'.heap.size w' V'->Calls Tryz.prog 64 #[.pointer (some (Ad mb 0)),.slice av nv cv] V' fun e w''=>e=.returned (.string (KM.fH (KM.aO k j ad (d.size:Int) 1).2.frames (KM.aO k j ad (d.size:Int) 1).1 (KM.aO k j ad (d.size:Int) 1).1.length))/\w''=V')/\(∀V',Below w'.heap.size w' V'->Calls Tryz.prog 66 #[.pointer (some (Ad mb 0)),.slice av nv cv,.string (CL.over (KM.fH (KM.aO k j ad (d.size:Int) 1).2.frames (KM.aO k j ad (d.size:Int) 1).1 (KM.aO k j ad (d.size:Int) 1).1.length) (ad%16).toNat d)] V' fun e w''=>∃aS nS cS aF nF cF aL nL cL aP nP cP hd,e=.returned (.tuple #[])/\w''.cell? (Ad mb 0)=some (.slice aS nS cS)/\w''.cell? (Ad mb 1)=some (.slice aF nF cF)/\w''.cell? (Ad mb 2)=some (.slice aL nL cL)/\w''.cell? (Ad mb 3)=some (.slice aP nP cP)/\w''.cell? (Ad mb 4)=some (I hd)/\w''.heap[w.heap.size+1]?=some (.cells #[Nl,Nl,Nl,Nl,I 0] 27 (0,0))/\w''.heap[w.heap.size+1+1]?=some (.cells #[I 0,I 0] 36 (0,0))/\(∀U,Kp (fun b=>b=w.heap.size+1∨b=w.heap.size+1+1) w'' U->b6 w (KM.pW k j ad d) [.agg #[I 0,I 0],I 0] (.returned (.tuple #[.agg #[.slice aS nS cS,.slice aF nF cF,.slice aL nL cL,.slice aP nP cP,I hd],.agg #[I 0,I 0],I 0])) U))):=fun V S mb hs hsame hV Vp Tu Yz=>by
      have hR':=hR.aT hsame;refine(KX.yF (KM.aT k hs) S V j ad (d.size:Int) 1 hV hR' hj had hn hf (KY.Fv hR.eJ hsame)).mono fun e w' ⟨av,cv,S',e1,mO,hk',hc'⟩=>?_
      rw[KM.vO hR hj jP hsame] at hk' e1 mO;have tV:∀b,b<WB.heap.size->S.lab b=.no:=fun b hb=>Classical.not_not.1 fun x=>by have:=(hV.iJ b x).1;omega
      have DK:=HLB.o;have hbl:Below w.heap.size w w':=Kp.below Vp hc'.kp Vp.size (fun b hb=>by have:=(hV.iJ b hb).1;omega);have DI:w.heap.size+1<w'.heap.size:=Nat.lt_of_lt_of_le (B.isLt Tu) hc'.kp.size;have hl2:w.heap.size+1+1<w'.heap.size:=Nat.lt_of_lt_of_le (B.isLt Yz) hc'.kp.size;have n1:S'.lab (w.heap.size+1)=.no:=hc'.no _ (B.isLt Tu) (tV _ (by omega));have n2:S'.lab (w.heap.size+1+1)=.no:=hc'.no _ (B.isLt Yz) (tV _ DK);have hr':=hc'.keep Tu (tV _ (by omega));have hf':=hc'.keep Yz (tV _ DK);refine⟨av,_,cv,e1,fun V' hb'=>?_,fun V' hb'=>?_⟩
      · exact KX.EY (KM.aT (KM.aO k j ad (d.size:Int) 1).2 hs) S' V' (KM.aO k j ad (d.size:Int) 1).1 av cv (hk'.below hb') (mO.ch (Ch.below hb')) (fun m hm=>xx m hm) zh (fun m hm=>E3 m hm) LX
      · refine(KX.N3 (KM.aT (KM.aO k j ad (d.size:Int) 1).2 hs) S' V' (KM.aO k j ad (d.size:Int) 1).1 (CL.over (KM.fH (KM.aO k j ad (d.size:Int) 1).2.frames (KM.aO k j ad (d.size:Int) 1).1 (KM.aO k j ad (d.size:Int) 1).1.length) (ad%16).toNat d) av cv (hk'.below hb') (mO.ch (Ch.below hb')) (fun m hm=>xx m hm) zh (by rw[hlL,hpl];exact Nat.le_refl _) (by rw[hlL];omega) LX).mono fun e w'' ⟨e2,hk2,hc2⟩=>?_
        rw[KM.yJ] at hk2;have hk3:Km WB.heap.size mb 104 (fB k) w'' S' (KM.aT (KM.pW k j ad d) hs):=hk2;clear hk2;obtain⟨aS,cS,eS,_⟩:=aN hk3.ak;obtain⟨aF,cF,eF,_⟩:=aN hk3.frames;obtain⟨aL,cL,eL,_⟩:=aN hk3.slots;obtain⟨aP,cP,eP,_⟩:=aN hk3.aj;have c0:=hk3.c0;have c1:=hk3.c1;have c2:=hk3.c2;have c3:=hk3.c3;rw[eS] at c0;rw[eF] at c1;rw[eL] at c2;rw[eP] at c3;have L6:Below w.heap.size w w'':=Kp.below (hbl.trans (hb'.mono hbl.size)) hc2.kp (Nat.le_trans hbl.size hb'.size) (fun b hb=>by have:=(hk'.iJ b hb).1;have:=hb1.size;omega);refine⟨aS,_,cS,aF,_,cF,aL,_,cL,aP,_,cP,_,e2,c0,c1,c2,c3,hk3.c4,hc2.keep (B.below hr' hb' DI) n1,hc2.keep (B.below hf' hb' hl2) n2,fun U hU=>⟨S',hs,by rw[hsk];exact hsame,by rw[eS,eF,eL,eP];rfl,?_,?_⟩⟩
        · exact(hk3.toKr.kp hU (fun b hb e => hb (by rcases e with e | e <;> rw[e] <;> first | exact n1 | exact n2))).mono (by have:=hb1.size;omega)
        · exact Kp.below L6 hU L6.size (fun b e=>by rcases e with e | e <;> omega)
     obtain⟨P,hP⟩:=ex (b6 w (KM.pW k j ad d) [.agg #[I 0,I 0],I 0]);rw[<- hP] at m6;obtain⟨LD,hLD⟩:=ex ((CL.over (KM.fH (KM.aO k j ad (d.size:Int) 1).2.frames (KM.aO k j ad (d.size:Int) 1).1 (KM.aO k j ad (d.size:Int) 1).1.length) (ad%16).toNat d));rw[<- hLD] at m6 Nc;obtain⟨JD,Vs⟩:=ex ((KM.fH (KM.aO k j ad (d.size:Int) 1).2.frames (KM.aO k j ad (d.size:Int) 1).1 (KM.aO k j ad (d.size:Int) 1).1.length));rw[<- Vs] at m6 Nc;obtain⟨md,ZI⟩:=ex ((ad%16).toNat);rw[<- ZI] at Nc Wt;show Calls _ _ _ _ (b6 w (KM.pW k j ad d) [.agg #[I 0,I 0],I 0]);rw[<- hP];have od:Hid (Calls Tryz.prog 51 #[.agg (aI a k),I (j:Int),I (d.size:Int),I 1,.slice (some (Ad WA.heap.size 0)) 1 1] WB fun e w'=>∃mb S hs,e=.returned (.tuple #[.pointer (some (Ad mb 0)),I 0])/\KM.Same k.ak hs/\Km WB.heap.size mb 104 (fB k) w' S (KM.aT k hs)/\Below WB.heap.size WB w'):=og.o;unfold aI at od eZ ⊢;clear hK hF hsp had hA c hP di xP hb0 hb1 kb rb fb hrow WV hsz Hw og hf Vn hal hau hmap jP hm2 O8 hR hlv hn Zl hj gN qi RH hcc LX zh xx E3 WY hfit hjs adW wk hlL hpl aef hST hsk hLD Vs ZI;go_enter Tryz.func28,Tryz.ntmps28;go_upto_region 1 with fail;rw[<- eZ.o];go_upto_region 7 with(first
      | (go_at_call 51;rw[<- Uv.o];refine od.o.mono ?_;rintro e w1 ⟨mb,S1,hs1,rfl,hs2,hk1,hb1⟩;have cM:=ai (bE.o.trans (hb1.mono bE.o.size));have R1:=ai (RB.o _ hb1);have F1:=ai (FB.o _ hb1);have pL:=ai hk1;have kr:=ai hs2;clear hb1 hk1 hs2)
      | (go_at_call 52;refine(m6.o _ _ _ _ kr.o pL.o cM.o R1.o F1.o).mono ?_;rintro e w2 ⟨av,nv,cv,rfl,hjo,ZA⟩;have HJO:=ai hjo;have Nb:=ai ZA;clear hjo ZA;have X2:=ai (B.new w2 #[I 0,I 0] 36);obtain⟨x0,x1⟩:=B.c2 X2.o))
     have HA:=ai ((Below.refl w2.heap.size w2).alloc (Nat.le_refl _) (.cells #[I 0,I 0] 36));obtain⟨W3,hW3⟩:=ex (w2.alloc (.cells #[I 0,I 0] 36));rw[<- hW3] at HA ⊢;clear hW3 x0 x1 X2;go_wp2_with (first
      | (go_at_call 64;refine(HJO.o _ HA.o).mono ?_;rintro e w4 ⟨rfl,rfl⟩)
      | (go_at_call 65;refine(Nc.o _).mono ?_;rintro e w5 ⟨rfl,wy⟩;have pM:=ai (HA.o.trans (wy.mono HA.o.size));clear wy)
      | (go_at_call 66;refine(Nb.o _ pM.o).mono ?_;rintro e w6 ⟨aS,nS,cS,aF,nF,cF,aL,nL,cL,aP,nP,cP,hd,rfl,p0,p1,p2,p3,p4,r6,f6,hfin⟩;have R6:=ai r6;have F6:=ai f6;have kY:=ai hfin;clear r6 f6 hfin;obtain⟨y0,y1,y2,y3,y4⟩:=B.c5 R6.o;obtain⟨z0,z1⟩:=B.c2 F6.o;have f0:=B.free R6.o 0;have f1:=B.free R6.o 1;have f2:=B.free R6.o 2;have f3:=B.free R6.o 3;have f4:=B.free R6.o 4;have g0:=B.free F6.o 0;have g1:=B.free F6.o 1))
     have h7:=ai (fun V=>GV R6.o F6.o BH (.slice aS nS cS) (.slice aF nF cF) (.slice aL nL cL) (.slice aP nP cP) (I hd) (I 0) (I 0) (V:=V));obtain⟨q1,q2,q3⟩:=h7.out _ rfl;obtain⟨y0,y1,y2,y3,y4⟩:=B.c5 q1;obtain⟨z0,z1⟩:=B.c2 q2;refine bodyPost_ret (v:=.tuple #[.agg #[.slice aS nS cS,.slice aF nF cF,.slice aL nL cL,.slice aP nP cP,I hd],.agg #[I 0,I 0],I 0]) (by simp[results,Tryz.results28,go_sem,y0,y1,y2,y3,y4,z0,z1]) rfl ?_;exact kY.o _ q3
   · have hA:kE k (j:Int) ad d=(gK,FM.fO (KM.au k.aj j).aB ad (d.size:Int) 1,0):=by
      unfold kE;rw[if_neg (fun x=>x c),Int.toNat_natCast,if_pos hf]
     rw[hA];obtain⟨FA,Xa⟩:=ex (FM.fO (KM.au k.aj j).aB ad (d.size:Int) 1);have m6:Hid (∀V S mb hs,KM.Same k.ak hs->Km WB.heap.size mb 104 (fB k) V S (KM.aT k hs)->Calls Tryz.prog 52 #[.pointer (some (Ad mb 0)),I (j:Int),I ad,I (d.size:Int),I 1] V fun e w'=>e=.returned (.tuple #[Nl,.agg #[I FA.1,I FA.2]])/\Below V.heap.size V w'):=fun V S mb hs hsame hV=>by
      rw[Xa];exact KX.vQ (KM.aT k hs) S V j ad (d.size:Int) 1 hV (hR.aT hsame) hj had hn hf
     rw[<- Xa] at hf ⊢;have sJ:(FA.1 != 0)=true:=by simpa using hf
     have od:Hid (Calls Tryz.prog 51 #[.agg (aI a k),I (j:Int),I (d.size:Int),I 1,.slice (some (Ad WA.heap.size 0)) 1 1] WB fun e w'=>∃mb S hs,e=.returned (.tuple #[.pointer (some (Ad mb 0)),I 0])/\KM.Same k.ak hs/\Km WB.heap.size mb 104 (fB k) w' S (KM.aT k hs)/\Below WB.heap.size WB w'):=og.o;obtain⟨f0,f1⟩:=FA;simp only at m6 sJ ⊢;have bB:Hid (∀V,Below w.heap.size w V->b6 w gK [.agg #[I f0,I f1],I 0] (.returned (.tuple #[.agg #[Nl,Nl,Nl,Nl,I 0],.agg #[I f0,I f1],I 0])) V):=fun V hV=>iD _ hV
     obtain⟨P,hP⟩:=ex (b6 w gK [.agg #[I f0,I f1],I 0]);rw[<- hP] at bB ⊢;unfold aI at od eZ ⊢;clear hK hF hsp had hA c hP di xP hb0 hb1 kb rb fb hrow WV hsz Hw og hf hR hlv hn Zl hj gN qi Xa;go_enter Tryz.func28,Tryz.ntmps28;go_upto_region 1 with fail;rw[<- eZ.o];go_upto_region 6 with(first
      | (go_at_call 51;rw[<- Uv.o];refine od.o.mono ?_;rintro e w1 ⟨mb,S1,hs1,rfl,hs2,hk1,hb1⟩;have cM:=ai (bE.o.trans (hb1.mono bE.o.size));have R1:=ai (RB.o _ hb1);have F1:=ai (FB.o _ hb1);have pL:=ai hk1;have kr:=ai hs2;clear hb1 hk1 hs2)
      | (go_at_call 52;refine(m6.o _ _ _ _ kr.o pL.o).mono ?_;rintro e w2 ⟨rfl,hb2⟩;have R2:=ai (B.below R1.o hb2 (B.isLt R1.o));have F2:=ai (B.below F1.o hb2 (B.isLt F1.o));have ed:=ai (cM.o.trans (hb2.mono cM.o.size));have X2:=ai (B.new w2 #[I f0,I f1] 36);obtain⟨x0,x1⟩:=B.c2 X2.o;clear hb2))
     have R3:=ai (B.alloc R2.o (.cells #[I f0,I f1] 36));have F3:=ai (B.alloc F2.o (.cells #[I f0,I f1] 36));have gw:=ai (ed.o.alloc ed.o.size (.cells #[I f0,I f1] 36));have hl2:=B.isLt R2.o;have hl3:=B.isLt F2.o;have zg:¬w2.heap.size=w.heap.size+1:=by omega
     have Pe:¬w2.heap.size=w.heap.size+1+1:=by omega
     obtain⟨W3,hW3⟩:=ex (w2.alloc (.cells #[I f0,I f1] 36));rw[<- hW3] at R3 F3 gw x0 x1 ⊢;clear hW3;obtain⟨y0,y1,y2,y3,y4⟩:=B.c5 R3.o;obtain⟨z0,z1⟩:=B.c2 F3.o;have e0:=B.free R3.o 0;have e1:=B.free R3.o 1;have e2:=B.free R3.o 2;have e3:=B.free R3.o 3;have e4:=B.free R3.o 4;have g0:=B.free F3.o 0;have g1:=B.free F3.o 1;have h7:=ai (fun V=>GV R3.o F3.o BH Nl Nl Nl Nl (I 0) (I f0) (I f1) (V:=V));go_region;go_wp2;obtain⟨q1,q2,q3⟩:=h7.out _ rfl;obtain⟨y0,y1,y2,y3,y4⟩:=B.c5 q1;obtain⟨z0,z1⟩:=B.c2 q2;refine bodyPost_ret (v:=.tuple #[.agg #[Nl,Nl,Nl,Nl,I 0],.agg #[I f0,I f1],I 0]) (by simp[results,Tryz.results28,go_sem,y0,y1,y2,y3,y4,z0,z1]) rfl ?_;exact bB.o _ (Kp.below gw.o (q3.trans (Kp.drew _ _) (fun _ _ g=>g)) gw.o.size (fun b e=>by rcases e with e | e <;> omega))
 · have hA:kE k sp ad d=(gK,(0,0),dQ k sp (d.size:Int) 1 [1]):=by unfold kE;rw[if_pos c]
   rw[hA];have og:=ai (KY.vR k a sp (d.size:Int) 1 [1] (some (Ad WA.heap.size 0)) 1 WB (hK.below hb1) hF hsp hrow (by simp) c);rw[show([1]:List Int).length=1 from rfl] at og;obtain⟨C,hC⟩:=ex (dQ k sp (d.size:Int) 1 [1]);rw[<- hC] at og c ⊢;have cb:(C != 0)=true:=by simpa using c
   have bB:Hid (∀V,Below w.heap.size w V->b6 w gK [.agg #[I 0,I 0],I C] (.returned (.tuple #[.agg #[Nl,Nl,Nl,Nl,I 0],.agg #[I 0,I 0],I C])) V):=fun V hV=>iD _ hV
   obtain⟨P,hP⟩:=ex (b6 w gK [.agg #[I 0,I 0],I C]);rw[<- hP] at bB ⊢;unfold aI at og eZ ⊢;clear hK hF hsp had hA hC c hP di xP hb0 hb1 kb rb fb hrow WV hsz Hw;go_enter Tryz.func28,Tryz.ntmps28;go_upto_region 1 with fail;rw[<- eZ.o];go_upto_region 3 with(go_at_call 51;rw[<- Uv.o];refine og.o.mono ?_;rintro e w1 ⟨rfl,hb1⟩;have cM:=ai (bE.o.trans (hb1.mono bE.o.size));have R1:=ai (RB.o _ hb1);have F1:=ai (FB.o _ hb1);clear hb1)
   obtain⟨y0,y1,y2,y3,y4⟩:=B.c5 R1.o;obtain⟨z0,z1⟩:=B.c2 F1.o;have f0:=B.free R1.o 0;have f1:=B.free R1.o 1;have f2:=B.free R1.o 2;have f3:=B.free R1.o 3;have f4:=B.free R1.o 4;have g0:=B.free F1.o 0;have g1:=B.free F1.o 1;have h7:=ai (fun V=>GV R1.o F1.o (by omega) Nl Nl Nl Nl (I 0) (I 0) (I 0) (V:=V));go_wp2;obtain⟨q1,q2,q3⟩:=h7.out _ rfl;obtain⟨y0,y1,y2,y3,y4⟩:=B.c5 q1;obtain⟨z0,z1⟩:=B.c2 q2;refine bodyPost_ret (v:=.tuple #[.agg #[Nl,Nl,Nl,Nl,I 0],.agg #[I 0,I 0],I C]) (by simp[results,Tryz.results28,go_sem,y0,y1,y2,y3,y4,z0,z1]) rfl ?_;exact bB.o _ (Kp.below cM.o q3 cM.o.size (fun b e=>by rcases e with e | e <;> omega))
end KZ
namespace KL
open Go.RowKit GK KO
open KW (fh cK aI eB cu qc)
open KZ (oH kE gK)
open KY (dQ)
structure uo (k:KM.Kn) (sp a n:Int) (j:Nat):Prop where
 sp:sp=(j:Int)
 lt:j<k.aj.length
 live:(KM.au k.aj j).live=true
 right:KM.aQ k
 size:1<=n/\n<=8
 one:KM.mapped k j (a/16)
 two:KM.mapped k j (KM.cA a n)
 lo:16<=a
 hi:a+n<=4096
end KL
namespace KL
open Go.RowKit GK KO
open FW (ai aD)
open KW (fh cK aI eB)
open KY (vh km)
open KZ (He Hd gK n1)
theorem P4 {hs1:List LM.Sh} (s:KM.Same gK.ak hs1):eB (KM.aT gK hs1):=by
 obtain rfl:hs1=[]:=by simpa [KM.Same,gK] using s
 refine⟨⟨by show M.bD 0;unfold M.bD;decide,fun k hk=>absurd hk (Nat.not_lt_zero _)⟩,by show M.bD 0;unfold M.bD;decide,fun i hi=>absurd hi (Nat.not_lt_zero _),by show M.bD 0;unfold M.bD;decide,fun i hi=>absurd hi (Nat.not_lt_zero _),by show M.bD 0;unfold M.bD;decide,fun i hi=>absurd hi (Nat.not_lt_zero _),⟨by show -9223372036854775808<=(0:Int);omega,by show(0:Int)<=9223372036854775807;omega⟩⟩
def Kept (N:Nat) (k:KM.Kn) (c:Array Value) (w:World):Prop:=∃hs a,KM.Same k.ak hs/\c=aI a (KM.aT k hs)/\∀U,Kp (fun b=>b<N) w U->cK U a (KM.aT k hs)
theorem BB {N N':Nat} {k:KM.Kn} {c c':Array Value} {V V' U:World} (h:Kept N k c V) (h':Kept N' k c' V') (hf:∀hs1,KM.Same k.ak hs1->eB (KM.aT k hs1)) (g:Kp (fun b=>b<N) V U) (g':Kp (fun b=>b<N') V' U) :
  Calls Tryz.prog 20 #[.agg c,.agg c'] U fun e w'=>e=.returned (.bool true)/\Below U.heap.size U w':=by
 obtain⟨hs,a,h1,h2,h3⟩:=h;obtain⟨hs',a',h1',h2',h3'⟩:=h';subst h2 h2';have s:KM.Same (KM.aT k hs).ak hs':=by
  show hs'.map LM.plain=hs.map LM.plain;exact Eq.trans (show hs'.map LM.plain=k.ak.map LM.plain from h1') (Eq.symm (show hs.map LM.plain=k.ak.map LM.plain from h1))
 exact KR.xg (KM.aT k hs) hs' a a' U (h3 U g) (h3' U g') s (hf hs h1)
end KL
namespace KZ
open Go.RowKit GK KO
open FW (ai aD)
open KS (blk)
end KZ
namespace KZ
open Go.RowKit GK KO
open FW (ai aD)
open KW (bJ bI aK aZ fh cK aI dA bU kK eB cu iU eY)
open KS (Lc bw kM cD blk cJ)
open KX (vB Held ids)
open KY (km fB dQ pq)
end KZ
end Go.Proofs.YtpgifpeohlllfaaGreat
