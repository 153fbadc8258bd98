import Derived.Test.YtpgifpeohlllfaaGreatGS00
import Derived.Test.YtpgifpeohlllfaaGreatGS27
import Derived.Test.YtpgifpeohlllfaaGreatGS33
import Derived.Test.YtpgifpeohlllfaaGreatGS15
set_option maxHeartbeats 20000000
set_option linter.unusedVariables false
set_option maxRecDepth 100000
set_option linter.unusedSimpArgs false
namespace Go.Proofs.YtpgifpeohlllfaaGreat
namespace KZ
open Go.RowKit GK KO
open FW (ai aB)
open KW (bE bD aK aZ fu cI aJ dN bT lh eW dw iN)
open KS (Lc bJ oY dC blk cU)
open KX (uS Held ids)
open KY (kX fL dR oP)
def nZ (k:KM.Kn) (sp a n way:Int):KM.Kn×ByteArray×(Int×Int)×Int:=if dR k sp n way [0,2]≠0 then (kN,⟨#[]⟩,(0,0),dR k sp n way [0,2]) else if (FM.fH (KM.au k.aj sp.toNat).aD a n way).1≠0 then (kN,⟨#[]⟩,FM.fH (KM.au k.aj sp.toNat).aD a n way,0) else ((KM.aO k sp.toNat a n way).2,KM.vh k sp.toNat a n way,(0,0),0)
theorem Qw (V:World):aZ bT 1 0 (V.alloc (.cells #[I 0,I 2] 3)) (some (Ad V.heap.size 0)) [0,2]:=fun _=>by
 have h:=B.new V #[I 0,I 2] 3
 refine⟨V.heap.size,0,rfl,B.isLt h,fun i hi j hj=>?_⟩
 obtain rfl:j=0:=by omega
 have hi:i<2:=hi
 rcases(show i=0∨i=1 by omega) with rfl | rfl
 · exact B.cell h 0 rfl
 · exact B.cell h 1 rfl
theorem NG (xk:kX) (k:KM.Kn) (a:fu) (sp ad n way:Int) (w:World) (hK:cI w a k) (hF:eW k) (hsp:M.gj sp) (had:M.gj ad) :
  Calls Tryz.prog 25 #[.agg (aJ a k),I sp,I ad,I n,I way] w (dJ w (nZ k sp ad n way).1 [.string (nZ k sp ad n way).2.1,.agg #[I (nZ k sp ad n way).2.2.1.1,I (nZ k sp ad n way).2.2.1.2],I (nZ k sp ad n way).2.2.2]):=by
 obtain⟨Z5,Vj⟩:∃Z5:Array Value,Z5=#[Nl,Nl,Nl,Nl,I 0]:=⟨_,rfl⟩
 obtain⟨WA,dK⟩:=ex (((w.alloc (.cells (aJ a k) 27)).alloc (.cells #[Nl,Nl,Nl,Nl,I 0] 27)).alloc (.cells #[I 0,I 0] 36))
 have hb0:Below w.heap.size w WA:=by rw[dK];exact(((Below.refl _ _).alloc (Nat.le_refl _) _).alloc (by simp) _).alloc (by simp;omega) _
 have kb:WA.heap[w.heap.size]?=some (.cells (aJ a k) 27 (0,0)):=by rw[dK];exact B.alloc (B.alloc (B.new w _ _) _) _
 have rb:WA.heap[w.heap.size+1]?=some (.cells #[Nl,Nl,Nl,Nl,I 0] 27 (0,0)):=by
  have:=B.alloc (B.new (w.alloc (.cells (aJ a k) 27)) #[Nl,Nl,Nl,Nl,I 0] 27) (.cells #[I 0,I 0] 36)
  rw[World.size_alloc] at this
  rw[dK];exact this
 have fb:WA.heap[w.heap.size+1+1]?=some (.cells #[I 0,I 0] 36 (0,0)):=by
  have:=B.new ((w.alloc (.cells (aJ a k) 27)).alloc (.cells #[Nl,Nl,Nl,Nl,I 0] 27)) #[I 0,I 0] 36
  rw[World.size_alloc,World.size_alloc] at this
  rw[dK];exact this
 have hsz:WA.heap.size=w.heap.size+3:=by rw[dK,World.size_alloc,World.size_alloc,World.size_alloc]
 obtain⟨WB,xo⟩:=ex (WA.alloc (.cells #[I 0,I 2] 3))
 have hb1:Below w.heap.size w WB:=by rw[xo];exact hb0.alloc hb0.size _
 have hrow:aZ bT 1 0 WB (some (Ad WA.heap.size 0)) [0,2]:=by rw[xo];exact Qw WA
 have G3:WB.heap.size=w.heap.size+4:=by rw[xo,World.size_alloc,hsz]
 have RB:Hid (∀V,Below WB.heap.size WB V->V.heap[w.heap.size+1]?=some (.cells #[Nl,Nl,Nl,Nl,I 0] 27 (0,0))):=fun V hb=>B.below (by rw[xo];exact B.alloc rb _) hb (by omega)
 have FB:Hid (∀V,Below WB.heap.size WB V->V.heap[w.heap.size+1+1]?=some (.cells #[I 0,I 0] 36 (0,0))):=fun V hb=>B.below (by rw[xo];exact B.alloc fb _) hb (by omega)
 have k0:WA.cell? (Ad w.heap.size 0)=some (.slice a.aS k.ak.length a.cS):=B.cell kb 0 rfl
 have k1:WA.cell? (Ad w.heap.size 1)=some (.slice a.aF k.frames.length a.cF):=B.cell kb 1 rfl
 have k2:WA.cell? (Ad w.heap.size 2)=some (.slice a.aL k.slots.length a.cL):=B.cell kb 2 rfl
 have k3:WA.cell? (Ad w.heap.size 3)=some (.slice a.aP k.aj.length a.cP):=B.cell kb 3 rfl
 have k4:WA.cell? (Ad w.heap.size 4)=some (I k.hand):=B.cell kb 4 rfl
 have gp:=ai dK
 have SJ:=ai xo
 have bI:=ai hb1
 by_cases c:dR k sp n way [0,2]=0
 · obtain⟨hlv,hn,XX⟩:=Bi c
   obtain⟨hR,CG,hj,mX⟩:=KY.oG hlv
   obtain⟨j,U7⟩:∃j:Nat,sp=(j:Int):=⟨sp.toNat,by omega⟩
   subst U7
   rw[Int.toNat_natCast] at hj mX
   have pd:=ai (KY.ym xk k a (j:Int) n way [0,2] (some (Ad WA.heap.size 0)) 2 WB (hK.below hb1) hF hsp hrow (by simp) c)
   rw[show([0,2]:List Int).length=2 from rfl] at pd
   have A8:w.heap.size+1≠w.heap.size+1+1:=by omega
   have HLB:=ai (show w.heap.size+1+1<WB.heap.size by omega)
   by_cases hf:(FM.fH (KM.au k.aj j).aD ad n way).1=0
   · obtain⟨WV,hal,YT,hmap⟩:=KX.r8 hn.1 hn.2 hf
     have kj:KM.mapped k j (ad/16):=by
      have:=hmap 0 (by omega) (by omega)
      rw[Int.add_zero] at this
      exact this
     have hm2:KM.mapped k j (KM.bZ ad n):=by
      have:=hmap (n-1) (by omega) (by omega)
      unfold KM.bZ
      rw[show ad+n-1=ad+(n-1) by omega]
      exact this
     have RH:=KM.nT hR hj ad n way kj hm2
     have N6:=RH.kept.ak
     have hcc:=hR.c
     have K5:0<(KM.aO k j ad n way).2.frames.length:=by rw[RH.kept.nf];omega
     have yJ:(KM.aO k j ad n way).1.length<=2:=by
      rw[(KX.sP k j ad n way).2.2]
      unfold KX.qN
      split <;> omega
     have wL:∀m,m<(KM.aO k j ad n way).1.length->(KM.aO k j ad n way).1.getD m 0<(KM.aO k j ad n way).2.frames.length:=fun m hm=>by
      rw[RH.kept.nf]
      by_cases z:KM.bZ ad n=ad/16
      · have e:(KM.aO k j ad n way).1=[(KM.dz k j ad way).1]:=by unfold KM.aO;rw[if_pos z]
        rw[e] at hm ⊢
        have hm:m<1:=hm
        obtain rfl:m=0:=by omega
        exact RH.one.2
      · have e:(KM.aO k j ad n way).1=[(KM.dz k j ad way).1,(KM.iI k j ad n way).1]:=by unfold KM.aO;rw[if_neg z]
        rw[e] at hm ⊢
        have hm:m<2:=hm
        rcases(show m=0∨m=1 by omega) with rfl | rfl
        · exact RH.one.2
        · exact(RH.two z).2
     have Et:∀m,m<(KM.aO k j ad n way).1.length->(KM.aI (KM.aO k j ad n way).2.frames ((KM.aO k j ad n way).1.getD m 0)).data.size<=1000:=fun m hm=>by
      have hi:=wL m hm
      by_cases z:(KM.aI (KM.aO k j ad n way).2.frames ((KM.aO k j ad n way).1.getD m 0)).refs=0
      · have:=(RH.right.nz _ hi).zero ((RH.right.nz _ hi).nil z)
        rw[this]
        show(0:Nat)<=1000
        omega
      · have:=(RH.right.nz _ hi).size ((RH.right.nz _ hi).ne z)
        omega
     have Vm:KM.Xc (KM.dB k j) ad n:=⟨KM.lU hR hj kj,KM.lU hR hj hm2⟩
     have hfit:=KM.yB Vm hn.1 hn.2
     have hjs:=KM.qw Vm hn.1 hn.2
     have vt:=KM.rP hR hj ad n way kj hm2
     have VS:Hid (∀V,Calls Tryz.prog 63 #[.string (KM.fB (KM.aO k j ad n way).2.frames (KM.aO k j ad n way).1 (KM.aO k j ad n way).1.length),I (((ad%16).toNat:Nat):Int),I n] V fun e w'=>e=.returned (.tuple #[.string (KM.vh k j ad n way),I 0])/\Below V.heap.size V w'):=fun V=>by
      have:=CW.yg (KM.fB (KM.aO k j ad n way).2.frames (KM.aO k j ad n way).1 (KM.aO k j ad n way).1.length) (ad%16).toNat n.toNat V (by rw[vt];split at hjs <;> omega) (by rw[vt];omega)
      rw[show((n.toNat:Nat):Int)=n by omega] at this
      exact this
     have UZ:ad.tmod 16=(((ad%16).toNat:Nat):Int):=by
      rw[Int.tmod_eq_emod_of_nonneg (by omega)]
      omega
     have hA:nZ k (j:Int) ad n way=((KM.aO k j ad n way).2,KM.vh k j ad n way,(0,0),0):=by
      unfold nZ
      rw[if_neg (fun x=>x c),Int.toNat_natCast,if_neg (fun x=>x hf)]
     rw[hA]
     have mJ:Hid (∀V S mb hs,KM.Same k.ak hs->Km WB.heap.size mb 104 (fL k) V S (KM.bu k hs)->Below w.heap.size w V->V.heap[w.heap.size+1]?=some (.cells #[Nl,Nl,Nl,Nl,I 0] 27 (0,0))->V.heap[w.heap.size+1+1]?=some (.cells #[I 0,I 0] 36 (0,0))->Calls Tryz.prog 52 #[.pointer (some (Ad mb 0)),I (j:Int),I ad,I n,I way] V fun e w'=>∃av nv cv aS nS cS aF nF cF aL nL cL aP nP cP hd,e=.returned (.tuple #[.slice av nv cv,.agg #[I 0,I 0]])/\w'.cell? (Ad mb 0)=some (.slice aS nS cS)/\w'.cell? (Ad mb 1)=some (.slice aF nF cF)/\w'.cell? (Ad mb 2)=some (.slice aL nL cL)/\w'.cell? (Ad mb 3)=some (.slice aP nP cP)/\w'.cell? (Ad mb 4)=some (I hd)/\mb<w'.heap.size/\(∀V',Below w'.heap.size w' V'->Calls Tryz.prog 64 #[.pointer (some (Ad mb 0)),.slice av nv cv] V' fun e w''=>e=.returned (.string (KM.fB (KM.aO k j ad n way).2.frames (KM.aO k j ad n way).1 (KM.aO k j ad n way).1.length))/\w''=V')/\w'.heap[w.heap.size+1]?=some (.cells #[Nl,Nl,Nl,Nl,I 0] 27 (0,0))/\w'.heap[w.heap.size+1+1]?=some (.cells #[I 0,I 0] 36 (0,0))/\Below w.heap.size w w'/\(∀U,Kp (fun b=>b=w.heap.size+1∨b=w.heap.size+1+1) w' U->dJ w (KM.aO k j ad n way).2 [.string (KM.vh k j ad n way),.agg #[I 0,I 0],I 0] (.returned (.tuple #[.agg #[.slice aS nS cS,.slice aF nF cF,.slice aL nL cL,.slice aP nP cP,I hd],.string (KM.vh k j ad n way),.agg #[I 0,I 0],I 0])) U)):=fun V S mb hs hsame hV YR Q9 WU=>by
      have hR':=hR.bu hsame
      refine(KX.x8 (KM.bu k hs) S V j ad n way hV hR' hj had hn hf (KY.ET hR.eN hsame)).mono fun e w' ⟨av,cv,S',e1,mz,hk',hc'⟩=>?_
      rw[KM.u6 hR hj kj hsame] at hk' e1 mz
      have uD:∀b,b<WB.heap.size->S.lab b=.no:=fun b hb=>Classical.not_not.1 fun x=>by have:=(hV.kP b x).1;omega
      have Di:=HLB.o
      obtain⟨aS,cS,eS,_⟩:=aQ hk'.ak
      obtain⟨aF,cF,eF,_⟩:=aQ hk'.frames
      obtain⟨aL,cL,eL,_⟩:=aQ hk'.slots
      obtain⟨aP,cP,eP,_⟩:=aQ hk'.aj
      have c0:=hk'.c0
      have c1:=hk'.c1
      have c2:=hk'.c2
      have c3:=hk'.c3
      rw[eS] at c0
      rw[eF] at c1
      rw[eL] at c2
      rw[eP] at c3
      have hbl:Below w.heap.size w w':=Kp.below YR hc'.kp YR.size (fun b hb=>by have:=(hV.kP b hb).1;omega)
      refine⟨av,_,cv,aS,_,cS,aF,_,cF,aL,_,cL,aP,_,cP,_,e1,c0,c1,c2,c3,hk'.c4,hk'.lt,fun V' hb'=>?_,hc'.keep Q9 (uD _ (by omega)),hc'.keep WU (uD _ Di),hbl,fun U hU=>⟨S',hs,by rw[N6];exact hsame,by rw[eS,eF,eL,eP];rfl,?_,?_⟩⟩
      · exact KX.El (KM.bu (KM.aO k j ad n way).2 hs) S' V' (KM.aO k j ad n way).1 av cv (hk'.below hb') (mz.ch (Ch.below hb')) (fun m hm=>wL m hm) yJ (fun m hm=>Et m hm) K5
      · exact(hk'.toKr.kp hU (fun b hb e=>hb (hc'.no b (by have:=hc'.kp.size;have:=B.isLt Q9;have:=B.isLt WU;rcases e with e | e <;> omega) (uD b (by rcases e with e | e <;> omega))))).mono (by have:=hb1.size;omega)
      · exact Kp.below hbl hU hbl.size (fun b e=>by rcases e with e | e <;> omega)
     obtain⟨P,hP⟩:=ex (dJ w (KM.aO k j ad n way).2 [.string (KM.vh k j ad n way),.agg #[I 0,I 0],I 0])
     rw[<- hP] at mJ
     obtain⟨LD,Y8⟩:=ex (KM.vh k j ad n way)
     rw[<- Y8] at mJ VS
     obtain⟨JD,TS⟩:=ex (KM.fB (KM.aO k j ad n way).2.frames (KM.aO k j ad n way).1 (KM.aO k j ad n way).1.length)
     rw[<- TS] at mJ VS
     obtain⟨md,Yr⟩:=ex ((ad%16).toNat)
     rw[<- Yr] at VS UZ
     show Calls _ _ _ _ (dJ w (KM.aO k j ad n way).2 [.string (KM.vh k j ad n way),.agg #[I 0,I 0],I 0])
     rw[<- hP]
     have pB:Hid (Calls Tryz.prog 51 #[.agg (aJ a k),I (j:Int),I n,I way,.slice (some (Ad WA.heap.size 0)) 2 2] WB fun e w'=>∃mb S hs,e=.returned (.tuple #[.pointer (some (Ad mb 0)),I 0])/\KM.Same k.ak hs/\Km WB.heap.size mb 104 (fL k) w' S (KM.bu k hs)/\Below WB.heap.size WB w'):=pd.o
     unfold aJ at pB gp ⊢
     clear hK hF hsp had hA c hP dK xo hb0 hb1 kb rb fb hrow Vj hsz G3 pd hf WV hal YT hmap kj hm2 N6 hR hlv hn XX hj mX CG RH hcc K5 yJ wL Et Vm hfit hjs vt Y8 TS Yr
     go_enter Tryz.func25,Tryz.ntmps25
     go_upto_region 1 with fail
     rw[<- gp.o]
     go_upto_region 7 with(first
      | (go_at_call 51;rw[<- SJ.o];refine pB.o.mono ?_;rintro e w1 ⟨mb,S1,hs1,rfl,hs2,hk1,hb1⟩;have ck:=ai (bI.o.trans (hb1.mono bI.o.size));have R1:=ai (RB.o _ hb1);have F1:=ai (FB.o _ hb1);have pC:=ai hk1;have gm:=ai hs2;clear hb1 hk1 hs2)
      | (go_at_call 52;refine(mJ.o _ _ _ _ gm.o pC.o ck.o R1.o F1.o).mono ?_;rintro e w2 ⟨av,nv,cv,aS,nS,cS,aF,nF,cF,aL,nL,cL,aP,nP,cP,hd,rfl,m0,m1,m2,m3,m4,oa,hjo,hr2,hf2,hb2,hfin⟩;have HJO:=ai hjo;clear hjo;have R2:=ai hr2;have F2:=ai hf2;have cZ:=ai hb2;have jZ:=ai hfin;have X2:=ai (B.new w2 #[I 0,I 0] 36);obtain⟨x0,x1⟩:=B.c2 X2.o;clear hr2 hf2 hb2 hfin))
     have R3:=ai (B.alloc R2.o (.cells #[I 0,I 0] 36))
     have F3:=ai (B.alloc F2.o (.cells #[I 0,I 0] 36))
     have HA:=ai ((Below.refl w2.heap.size w2).alloc (Nat.le_refl _) (.cells #[I 0,I 0] 36))
     have p0:=(HA.o.cell (p:=(Ad mb 0)) oa).trans m0
     have p1:=(HA.o.cell (p:=(Ad mb 1)) oa).trans m1
     have p2:=(HA.o.cell (p:=(Ad mb 2)) oa).trans m2
     have p3:=(HA.o.cell (p:=(Ad mb 3)) oa).trans m3
     have p4:=(HA.o.cell (p:=(Ad mb 4)) oa).trans m4
     obtain⟨W3,hW3⟩:=ex (w2.alloc (.cells #[I 0,I 0] 36))
     rw[<- hW3] at R3 F3 HA p0 p1 p2 p3 p4 ⊢
     clear hW3 m0 m1 m2 m3 m4 x0 x1
     obtain⟨y0,y1,y2,y3,y4⟩:=B.c5 R3.o
     obtain⟨z0,z1⟩:=B.c2 F3.o
     have f0:=B.free R3.o 0
     have f1:=B.free R3.o 1
     have f2:=B.free R3.o 2
     have f3:=B.free R3.o 3
     have f4:=B.free R3.o 4
     have g0:=B.free F3.o 0
     have g1:=B.free F3.o 1
     have h7:=ai (fun V=>Gn R3.o F3.o A8 (.slice aS nS cS) (.slice aF nF cF) (.slice aL nL cL) (.slice aP nP cP) (I hd) (I 0) (I 0) (V:=V))
     go_wp2_with (first
      | (go_at_call 64;refine(HJO.o _ HA.o).mono ?_;rintro e w4 ⟨rfl,rfl⟩)
      | (go_at_call 63;refine(VS.o _).mono ?_;rintro e w5 ⟨rfl,vA⟩;have tS:=ai vA;have R5:=ai (B.below R3.o vA (B.isLt R3.o));have F5:=ai (B.below F3.o vA (B.isLt F3.o));have ZL:mb<w4.heap.size:=Nat.lt_of_lt_of_le oa HA.o.size;have p0:=(vA.cell (p:=(Ad mb 0)) ZL).trans p0;have p1:=(vA.cell (p:=(Ad mb 1)) ZL).trans p1;have p2:=(vA.cell (p:=(Ad mb 2)) ZL).trans p2;have p3:=(vA.cell (p:=(Ad mb 3)) ZL).trans p3;have p4:=(vA.cell (p:=(Ad mb 4)) ZL).trans p4;obtain⟨y0,y1,y2,y3,y4⟩:=B.c5 R5.o;obtain⟨z0,z1⟩:=B.c2 F5.o;have f0:=B.free R5.o 0;have f1:=B.free R5.o 1;have f2:=B.free R5.o 2;have f3:=B.free R5.o 3;have f4:=B.free R5.o 4;have g0:=B.free F5.o 0;have g1:=B.free F5.o 1;clear vA))
     have h7:=ai (fun V=>Gn R5.o F5.o A8 (.slice aS nS cS) (.slice aF nF cF) (.slice aL nL cL) (.slice aP nP cP) (I hd) (I 0) (I 0) (V:=V))
     obtain⟨q1,q2,q3⟩:=h7.out _ rfl
     obtain⟨y0,y1,y2,y3,y4⟩:=B.c5 q1
     obtain⟨z0,z1⟩:=B.c2 q2
     refine bodyPost_ret (v:=.tuple #[.agg #[.slice aS nS cS,.slice aF nF cF,.slice aL nL cL,.slice aP nP cP,I hd],.string LD,.agg #[I 0,I 0],I 0]) (by simp[results,Tryz.results25,go_sem,y0,y1,y2,y3,y4,z0,z1]) rfl ?_
     exact jZ.o _ (((Kp.aY HA.o).trans (Kp.aY tS.o) (fun _ _ g=>g)).trans q3 (fun _ _ g=>g))
   · have hA:nZ k (j:Int) ad n way=(kN,⟨#[]⟩,FM.fH (KM.au k.aj j).aD ad n way,0):=by
      unfold nZ
      rw[if_neg (fun x=>x c),Int.toNat_natCast,if_pos hf]
     rw[hA]
     obtain⟨FA,Vr⟩:=ex (FM.fH (KM.au k.aj j).aD ad n way)
     have mJ:Hid (∀V S mb hs,KM.Same k.ak hs->Km WB.heap.size mb 104 (fL k) V S (KM.bu k hs)->Calls Tryz.prog 52 #[.pointer (some (Ad mb 0)),I (j:Int),I ad,I n,I way] V fun e w'=>e=.returned (.tuple #[Nl,.agg #[I FA.1,I FA.2]])/\Below V.heap.size V w'):=fun V S mb hs hsame hV=>by
      rw[Vr]
      exact KX.u7 (KM.bu k hs) S V j ad n way hV (hR.bu hsame) hj had hn hf
     rw[<- Vr] at hf ⊢
     have rY:(FA.1 != 0)=true:=by simpa using hf
     have pB:Hid (Calls Tryz.prog 51 #[.agg (aJ a k),I (j:Int),I n,I way,.slice (some (Ad WA.heap.size 0)) 2 2] WB fun e w'=>∃mb S hs,e=.returned (.tuple #[.pointer (some (Ad mb 0)),I 0])/\KM.Same k.ak hs/\Km WB.heap.size mb 104 (fL k) w' S (KM.bu k hs)/\Below WB.heap.size WB w'):=pd.o
     obtain⟨f0,f1⟩:=FA
     simp only at mJ rY ⊢
     have bw:Hid (∀V,Below w.heap.size w V->dJ w kN [.string ⟨#[]⟩,.agg #[I f0,I f1],I 0] (.returned (.tuple #[.agg #[Nl,Nl,Nl,Nl,I 0],.string ⟨#[]⟩,.agg #[I f0,I f1],I 0])) V):=fun V hV=>nW _ hV
     obtain⟨P,hP⟩:=ex (dJ w kN [.string ⟨#[]⟩,.agg #[I f0,I f1],I 0])
     rw[<- hP] at bw ⊢
     unfold aJ at pB gp ⊢
     clear hK hF hsp had hA c hP dK xo hb0 hb1 kb rb fb hrow Vj hsz G3 pd hf hR hlv hn XX hj mX CG Vr
     go_enter Tryz.func25,Tryz.ntmps25
     go_upto_region 1 with fail
     rw[<- gp.o]
     go_upto_region 6 with(first
      | (go_at_call 51;rw[<- SJ.o];refine pB.o.mono ?_;rintro e w1 ⟨mb,S1,hs1,rfl,hs2,hk1,hb1⟩;have ck:=ai (bI.o.trans (hb1.mono bI.o.size));have R1:=ai (RB.o _ hb1);have F1:=ai (FB.o _ hb1);have pC:=ai hk1;have gm:=ai hs2;clear hb1 hk1 hs2)
      | (go_at_call 52;refine(mJ.o _ _ _ _ gm.o pC.o).mono ?_;rintro e w2 ⟨rfl,hb2⟩;have R2:=ai (B.below R1.o hb2 (B.isLt R1.o));have F2:=ai (B.below F1.o hb2 (B.isLt F1.o));have cZ:=ai (ck.o.trans (hb2.mono ck.o.size));have X2:=ai (B.new w2 #[I f0,I f1] 36);obtain⟨x0,x1⟩:=B.c2 X2.o;clear hb2))
     have R3:=ai (B.alloc R2.o (.cells #[I f0,I f1] 36))
     have F3:=ai (B.alloc F2.o (.cells #[I f0,I f1] 36))
     have iF:=ai (cZ.o.alloc cZ.o.size (.cells #[I f0,I f1] 36))
     have hl2:=B.isLt R2.o
     have hl3:=B.isLt F2.o
     have Ab:¬w2.heap.size=w.heap.size+1:=by omega
     have Rc:¬w2.heap.size=w.heap.size+1+1:=by omega
     obtain⟨W3,hW3⟩:=ex (w2.alloc (.cells #[I f0,I f1] 36))
     rw[<- hW3] at R3 F3 iF x0 x1 ⊢
     clear hW3
     obtain⟨y0,y1,y2,y3,y4⟩:=B.c5 R3.o
     obtain⟨z0,z1⟩:=B.c2 F3.o
     have e0:=B.free R3.o 0
     have e1:=B.free R3.o 1
     have e2:=B.free R3.o 2
     have e3:=B.free R3.o 3
     have e4:=B.free R3.o 4
     have g0:=B.free F3.o 0
     have g1:=B.free F3.o 1
     have h7:=ai (fun V=>Gn R3.o F3.o A8 Nl Nl Nl Nl (I 0) (I f0) (I f1) (V:=V))
     go_region
     go_wp2
     obtain⟨q1,q2,q3⟩:=h7.out _ rfl
     obtain⟨y0,y1,y2,y3,y4⟩:=B.c5 q1
     obtain⟨z0,z1⟩:=B.c2 q2
     refine bodyPost_ret (v:=.tuple #[.agg #[Nl,Nl,Nl,Nl,I 0],.string ⟨#[]⟩,.agg #[I f0,I f1],I 0]) (by simp[results,Tryz.results25,go_sem,y0,y1,y2,y3,y4,z0,z1]) rfl ?_
     exact bw.o _ (Kp.below iF.o (q3.trans (Kp.drew _ _) (fun _ _ g=>g)) iF.o.size (fun b e=>by rcases e with e | e <;> omega))
 · have hA:nZ k sp ad n way=(kN,⟨#[]⟩,(0,0),dR k sp n way [0,2]):=by unfold nZ;rw[if_pos c]
   rw[hA]
   have pd:=ai (KY.u9 k a sp n way [0,2] (some (Ad WA.heap.size 0)) 2 WB (hK.below hb1) hF hsp hrow (by simp) c)
   rw[show([0,2]:List Int).length=2 from rfl] at pd
   obtain⟨C,hC⟩:=ex (dR k sp n way [0,2])
   rw[<- hC] at pd c ⊢
   have cb:(C != 0)=true:=by simpa using c
   have bw:Hid (∀V,Below w.heap.size w V->dJ w kN [.string ⟨#[]⟩,.agg #[I 0,I 0],I C] (.returned (.tuple #[.agg #[Nl,Nl,Nl,Nl,I 0],.string ⟨#[]⟩,.agg #[I 0,I 0],I C])) V):=fun V hV=>nW _ hV
   obtain⟨P,hP⟩:=ex (dJ w kN [.string ⟨#[]⟩,.agg #[I 0,I 0],I C])
   rw[<- hP] at bw ⊢
   unfold aJ at pd gp ⊢
   clear hK hF hsp had hA hC c hP dK xo hb0 hb1 kb rb fb hrow Vj hsz G3
   go_enter Tryz.func25,Tryz.ntmps25
   go_upto_region 1 with fail
   rw[<- gp.o]
   go_upto_region 3 with(go_at_call 51;rw[<- SJ.o];refine pd.o.mono ?_;rintro e w1 ⟨rfl,hb1⟩;have ck:=ai (bI.o.trans (hb1.mono bI.o.size));have R1:=ai (RB.o _ hb1);have F1:=ai (FB.o _ hb1);clear hb1)
   obtain⟨y0,y1,y2,y3,y4⟩:=B.c5 R1.o
   obtain⟨z0,z1⟩:=B.c2 F1.o
   have f0:=B.free R1.o 0
   have f1:=B.free R1.o 1
   have f2:=B.free R1.o 2
   have f3:=B.free R1.o 3
   have f4:=B.free R1.o 4
   have g0:=B.free F1.o 0
   have g1:=B.free F1.o 1
   have h7:=ai (fun V=>Gn R1.o F1.o (by omega) Nl Nl Nl Nl (I 0) (I 0) (I 0) (V:=V))
   go_wp2
   obtain⟨q1,q2,q3⟩:=h7.out _ rfl
   obtain⟨y0,y1,y2,y3,y4⟩:=B.c5 q1
   obtain⟨z0,z1⟩:=B.c2 q2
   refine bodyPost_ret (v:=.tuple #[.agg #[Nl,Nl,Nl,Nl,I 0],.string ⟨#[]⟩,.agg #[I 0,I 0],I C]) (by simp[results,Tryz.results25,go_sem,y0,y1,y2,y3,y4,z0,z1]) rfl ?_
   exact bw.o _ (Kp.below ck.o q3 ck.o.size (fun b e=>by rcases e with e | e <;> omega))
def ko (k:KM.Kn) (sp a:Int) (d:ByteArray):KM.Kn×(Int×Int)×Int:=if dR k sp d.size 1 [1]≠0 then (kN,(0,0),dR k sp d.size 1 [1]) else if (FM.fH (KM.au k.aj sp.toNat).aD a d.size 1).1≠0 then (kN,FM.fH (KM.au k.aj sp.toNat).aD a d.size 1,0) else (KM.pK k sp.toNat a d,(0,0),0)
theorem Cr (V:World):aZ bT 1 0 (V.alloc (.cells #[I 1] 3)) (some (Ad V.heap.size 0)) [1]:=fun _=>by
 have h:=B.new V #[I 1] 3
 refine⟨V.heap.size,0,rfl,B.isLt h,fun i hi j hj=>?_⟩
 obtain rfl:j=0:=by omega
 have hi:i<1:=hi
 obtain rfl:i=0:=by omega
 exact B.cell h 0 rfl
theorem Au (xk:kX) (k:KM.Kn) (a:fu) (sp ad:Int) (d:ByteArray) (w:World) (hK:cI w a k) (hF:eW k) (hsp:M.gj sp) (had:M.gj ad) :
  Calls Tryz.prog 28 #[.agg (aJ a k),I sp,I ad,.string d] w (dJ w (ko k sp ad d).1 [.agg #[I (ko k sp ad d).2.1.1,I (ko k sp ad d).2.1.2],I (ko k sp ad d).2.2]):=by
 obtain⟨Z5,Vj⟩:∃Z5:Array Value,Z5=#[Nl,Nl,Nl,Nl,I 0]:=⟨_,rfl⟩
 obtain⟨WA,dK⟩:=ex (((w.alloc (.cells (aJ a k) 27)).alloc (.cells #[Nl,Nl,Nl,Nl,I 0] 27)).alloc (.cells #[I 0,I 0] 36))
 have hb0:Below w.heap.size w WA:=by rw[dK];exact(((Below.refl _ _).alloc (Nat.le_refl _) _).alloc (by simp) _).alloc (by simp;omega) _
 have kb:WA.heap[w.heap.size]?=some (.cells (aJ a k) 27 (0,0)):=by rw[dK];exact B.alloc (B.alloc (B.new w _ _) _) _
 have rb:WA.heap[w.heap.size+1]?=some (.cells #[Nl,Nl,Nl,Nl,I 0] 27 (0,0)):=by
  have:=B.alloc (B.new (w.alloc (.cells (aJ a k) 27)) #[Nl,Nl,Nl,Nl,I 0] 27) (.cells #[I 0,I 0] 36)
  rw[World.size_alloc] at this
  rw[dK];exact this
 have fb:WA.heap[w.heap.size+1+1]?=some (.cells #[I 0,I 0] 36 (0,0)):=by
  have:=B.new ((w.alloc (.cells (aJ a k) 27)).alloc (.cells #[Nl,Nl,Nl,Nl,I 0] 27)) #[I 0,I 0] 36
  rw[World.size_alloc,World.size_alloc] at this
  rw[dK];exact this
 have hsz:WA.heap.size=w.heap.size+3:=by rw[dK,World.size_alloc,World.size_alloc,World.size_alloc]
 obtain⟨WB,xo⟩:=ex (WA.alloc (.cells #[I 1] 3))
 have hb1:Below w.heap.size w WB:=by rw[xo];exact hb0.alloc hb0.size _
 have hrow:aZ bT 1 0 WB (some (Ad WA.heap.size 0)) [1]:=by rw[xo];exact Cr WA
 have G3:WB.heap.size=w.heap.size+4:=by rw[xo,World.size_alloc,hsz]
 have RB:Hid (∀V,Below WB.heap.size WB V->V.heap[w.heap.size+1]?=some (.cells #[Nl,Nl,Nl,Nl,I 0] 27 (0,0))):=fun V hb=>B.below (by rw[xo];exact B.alloc rb _) hb (by omega)
 have FB:Hid (∀V,Below WB.heap.size WB V->V.heap[w.heap.size+1+1]?=some (.cells #[I 0,I 0] 36 (0,0))):=fun V hb=>B.below (by rw[xo];exact B.alloc fb _) hb (by omega)
 have k0:WA.cell? (Ad w.heap.size 0)=some (.slice a.aS k.ak.length a.cS):=B.cell kb 0 rfl
 have k1:WA.cell? (Ad w.heap.size 1)=some (.slice a.aF k.frames.length a.cF):=B.cell kb 1 rfl
 have k2:WA.cell? (Ad w.heap.size 2)=some (.slice a.aL k.slots.length a.cL):=B.cell kb 2 rfl
 have k3:WA.cell? (Ad w.heap.size 3)=some (.slice a.aP k.aj.length a.cP):=B.cell kb 3 rfl
 have k4:WA.cell? (Ad w.heap.size 4)=some (I k.hand):=B.cell kb 4 rfl
 have gp:=ai dK
 have SJ:=ai xo
 have bI:=ai hb1
 by_cases c:dR k sp (d.size:Int) 1 [1]=0
 · obtain⟨hlv,hn,XX⟩:=Bi c
   obtain⟨hR,CG,hj,mX⟩:=KY.oG hlv
   obtain⟨j,U7⟩:∃j:Nat,sp=(j:Int):=⟨sp.toNat,by omega⟩
   subst U7
   rw[Int.toNat_natCast] at hj mX
   have pd:=ai (KY.ym xk k a (j:Int) (d.size:Int) 1 [1] (some (Ad WA.heap.size 0)) 1 WB (hK.below hb1) hF hsp hrow (by simp) c)
   rw[show([1]:List Int).length=1 from rfl] at pd
   have A8:w.heap.size+1≠w.heap.size+1+1:=by omega
   have HLB:=ai (show w.heap.size+1+1<WB.heap.size by omega)
   by_cases hf:(FM.fH (KM.au k.aj j).aD ad (d.size:Int) 1).1=0
   · obtain⟨WV,hal,YT,hmap⟩:=KX.r8 hn.1 hn.2 hf
     have kj:KM.mapped k j (ad/16):=by
      have:=hmap 0 (by omega) (by omega)
      rw[Int.add_zero] at this
      exact this
     have hm2:KM.mapped k j (KM.bZ ad (d.size:Int)):=by
      have:=hmap ((d.size:Int)-1) (by omega) (by omega)
      unfold KM.bZ
      rw[show ad+(d.size:Int)-1=ad+((d.size:Int)-1) by omega]
      exact this
     have RH:=KM.nT hR hj ad (d.size:Int) 1 kj hm2
     have N6:=RH.kept.ak
     have hcc:=hR.c
     have K5:0<(KM.aO k j ad (d.size:Int) 1).2.frames.length:=by rw[RH.kept.nf];omega
     have yJ:(KM.aO k j ad (d.size:Int) 1).1.length<=2:=by
      rw[(KX.sP k j ad (d.size:Int) 1).2.2]
      unfold KX.qN
      split <;> omega
     have wL:∀m,m<(KM.aO k j ad (d.size:Int) 1).1.length->(KM.aO k j ad (d.size:Int) 1).1.getD m 0<(KM.aO k j ad (d.size:Int) 1).2.frames.length:=fun m hm=>by
      rw[RH.kept.nf]
      by_cases z:KM.bZ ad (d.size:Int)=ad/16
      · have e:(KM.aO k j ad (d.size:Int) 1).1=[(KM.dz k j ad 1).1]:=by unfold KM.aO;rw[if_pos z]
        rw[e] at hm ⊢
        have hm:m<1:=hm
        obtain rfl:m=0:=by omega
        exact RH.one.2
      · have e:(KM.aO k j ad (d.size:Int) 1).1=[(KM.dz k j ad 1).1,(KM.iI k j ad (d.size:Int) 1).1]:=by unfold KM.aO;rw[if_neg z]
        rw[e] at hm ⊢
        have hm:m<2:=hm
        rcases(show m=0∨m=1 by omega) with rfl | rfl
        · exact RH.one.2
        · exact(RH.two z).2
     have Et:∀m,m<(KM.aO k j ad (d.size:Int) 1).1.length->(KM.aI (KM.aO k j ad (d.size:Int) 1).2.frames ((KM.aO k j ad (d.size:Int) 1).1.getD m 0)).data.size<=1000:=fun m hm=>by
      have hi:=wL m hm
      by_cases z:(KM.aI (KM.aO k j ad (d.size:Int) 1).2.frames ((KM.aO k j ad (d.size:Int) 1).1.getD m 0)).refs=0
      · have:=(RH.right.nz _ hi).zero ((RH.right.nz _ hi).nil z)
        rw[this]
        show(0:Nat)<=1000
        omega
      · have:=(RH.right.nz _ hi).size ((RH.right.nz _ hi).ne z)
        omega
     have Vm:KM.Xc (KM.dB k j) ad (d.size:Int):=⟨KM.lU hR hj kj,KM.lU hR hj hm2⟩
     have hfit:=KM.yB Vm hn.1 hn.2
     have hjs:=KM.qw Vm hn.1 hn.2
     have vt:=KM.rP hR hj ad (d.size:Int) 1 kj hm2
     have ach:=hjs
     have hlL:(CL.over (KM.fB (KM.aO k j ad (d.size:Int) 1).2.frames (KM.aO k j ad (d.size:Int) 1).1 (KM.aO k j ad (d.size:Int) 1).1.length) (ad%16).toNat d).size=(KM.qZ (KM.dB k j) ad (d.size:Int)).size:=by
      rw[vt]
      exact KM.nV _ _ _ (by omega)
     have hpl:(KM.aO k j ad (d.size:Int) 1).1.length*16=(KM.qZ (KM.dB k j) ad (d.size:Int)).size:=by
      rw[(KX.sP k j ad (d.size:Int) 1).2.2]
      unfold KX.qN
      split at hjs <;> rename_i z
      · rw[if_pos z];omega
      · rw[if_neg z];omega
     have acC:(KM.qZ (KM.dB k j) ad (d.size:Int)).size<=32:=by split at hjs <;> omega
     have Mj:Hid (∀V,Calls Tryz.prog 65 #[.string (KM.fB (KM.aO k j ad (d.size:Int) 1).2.frames (KM.aO k j ad (d.size:Int) 1).1 (KM.aO k j ad (d.size:Int) 1).1.length),I (((ad%16).toNat:Nat):Int),.string d] V fun e w'=>e=.returned (.tuple #[.string (CL.over (KM.fB (KM.aO k j ad (d.size:Int) 1).2.frames (KM.aO k j ad (d.size:Int) 1).1 (KM.aO k j ad (d.size:Int) 1).1.length) (ad%16).toNat d),I 0])/\Below V.heap.size V w'):=fun V=>CW.CA _ d (ad%16).toNat V (by rw[vt];omega) (by rw[vt];omega)
     have UZ:ad.tmod 16=(((ad%16).toNat:Nat):Int):=by
      rw[Int.tmod_eq_emod_of_nonneg (by omega)]
      omega
     have hST:=KM.JT hR hj ad d hn.1 hn.2 kj hm2
     have hsk:=hST.ak
     have hA:ko k (j:Int) ad d=(KM.pK k j ad d,(0,0),0):=by
      unfold ko
      rw[if_neg (fun x=>x c),Int.toNat_natCast,if_neg (fun x=>x hf)]
     rw[hA]
     have mJ:Hid (∀V S mb hs,KM.Same k.ak hs->Km WB.heap.size mb 104 (fL k) V S (KM.bu k hs)->Below w.heap.size w V->V.heap[w.heap.size+1]?=some (.cells #[Nl,Nl,Nl,Nl,I 0] 27 (0,0))->V.heap[w.heap.size+1+1]?=some (.cells #[I 0,I 0] 36 (0,0))->Calls Tryz.prog 52 #[.pointer (some (Ad mb 0)),I (j:Int),I ad,I (d.size:Int),I 1] V fun e w'=>∃av nv cv,e=.returned (.tuple #[.slice av nv cv,.agg #[I 0,I 0]])/\(∀V',Below w'.heap.size w' V'->Calls Tryz.prog 64 #[.pointer (some (Ad mb 0)),.slice av nv cv] V' fun e w''=>e=.returned (.string (KM.fB (KM.aO k j ad (d.size:Int) 1).2.frames (KM.aO k j ad (d.size:Int) 1).1 (KM.aO k j ad (d.size:Int) 1).1.length))/\w''=V')/\(∀V',Below w'.heap.size w' V'->Calls Tryz.prog 66 #[.pointer (some (Ad mb 0)),.slice av nv cv,.string (CL.over (KM.fB (KM.aO k j ad (d.size:Int) 1).2.frames (KM.aO k j ad (d.size:Int) 1).1 (KM.aO k j ad (d.size:Int) 1).1.length) (ad%16).toNat d)] V' fun e w''=>∃aS nS cS aF nF cF aL nL cL aP nP cP hd,e=.returned (.tuple #[])/\w''.cell? (Ad mb 0)=some (.slice aS nS cS)/\w''.cell? (Ad mb 1)=some (.slice aF nF cF)/\w''.cell? (Ad mb 2)=some (.slice aL nL cL)/\w''.cell? (Ad mb 3)=some (.slice aP nP cP)/\w''.cell? (Ad mb 4)=some (I hd)/\w''.heap[w.heap.size+1]?=some (.cells #[Nl,Nl,Nl,Nl,I 0] 27 (0,0))/\w''.heap[w.heap.size+1+1]?=some (.cells #[I 0,I 0] 36 (0,0))/\(∀U,Kp (fun b=>b=w.heap.size+1∨b=w.heap.size+1+1) w'' U->dJ w (KM.pK k j ad d) [.agg #[I 0,I 0],I 0] (.returned (.tuple #[.agg #[.slice aS nS cS,.slice aF nF cF,.slice aL nL cL,.slice aP nP cP,I hd],.agg #[I 0,I 0],I 0])) U))):=fun V S mb hs hsame hV YR Q9 WU=>by
      have hR':=hR.bu hsame
      refine(KX.x8 (KM.bu k hs) S V j ad (d.size:Int) 1 hV hR' hj had hn hf (KY.ET hR.eN hsame)).mono fun e w' ⟨av,cv,S',e1,mz,hk',hc'⟩=>?_
      rw[KM.u6 hR hj kj hsame] at hk' e1 mz
      have uD:∀b,b<WB.heap.size->S.lab b=.no:=fun b hb=>Classical.not_not.1 fun x=>by have:=(hV.kP b x).1;omega
      have Di:=HLB.o
      have hbl:Below w.heap.size w w':=Kp.below YR hc'.kp YR.size (fun b hb=>by have:=(hV.kP b hb).1;omega)
      have Dh:w.heap.size+1<w'.heap.size:=Nat.lt_of_lt_of_le (B.isLt Q9) hc'.kp.size
      have hl2:w.heap.size+1+1<w'.heap.size:=Nat.lt_of_lt_of_le (B.isLt WU) hc'.kp.size
      have n1:S'.lab (w.heap.size+1)=.no:=hc'.no _ (B.isLt Q9) (uD _ (by omega))
      have n2:S'.lab (w.heap.size+1+1)=.no:=hc'.no _ (B.isLt WU) (uD _ Di)
      have hr':=hc'.keep Q9 (uD _ (by omega))
      have hf':=hc'.keep WU (uD _ Di)
      refine⟨av,_,cv,e1,fun V' hb'=>?_,fun V' hb'=>?_⟩
      · exact KX.El (KM.bu (KM.aO k j ad (d.size:Int) 1).2 hs) S' V' (KM.aO k j ad (d.size:Int) 1).1 av cv (hk'.below hb') (mz.ch (Ch.below hb')) (fun m hm=>wL m hm) yJ (fun m hm=>Et m hm) K5
      · refine(KX.M8 (KM.bu (KM.aO k j ad (d.size:Int) 1).2 hs) S' V' (KM.aO k j ad (d.size:Int) 1).1 (CL.over (KM.fB (KM.aO k j ad (d.size:Int) 1).2.frames (KM.aO k j ad (d.size:Int) 1).1 (KM.aO k j ad (d.size:Int) 1).1.length) (ad%16).toNat d) av cv (hk'.below hb') (mz.ch (Ch.below hb')) (fun m hm=>wL m hm) yJ (by rw[hlL,hpl];exact Nat.le_refl _) (by rw[hlL];omega) K5).mono fun e w'' ⟨e2,hk2,hc2⟩=>?_
        rw[KM.yh] at hk2
        have hk3:Km WB.heap.size mb 104 (fL k) w'' S' (KM.bu (KM.pK k j ad d) hs):=hk2
        clear hk2
        obtain⟨aS,cS,eS,_⟩:=aQ hk3.ak
        obtain⟨aF,cF,eF,_⟩:=aQ hk3.frames
        obtain⟨aL,cL,eL,_⟩:=aQ hk3.slots
        obtain⟨aP,cP,eP,_⟩:=aQ hk3.aj
        have c0:=hk3.c0
        have c1:=hk3.c1
        have c2:=hk3.c2
        have c3:=hk3.c3
        rw[eS] at c0
        rw[eF] at c1
        rw[eL] at c2
        rw[eP] at c3
        have Le:Below w.heap.size w w'':=Kp.below (hbl.trans (hb'.mono hbl.size)) hc2.kp (Nat.le_trans hbl.size hb'.size) (fun b hb=>by have:=(hk'.kP b hb).1;have:=hb1.size;omega)
        refine⟨aS,_,cS,aF,_,cF,aL,_,cL,aP,_,cP,_,e2,c0,c1,c2,c3,hk3.c4,hc2.keep (B.below hr' hb' Dh) n1,hc2.keep (B.below hf' hb' hl2) n2,fun U hU=>⟨S',hs,by rw[hsk];exact hsame,by rw[eS,eF,eL,eP];rfl,?_,?_⟩⟩
        · exact(hk3.toKr.kp hU (fun b hb e => hb (by rcases e with e | e <;> rw[e] <;> first | exact n1 | exact n2))).mono (by have:=hb1.size;omega)
        · exact Kp.below Le hU Le.size (fun b e=>by rcases e with e | e <;> omega)
     obtain⟨P,hP⟩:=ex (dJ w (KM.pK k j ad d) [.agg #[I 0,I 0],I 0])
     rw[<- hP] at mJ
     obtain⟨LD,Y8⟩:=ex ((CL.over (KM.fB (KM.aO k j ad (d.size:Int) 1).2.frames (KM.aO k j ad (d.size:Int) 1).1 (KM.aO k j ad (d.size:Int) 1).1.length) (ad%16).toNat d))
     rw[<- Y8] at mJ Mj
     obtain⟨JD,TS⟩:=ex ((KM.fB (KM.aO k j ad (d.size:Int) 1).2.frames (KM.aO k j ad (d.size:Int) 1).1 (KM.aO k j ad (d.size:Int) 1).1.length))
     rw[<- TS] at mJ Mj
     obtain⟨md,Yr⟩:=ex ((ad%16).toNat)
     rw[<- Yr] at Mj UZ
     show Calls _ _ _ _ (dJ w (KM.pK k j ad d) [.agg #[I 0,I 0],I 0])
     rw[<- hP]
     have pB:Hid (Calls Tryz.prog 51 #[.agg (aJ a k),I (j:Int),I (d.size:Int),I 1,.slice (some (Ad WA.heap.size 0)) 1 1] WB fun e w'=>∃mb S hs,e=.returned (.tuple #[.pointer (some (Ad mb 0)),I 0])/\KM.Same k.ak hs/\Km WB.heap.size mb 104 (fL k) w' S (KM.bu k hs)/\Below WB.heap.size WB w'):=pd.o
     unfold aJ at pB gp ⊢
     clear hK hF hsp had hA c hP dK xo hb0 hb1 kb rb fb hrow Vj hsz G3 pd hf WV hal YT hmap kj hm2 N6 hR hlv hn XX hj mX CG RH hcc K5 yJ wL Et Vm hfit hjs ach vt hlL hpl acC hST hsk Y8 TS Yr
     go_enter Tryz.func28,Tryz.ntmps28
     go_upto_region 1 with fail
     rw[<- gp.o]
     go_upto_region 7 with(first
      | (go_at_call 51;rw[<- SJ.o];refine pB.o.mono ?_;rintro e w1 ⟨mb,S1,hs1,rfl,hs2,hk1,hb1⟩;have ck:=ai (bI.o.trans (hb1.mono bI.o.size));have R1:=ai (RB.o _ hb1);have F1:=ai (FB.o _ hb1);have pC:=ai hk1;have gm:=ai hs2;clear hb1 hk1 hs2)
      | (go_at_call 52;refine(mJ.o _ _ _ _ gm.o pC.o ck.o R1.o F1.o).mono ?_;rintro e w2 ⟨av,nv,cv,rfl,hjo,Yk⟩;have HJO:=ai hjo;have Mi:=ai Yk;clear hjo Yk;have X2:=ai (B.new w2 #[I 0,I 0] 36);obtain⟨x0,x1⟩:=B.c2 X2.o))
     have HA:=ai ((Below.refl w2.heap.size w2).alloc (Nat.le_refl _) (.cells #[I 0,I 0] 36))
     obtain⟨W3,hW3⟩:=ex (w2.alloc (.cells #[I 0,I 0] 36))
     rw[<- hW3] at HA ⊢
     clear hW3 x0 x1 X2
     go_wp2_with (first
      | (go_at_call 64;refine(HJO.o _ HA.o).mono ?_;rintro e w4 ⟨rfl,rfl⟩)
      | (go_at_call 65;refine(Mj.o _).mono ?_;rintro e w5 ⟨rfl,vA⟩;have tS:=ai (HA.o.trans (vA.mono HA.o.size));clear vA)
      | (go_at_call 66;refine(Mi.o _ tS.o).mono ?_;rintro e w6 ⟨aS,nS,cS,aF,nF,cF,aL,nL,cL,aP,nP,cP,hd,rfl,p0,p1,p2,p3,p4,r6,f6,hfin⟩;have R6:=ai r6;have F6:=ai f6;have jZ:=ai hfin;clear r6 f6 hfin;obtain⟨y0,y1,y2,y3,y4⟩:=B.c5 R6.o;obtain⟨z0,z1⟩:=B.c2 F6.o;have f0:=B.free R6.o 0;have f1:=B.free R6.o 1;have f2:=B.free R6.o 2;have f3:=B.free R6.o 3;have f4:=B.free R6.o 4;have g0:=B.free F6.o 0;have g1:=B.free F6.o 1))
     have h7:=ai (fun V=>Gn R6.o F6.o A8 (.slice aS nS cS) (.slice aF nF cF) (.slice aL nL cL) (.slice aP nP cP) (I hd) (I 0) (I 0) (V:=V))
     obtain⟨q1,q2,q3⟩:=h7.out _ rfl
     obtain⟨y0,y1,y2,y3,y4⟩:=B.c5 q1
     obtain⟨z0,z1⟩:=B.c2 q2
     refine bodyPost_ret (v:=.tuple #[.agg #[.slice aS nS cS,.slice aF nF cF,.slice aL nL cL,.slice aP nP cP,I hd],.agg #[I 0,I 0],I 0]) (by simp[results,Tryz.results28,go_sem,y0,y1,y2,y3,y4,z0,z1]) rfl ?_
     exact jZ.o _ q3
   · have hA:ko k (j:Int) ad d=(kN,FM.fH (KM.au k.aj j).aD ad (d.size:Int) 1,0):=by
      unfold ko
      rw[if_neg (fun x=>x c),Int.toNat_natCast,if_pos hf]
     rw[hA]
     obtain⟨FA,Vr⟩:=ex (FM.fH (KM.au k.aj j).aD ad (d.size:Int) 1)
     have mJ:Hid (∀V S mb hs,KM.Same k.ak hs->Km WB.heap.size mb 104 (fL k) V S (KM.bu k hs)->Calls Tryz.prog 52 #[.pointer (some (Ad mb 0)),I (j:Int),I ad,I (d.size:Int),I 1] V fun e w'=>e=.returned (.tuple #[Nl,.agg #[I FA.1,I FA.2]])/\Below V.heap.size V w'):=fun V S mb hs hsame hV=>by
      rw[Vr]
      exact KX.u7 (KM.bu k hs) S V j ad (d.size:Int) 1 hV (hR.bu hsame) hj had hn hf
     rw[<- Vr] at hf ⊢
     have rY:(FA.1 != 0)=true:=by simpa using hf
     have pB:Hid (Calls Tryz.prog 51 #[.agg (aJ a k),I (j:Int),I (d.size:Int),I 1,.slice (some (Ad WA.heap.size 0)) 1 1] WB fun e w'=>∃mb S hs,e=.returned (.tuple #[.pointer (some (Ad mb 0)),I 0])/\KM.Same k.ak hs/\Km WB.heap.size mb 104 (fL k) w' S (KM.bu k hs)/\Below WB.heap.size WB w'):=pd.o
     obtain⟨f0,f1⟩:=FA
     simp only at mJ rY ⊢
     have bw:Hid (∀V,Below w.heap.size w V->dJ w kN [.agg #[I f0,I f1],I 0] (.returned (.tuple #[.agg #[Nl,Nl,Nl,Nl,I 0],.agg #[I f0,I f1],I 0])) V):=fun V hV=>nW _ hV
     obtain⟨P,hP⟩:=ex (dJ w kN [.agg #[I f0,I f1],I 0])
     rw[<- hP] at bw ⊢
     unfold aJ at pB gp ⊢
     clear hK hF hsp had hA c hP dK xo hb0 hb1 kb rb fb hrow Vj hsz G3 pd hf hR hlv hn XX hj mX CG Vr
     go_enter Tryz.func28,Tryz.ntmps28
     go_upto_region 1 with fail
     rw[<- gp.o]
     go_upto_region 6 with(first
      | (go_at_call 51;rw[<- SJ.o];refine pB.o.mono ?_;rintro e w1 ⟨mb,S1,hs1,rfl,hs2,hk1,hb1⟩;have ck:=ai (bI.o.trans (hb1.mono bI.o.size));have R1:=ai (RB.o _ hb1);have F1:=ai (FB.o _ hb1);have pC:=ai hk1;have gm:=ai hs2;clear hb1 hk1 hs2)
      | (go_at_call 52;refine(mJ.o _ _ _ _ gm.o pC.o).mono ?_;rintro e w2 ⟨rfl,hb2⟩;have R2:=ai (B.below R1.o hb2 (B.isLt R1.o));have F2:=ai (B.below F1.o hb2 (B.isLt F1.o));have cZ:=ai (ck.o.trans (hb2.mono ck.o.size));have X2:=ai (B.new w2 #[I f0,I f1] 36);obtain⟨x0,x1⟩:=B.c2 X2.o;clear hb2))
     have R3:=ai (B.alloc R2.o (.cells #[I f0,I f1] 36))
     have F3:=ai (B.alloc F2.o (.cells #[I f0,I f1] 36))
     have iF:=ai (cZ.o.alloc cZ.o.size (.cells #[I f0,I f1] 36))
     have hl2:=B.isLt R2.o
     have hl3:=B.isLt F2.o
     have Ab:¬w2.heap.size=w.heap.size+1:=by omega
     have Rc:¬w2.heap.size=w.heap.size+1+1:=by omega
     obtain⟨W3,hW3⟩:=ex (w2.alloc (.cells #[I f0,I f1] 36))
     rw[<- hW3] at R3 F3 iF x0 x1 ⊢
     clear hW3
     obtain⟨y0,y1,y2,y3,y4⟩:=B.c5 R3.o
     obtain⟨z0,z1⟩:=B.c2 F3.o
     have e0:=B.free R3.o 0
     have e1:=B.free R3.o 1
     have e2:=B.free R3.o 2
     have e3:=B.free R3.o 3
     have e4:=B.free R3.o 4
     have g0:=B.free F3.o 0
     have g1:=B.free F3.o 1
     have h7:=ai (fun V=>Gn R3.o F3.o A8 Nl Nl Nl Nl (I 0) (I f0) (I f1) (V:=V))
     go_region
     go_wp2
     obtain⟨q1,q2,q3⟩:=h7.out _ rfl
     obtain⟨y0,y1,y2,y3,y4⟩:=B.c5 q1
     obtain⟨z0,z1⟩:=B.c2 q2
     refine bodyPost_ret (v:=.tuple #[.agg #[Nl,Nl,Nl,Nl,I 0],.agg #[I f0,I f1],I 0]) (by simp[results,Tryz.results28,go_sem,y0,y1,y2,y3,y4,z0,z1]) rfl ?_
     exact bw.o _ (Kp.below iF.o (q3.trans (Kp.drew _ _) (fun _ _ g=>g)) iF.o.size (fun b e=>by rcases e with e | e <;> omega))
 · have hA:ko k sp ad d=(kN,(0,0),dR k sp (d.size:Int) 1 [1]):=by unfold ko;rw[if_pos c]
   rw[hA]
   have pd:=ai (KY.u9 k a sp (d.size:Int) 1 [1] (some (Ad WA.heap.size 0)) 1 WB (hK.below hb1) hF hsp hrow (by simp) c)
   rw[show([1]:List Int).length=1 from rfl] at pd
   obtain⟨C,hC⟩:=ex (dR k sp (d.size:Int) 1 [1])
   rw[<- hC] at pd c ⊢
   have cb:(C != 0)=true:=by simpa using c
   have bw:Hid (∀V,Below w.heap.size w V->dJ w kN [.agg #[I 0,I 0],I C] (.returned (.tuple #[.agg #[Nl,Nl,Nl,Nl,I 0],.agg #[I 0,I 0],I C])) V):=fun V hV=>nW _ hV
   obtain⟨P,hP⟩:=ex (dJ w kN [.agg #[I 0,I 0],I C])
   rw[<- hP] at bw ⊢
   unfold aJ at pd gp ⊢
   clear hK hF hsp had hA hC c hP dK xo hb0 hb1 kb rb fb hrow Vj hsz G3
   go_enter Tryz.func28,Tryz.ntmps28
   go_upto_region 1 with fail
   rw[<- gp.o]
   go_upto_region 3 with(go_at_call 51;rw[<- SJ.o];refine pd.o.mono ?_;rintro e w1 ⟨rfl,hb1⟩;have ck:=ai (bI.o.trans (hb1.mono bI.o.size));have R1:=ai (RB.o _ hb1);have F1:=ai (FB.o _ hb1);clear hb1)
   obtain⟨y0,y1,y2,y3,y4⟩:=B.c5 R1.o
   obtain⟨z0,z1⟩:=B.c2 F1.o
   have f0:=B.free R1.o 0
   have f1:=B.free R1.o 1
   have f2:=B.free R1.o 2
   have f3:=B.free R1.o 3
   have f4:=B.free R1.o 4
   have g0:=B.free F1.o 0
   have g1:=B.free F1.o 1
   have h7:=ai (fun V=>Gn R1.o F1.o (by omega) Nl Nl Nl Nl (I 0) (I 0) (I 0) (V:=V))
   go_wp2
   obtain⟨q1,q2,q3⟩:=h7.out _ rfl
   obtain⟨y0,y1,y2,y3,y4⟩:=B.c5 q1
   obtain⟨z0,z1⟩:=B.c2 q2
   refine bodyPost_ret (v:=.tuple #[.agg #[Nl,Nl,Nl,Nl,I 0],.agg #[I 0,I 0],I C]) (by simp[results,Tryz.results28,go_sem,y0,y1,y2,y3,y4,z0,z1]) rfl ?_
   exact bw.o _ (Kp.below ck.o q3 ck.o.size (fun b e=>by rcases e with e | e <;> omega))
end KZ
namespace KL
open Go.RowKit GK KO
open KW (fu cI aJ eW dw qU)
open KZ (nZ ko kN)
open KY (dR)
structure tT (k:KM.Kn) (sp a n:Int) (j:Nat):Prop where
 sp:sp=(j:Int)
 lt:j<k.aj.length
 live:(KM.au k.aj j).live=true
 right:KM.aU k
 size:1<=n/\n<=8
 one:KM.mapped k j (a/16)
 two:KM.mapped k j (KM.bZ a n)
 lo:16<=a
 hi:a+n<=4096
end KL
end Go.Proofs.YtpgifpeohlllfaaGreat
