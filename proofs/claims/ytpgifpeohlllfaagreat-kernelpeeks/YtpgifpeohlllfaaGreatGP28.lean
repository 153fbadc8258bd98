import Derived.Test.YtpgifpeohlllfaaGreatGP00
import Derived.Test.YtpgifpeohlllfaaGreatGP27
import Derived.Test.YtpgifpeohlllfaaGreatGP18
set_option maxHeartbeats 20000000
set_option linter.unusedVariables false
set_option maxRecDepth 100000
set_option linter.unusedSimpArgs false
namespace Go.Proofs.YtpgifpeohlllfaaGreat
namespace KZ
open Go.RowKit GK KO
open FW (ai aC)
open KW (bE bD aI aU fe cO aH dH bQ kF eY b6 il)
open KS (Lc bO oD dm blk cT)
open KX (tN Held ids)
open KY (l4 fp cW nY)
def nk (k:KM.Kn) (sp a n way:Int):KM.Kn×ByteArray×(Int×Int)×Int:=if cW k sp n way [0,2]≠0 then (l8,⟨#[]⟩,(0,0),cW k sp n way [0,2]) else if (FM.eX (KM.aq k.aj sp.toNat).aA a n way).1≠0 then (l8,⟨#[]⟩,FM.eX (KM.aq k.aj sp.toNat).aA a n way,0) else ((KM.aM k sp.toNat a n way).2,KM.ud k sp.toNat a n way,(0,0),0)
theorem Oh (V:World):aU bQ 1 0 (V.alloc (.cells #[I 0,I 2] 3)) (some (Ad V.heap.size 0)) [0,2]:=fun _=>by
 have h:=B.new V #[I 0,I 2] 3
 refine⟨V.heap.size,0,rfl,B.isLt h,fun i hi j hj=>?_⟩
 obtain rfl:j=0:=by omega
 have hi:i<2:=hi
 rcases(show i=0∨i=1 by omega) with rfl | rfl
 · exact B.cell h 0 rfl
 · exact B.cell h 1 rfl
theorem LL (yw:l4) (k:KM.Kn) (a:fe) (sp ad n way:Int) (w:World) (hK:cO w a k) (hF:eY k) (hsp:M.fR sp) (had:M.fR ad) :
  Calls Tryz.prog 25 #[.agg (aH a k),I sp,I ad,I n,I way] w (dw w (nk k sp ad n way).1 [.string (nk k sp ad n way).2.1,.agg #[I (nk k sp ad n way).2.2.1.1,I (nk k sp ad n way).2.2.1.2],I (nk k sp ad n way).2.2.2]):=by
 obtain⟨Z5,S8⟩:∃Z5:Array Value,Z5=#[Nl,Nl,Nl,Nl,I 0]:=⟨_,rfl⟩
 obtain⟨WA,dx⟩:=ex (((w.alloc (.cells (aH a k) 27)).alloc (.cells #[Nl,Nl,Nl,Nl,I 0] 27)).alloc (.cells #[I 0,I 0] 36))
 have hb0:Below w.heap.size w WA:=by rw[dx];exact(((Below.refl _ _).alloc (Nat.le_refl _) _).alloc (by simp) _).alloc (by simp;omega) _
 have kb:WA.heap[w.heap.size]?=some (.cells (aH a k) 27 (0,0)):=by rw[dx];exact B.alloc (B.alloc (B.new w _ _) _) _
 have rb:WA.heap[w.heap.size+1]?=some (.cells #[Nl,Nl,Nl,Nl,I 0] 27 (0,0)):=by
  have:=B.alloc (B.new (w.alloc (.cells (aH a k) 27)) #[Nl,Nl,Nl,Nl,I 0] 27) (.cells #[I 0,I 0] 36)
  rw[World.size_alloc] at this
  rw[dx];exact this
 have fb:WA.heap[w.heap.size+1+1]?=some (.cells #[I 0,I 0] 36 (0,0)):=by
  have:=B.new ((w.alloc (.cells (aH a k) 27)).alloc (.cells #[Nl,Nl,Nl,Nl,I 0] 27)) #[I 0,I 0] 36
  rw[World.size_alloc,World.size_alloc] at this
  rw[dx];exact this
 have hsz:WA.heap.size=w.heap.size+3:=by rw[dx,World.size_alloc,World.size_alloc,World.size_alloc]
 obtain⟨WB,AZ⟩:=ex (WA.alloc (.cells #[I 0,I 2] 3))
 have hb1:Below w.heap.size w WB:=by rw[AZ];exact hb0.alloc hb0.size _
 have hrow:aU bQ 1 0 WB (some (Ad WA.heap.size 0)) [0,2]:=by rw[AZ];exact Oh WA
 have E1:WB.heap.size=w.heap.size+4:=by rw[AZ,World.size_alloc,hsz]
 have RB:Hid (∀V,Below WB.heap.size WB V->V.heap[w.heap.size+1]?=some (.cells #[Nl,Nl,Nl,Nl,I 0] 27 (0,0))):=fun V hb=>B.below (by rw[AZ];exact B.alloc rb _) hb (by omega)
 have FB:Hid (∀V,Below WB.heap.size WB V->V.heap[w.heap.size+1+1]?=some (.cells #[I 0,I 0] 36 (0,0))):=fun V hb=>B.below (by rw[AZ];exact B.alloc fb _) hb (by omega)
 have k0:WA.cell? (Ad w.heap.size 0)=some (.slice a.aS k.ak.length a.cS):=B.cell kb 0 rfl
 have k1:WA.cell? (Ad w.heap.size 1)=some (.slice a.aF k.frames.length a.cF):=B.cell kb 1 rfl
 have k2:WA.cell? (Ad w.heap.size 2)=some (.slice a.aL k.slots.length a.cL):=B.cell kb 2 rfl
 have k3:WA.cell? (Ad w.heap.size 3)=some (.slice a.aP k.aj.length a.cP):=B.cell kb 3 rfl
 have k4:WA.cell? (Ad w.heap.size 4)=some (I k.hand):=B.cell kb 4 rfl
 have eV:=ai dx
 have Tz:=ai AZ
 have aZ:=ai hb1
 by_cases c:cW k sp n way [0,2]=0
 · obtain⟨hlv,hn,U7⟩:=zB c
   obtain⟨hR,AO,hj,mv⟩:=KY.lI hlv
   obtain⟨j,Pj⟩:∃j:Nat,sp=(j:Int):=⟨sp.toNat,by omega⟩
   subst Pj
   rw[Int.toNat_natCast] at hj mv
   have pP:=ai (KY.wO yw k a (j:Int) n way [0,2] (some (Ad WA.heap.size 0)) 2 WB (hK.below hb1) hF hsp hrow (by simp) c)
   rw[show([0,2]:List Int).length=2 from rfl] at pP
   have zi:w.heap.size+1≠w.heap.size+1+1:=by omega
   have HLB:=ai (show w.heap.size+1+1<WB.heap.size by omega)
   by_cases hf:(FM.eX (KM.aq k.aj j).aA ad n way).1=0
   · obtain⟨Q8,hal,VS,hmap⟩:=KX.qN hn.1 hn.2 hf
     have jE:KM.mapped k j (ad/16):=by
      have:=hmap 0 (by omega) (by omega)
      rw[Int.add_zero] at this
      exact this
     have hm2:KM.mapped k j (KM.bT ad n):=by
      have:=hmap (n-1) (by omega) (by omega)
      unfold KM.bT
      rw[show ad+n-1=ad+(n-1) by omega]
      exact this
     have RH:=KM.m8 hR hj ad n way jE hm2
     have L9:=RH.kept.ak
     have hcc:=hR.c
     have Jd:0<(KM.aM k j ad n way).2.frames.length:=by rw[RH.kept.nf];omega
     have xe:(KM.aM k j ad n way).1.length<=2:=by
      rw[(KX.rq k j ad n way).2.2]
      unfold KX.pU
      split <;> omega
     have u7:∀m,m<(KM.aM k j ad n way).1.length->(KM.aM k j ad n way).1.getD m 0<(KM.aM k j ad n way).2.frames.length:=fun m hm=>by
      rw[RH.kept.nf]
      by_cases z:KM.bT ad n=ad/16
      · have e:(KM.aM k j ad n way).1=[(KM.cX k j ad way).1]:=by unfold KM.aM;rw[if_pos z]
        rw[e] at hm ⊢
        have hm:m<1:=hm
        obtain rfl:m=0:=by omega
        exact RH.one.2
      · have e:(KM.aM k j ad n way).1=[(KM.cX k j ad way).1,(KM.ia k j ad n way).1]:=by unfold KM.aM;rw[if_neg z]
        rw[e] at hm ⊢
        have hm:m<2:=hm
        rcases(show m=0∨m=1 by omega) with rfl | rfl
        · exact RH.one.2
        · exact(RH.two z).2
     have CT:∀m,m<(KM.aM k j ad n way).1.length->(KM.aD (KM.aM k j ad n way).2.frames ((KM.aM k j ad n way).1.getD m 0)).data.size<=1000:=fun m hm=>by
      have hi:=u7 m hm
      by_cases z:(KM.aD (KM.aM k j ad n way).2.frames ((KM.aM k j ad n way).1.getD m 0)).refs=0
      · have:=(RH.right.mO _ hi).zero ((RH.right.mO _ hi).nil z)
        rw[this]
        show(0:Nat)<=1000
        omega
      · have:=(RH.right.mO _ hi).size ((RH.right.mO _ hi).ne z)
        omega
     have Ta:KM.Uh (KM.cK k j) ad n:=⟨KM.kV hR hj jE,KM.kV hR hj hm2⟩
     have hfit:=KM.wY Ta hn.1 hn.2
     have hjs:=KM.pF Ta hn.1 hn.2
     have uk:=KM.qC hR hj ad n way jE hm2
     have TM:Hid (∀V,Calls Tryz.prog 63 #[.string (KM.eK (KM.aM k j ad n way).2.frames (KM.aM k j ad n way).1 (KM.aM k j ad n way).1.length),I (((ad%16).toNat:Nat):Int),I n] V fun e w'=>e=.returned (.tuple #[.string (KM.ud k j ad n way),I 0])/\Below V.heap.size V w'):=fun V=>by
      have:=CW.wL (KM.eK (KM.aM k j ad n way).2.frames (KM.aM k j ad n way).1 (KM.aM k j ad n way).1.length) (ad%16).toNat n.toNat V (by rw[uk];split at hjs <;> omega) (by rw[uk];omega)
      rw[show((n.toNat:Nat):Int)=n by omega] at this
      exact this
     have SJ:ad.tmod 16=(((ad%16).toNat:Nat):Int):=by
      rw[Int.tmod_eq_emod_of_nonneg (by omega)]
      omega
     have hA:nk k (j:Int) ad n way=((KM.aM k j ad n way).2,KM.ud k j ad n way,(0,0),0):=by
      unfold nk
      rw[if_neg (fun x=>x c),Int.toNat_natCast,if_neg (fun x=>x hf)]
     rw[hA]
     have l5:Hid (∀V S mb hs,KM.Same k.ak hs->Km WB.heap.size mb 104 (fp k) V S (KM.bl k hs)->Below w.heap.size w V->V.heap[w.heap.size+1]?=some (.cells #[Nl,Nl,Nl,Nl,I 0] 27 (0,0))->V.heap[w.heap.size+1+1]?=some (.cells #[I 0,I 0] 36 (0,0))->Calls Tryz.prog 52 #[.pointer (some (Ad mb 0)),I (j:Int),I ad,I n,I way] V fun e w'=>∃av nv cv aS nS cS aF nF cF aL nL cL aP nP cP hd,e=.returned (.tuple #[.slice av nv cv,.agg #[I 0,I 0]])/\w'.cell? (Ad mb 0)=some (.slice aS nS cS)/\w'.cell? (Ad mb 1)=some (.slice aF nF cF)/\w'.cell? (Ad mb 2)=some (.slice aL nL cL)/\w'.cell? (Ad mb 3)=some (.slice aP nP cP)/\w'.cell? (Ad mb 4)=some (I hd)/\mb<w'.heap.size/\(∀V',Below w'.heap.size w' V'->Calls Tryz.prog 64 #[.pointer (some (Ad mb 0)),.slice av nv cv] V' fun e w''=>e=.returned (.string (KM.eK (KM.aM k j ad n way).2.frames (KM.aM k j ad n way).1 (KM.aM k j ad n way).1.length))/\w''=V')/\w'.heap[w.heap.size+1]?=some (.cells #[Nl,Nl,Nl,Nl,I 0] 27 (0,0))/\w'.heap[w.heap.size+1+1]?=some (.cells #[I 0,I 0] 36 (0,0))/\Below w.heap.size w w'/\(∀U,Kp (fun b=>b=w.heap.size+1∨b=w.heap.size+1+1) w' U->dw w (KM.aM k j ad n way).2 [.string (KM.ud k j ad n way),.agg #[I 0,I 0],I 0] (.returned (.tuple #[.agg #[.slice aS nS cS,.slice aF nF cF,.slice aL nL cL,.slice aP nP cP,I hd],.string (KM.ud k j ad n way),.agg #[I 0,I 0],I 0])) U)):=fun V S mb hs hsame hV VR Pb Ue=>by
      have hR':=hR.bl hsame
      refine(KX.wH (KM.bl k hs) S V j ad n way hV hR' hj had hn hf (KY.Dh hR.dU hsame)).mono fun e w' ⟨av,cv,S',e1,lK,hk',hc'⟩=>?_
      rw[KM.tW hR hj jE hsame] at hk' e1 lK
      have tv:∀b,b<WB.heap.size->S.lab b=.no:=fun b hb=>Classical.not_not.1 fun x=>by have:=(hV.mW b x).1;omega
      have Bu:=HLB.o
      obtain⟨aS,cS,eS,_⟩:=aR hk'.ak
      obtain⟨aF,cF,eF,_⟩:=aR hk'.frames
      obtain⟨aL,cL,eL,_⟩:=aR hk'.slots
      obtain⟨aP,cP,eP,_⟩:=aR hk'.aj
      have c0:=hk'.c0
      have c1:=hk'.c1
      have c2:=hk'.c2
      have c3:=hk'.c3
      rw[eS] at c0
      rw[eF] at c1
      rw[eL] at c2
      rw[eP] at c3
      have hbl:Below w.heap.size w w':=Kp.below VR hc'.kp VR.size (fun b hb=>by have:=(hV.mW b hb).1;omega)
      refine⟨av,_,cv,aS,_,cS,aF,_,cF,aL,_,cL,aP,_,cP,_,e1,c0,c1,c2,c3,hk'.c4,hk'.lt,fun V' hb'=>?_,hc'.keep Pb (tv _ (by omega)),hc'.keep Ue (tv _ Bu),hbl,fun U hU=>⟨S',hs,by rw[L9];exact hsame,by rw[eS,eF,eL,eP];rfl,?_,?_⟩⟩
      · exact KX.CO (KM.bl (KM.aM k j ad n way).2 hs) S' V' (KM.aM k j ad n way).1 av cv (hk'.below hb') (lK.ch (Ch.below hb')) (fun m hm=>u7 m hm) xe (fun m hm=>CT m hm) Jd
      · exact(hk'.toKr.kp hU (fun b hb e=>hb (hc'.no b (by have:=hc'.kp.size;have:=B.isLt Pb;have:=B.isLt Ue;rcases e with e | e <;> omega) (tv b (by rcases e with e | e <;> omega))))).mono (by have:=hb1.size;omega)
      · exact Kp.below hbl hU hbl.size (fun b e=>by rcases e with e | e <;> omega)
     obtain⟨P,hP⟩:=ex (dw w (KM.aM k j ad n way).2 [.string (KM.ud k j ad n way),.agg #[I 0,I 0],I 0])
     rw[<- hP] at l5
     obtain⟨LD,Wb⟩:=ex (KM.ud k j ad n way)
     rw[<- Wb] at l5 TM
     obtain⟨JD,Rc⟩:=ex (KM.eK (KM.aM k j ad n way).2.frames (KM.aM k j ad n way).1 (KM.aM k j ad n way).1.length)
     rw[<- Rc] at l5 TM
     obtain⟨md,Vr⟩:=ex ((ad%16).toNat)
     rw[<- Vr] at TM SJ
     show Calls _ _ _ _ (dw w (KM.aM k j ad n way).2 [.string (KM.ud k j ad n way),.agg #[I 0,I 0],I 0])
     rw[<- hP]
     have ow:Hid (Calls Tryz.prog 51 #[.agg (aH a k),I (j:Int),I n,I way,.slice (some (Ad WA.heap.size 0)) 2 2] WB fun e w'=>∃mb S hs,e=.returned (.tuple #[.pointer (some (Ad mb 0)),I 0])/\KM.Same k.ak hs/\Km WB.heap.size mb 104 (fp k) w' S (KM.bl k hs)/\Below WB.heap.size WB w'):=pP.o
     unfold aH at ow eV ⊢
     clear hK hF hsp had hA c hP dx AZ hb0 hb1 kb rb fb hrow S8 hsz E1 pP hf Q8 hal VS hmap jE hm2 L9 hR hlv hn U7 hj mv AO RH hcc Jd xe u7 CT Ta hfit hjs uk Wb Rc Vr
     go_enter Tryz.func25,Tryz.ntmps25
     go_upto_region 1 with fail
     rw[<- eV.o]
     go_upto_region 7 with(first
      | (go_at_call 51;rw[<- Tz.o];refine ow.o.mono ?_;rintro e w1 ⟨mb,S1,hs1,rfl,hs2,hk1,hb1⟩;have bY:=ai (aZ.o.trans (hb1.mono aZ.o.size));have R1:=ai (RB.o _ hb1);have F1:=ai (FB.o _ hb1);have oC:=ai hk1;have jC:=ai hs2;clear hb1 hk1 hs2)
      | (go_at_call 52;refine(l5.o _ _ _ _ jC.o oC.o bY.o R1.o F1.o).mono ?_;rintro e w2 ⟨av,nv,cv,aS,nS,cS,aF,nF,cF,aL,nL,cL,aP,nP,cP,hd,rfl,m0,m1,m2,m3,m4,mU,hjo,hr2,hf2,hb2,hfin⟩;have HJO:=ai hjo;clear hjo;have R2:=ai hr2;have F2:=ai hf2;have dC:=ai hb2;have ky:=ai hfin;have X2:=ai (B.new w2 #[I 0,I 0] 36);obtain⟨x0,x1⟩:=B.c2 X2.o;clear hr2 hf2 hb2 hfin))
     have R3:=ai (B.alloc R2.o (.cells #[I 0,I 0] 36))
     have F3:=ai (B.alloc F2.o (.cells #[I 0,I 0] 36))
     have HA:=ai ((Below.refl w2.heap.size w2).alloc (Nat.le_refl _) (.cells #[I 0,I 0] 36))
     have p0:=(HA.o.cell (p:=(Ad mb 0)) mU).trans m0
     have p1:=(HA.o.cell (p:=(Ad mb 1)) mU).trans m1
     have p2:=(HA.o.cell (p:=(Ad mb 2)) mU).trans m2
     have p3:=(HA.o.cell (p:=(Ad mb 3)) mU).trans m3
     have p4:=(HA.o.cell (p:=(Ad mb 4)) mU).trans m4
     obtain⟨W3,hW3⟩:=ex (w2.alloc (.cells #[I 0,I 0] 36))
     rw[<- hW3] at R3 F3 HA p0 p1 p2 p3 p4 ⊢
     clear hW3 m0 m1 m2 m3 m4 x0 x1
     obtain⟨y0,y1,y2,y3,y4⟩:=B.c5 R3.o
     obtain⟨z0,z1⟩:=B.c2 F3.o
     have f0:=B.free R3.o 0
     have f1:=B.free R3.o 1
     have f2:=B.free R3.o 2
     have f3:=B.free R3.o 3
     have f4:=B.free R3.o 4
     have g0:=B.free F3.o 0
     have g1:=B.free F3.o 1
     have h7:=ai (fun V=>Em R3.o F3.o zi (.slice aS nS cS) (.slice aF nF cF) (.slice aL nL cL) (.slice aP nP cP) (I hd) (I 0) (I 0) (V:=V))
     go_wp2_with (first
      | (go_at_call 64;refine(HJO.o _ HA.o).mono ?_;rintro e w4 ⟨rfl,rfl⟩)
      | (go_at_call 63;refine(TM.o _).mono ?_;rintro e w5 ⟨rfl,rW⟩;have ql:=ai rW;have R5:=ai (B.below R3.o rW (B.isLt R3.o));have F5:=ai (B.below F3.o rW (B.isLt F3.o));have WV:mb<w4.heap.size:=Nat.lt_of_lt_of_le mU HA.o.size;have p0:=(rW.cell (p:=(Ad mb 0)) WV).trans p0;have p1:=(rW.cell (p:=(Ad mb 1)) WV).trans p1;have p2:=(rW.cell (p:=(Ad mb 2)) WV).trans p2;have p3:=(rW.cell (p:=(Ad mb 3)) WV).trans p3;have p4:=(rW.cell (p:=(Ad mb 4)) WV).trans p4;obtain⟨y0,y1,y2,y3,y4⟩:=B.c5 R5.o;obtain⟨z0,z1⟩:=B.c2 F5.o;have f0:=B.free R5.o 0;have f1:=B.free R5.o 1;have f2:=B.free R5.o 2;have f3:=B.free R5.o 3;have f4:=B.free R5.o 4;have g0:=B.free F5.o 0;have g1:=B.free F5.o 1;clear rW))
     have h7:=ai (fun V=>Em R5.o F5.o zi (.slice aS nS cS) (.slice aF nF cF) (.slice aL nL cL) (.slice aP nP cP) (I hd) (I 0) (I 0) (V:=V))
     obtain⟨q1,q2,q3⟩:=h7.out _ rfl
     obtain⟨y0,y1,y2,y3,y4⟩:=B.c5 q1
     obtain⟨z0,z1⟩:=B.c2 q2
     refine bodyPost_ret (v:=.tuple #[.agg #[.slice aS nS cS,.slice aF nF cF,.slice aL nL cL,.slice aP nP cP,I hd],.string LD,.agg #[I 0,I 0],I 0]) (by simp[results,Tryz.results25,go_sem,y0,y1,y2,y3,y4,z0,z1]) rfl ?_
     exact ky.o _ (((Kp.aW HA.o).trans (Kp.aW ql.o) (fun _ _ g=>g)).trans q3 (fun _ _ g=>g))
   · have hA:nk k (j:Int) ad n way=(l8,⟨#[]⟩,FM.eX (KM.aq k.aj j).aA ad n way,0):=by
      unfold nk
      rw[if_neg (fun x=>x c),Int.toNat_natCast,if_pos hf]
     rw[hA]
     obtain⟨FA,Tc⟩:=ex (FM.eX (KM.aq k.aj j).aA ad n way)
     have l5:Hid (∀V S mb hs,KM.Same k.ak hs->Km WB.heap.size mb 104 (fp k) V S (KM.bl k hs)->Calls Tryz.prog 52 #[.pointer (some (Ad mb 0)),I (j:Int),I ad,I n,I way] V fun e w'=>e=.returned (.tuple #[Nl,.agg #[I FA.1,I FA.2]])/\Below V.heap.size V w'):=fun V S mb hs hsame hV=>by
      rw[Tc]
      exact KX.tX (KM.bl k hs) S V j ad n way hV (hR.bl hsame) hj had hn hf
     rw[<- Tc] at hf ⊢
     have qY:(FA.1 != 0)=true:=by simpa using hf
     have ow:Hid (Calls Tryz.prog 51 #[.agg (aH a k),I (j:Int),I n,I way,.slice (some (Ad WA.heap.size 0)) 2 2] WB fun e w'=>∃mb S hs,e=.returned (.tuple #[.pointer (some (Ad mb 0)),I 0])/\KM.Same k.ak hs/\Km WB.heap.size mb 104 (fp k) w' S (KM.bl k hs)/\Below WB.heap.size WB w'):=pP.o
     obtain⟨f0,f1⟩:=FA
     simp only at l5 qY ⊢
     have bh:Hid (∀V,Below w.heap.size w V->dw w l8 [.string ⟨#[]⟩,.agg #[I f0,I f1],I 0] (.returned (.tuple #[.agg #[Nl,Nl,Nl,Nl,I 0],.string ⟨#[]⟩,.agg #[I f0,I f1],I 0])) V):=fun V hV=>ng _ hV
     obtain⟨P,hP⟩:=ex (dw w l8 [.string ⟨#[]⟩,.agg #[I f0,I f1],I 0])
     rw[<- hP] at bh ⊢
     unfold aH at ow eV ⊢
     clear hK hF hsp had hA c hP dx AZ hb0 hb1 kb rb fb hrow S8 hsz E1 pP hf hR hlv hn U7 hj mv AO Tc
     go_enter Tryz.func25,Tryz.ntmps25
     go_upto_region 1 with fail
     rw[<- eV.o]
     go_upto_region 6 with(first
      | (go_at_call 51;rw[<- Tz.o];refine ow.o.mono ?_;rintro e w1 ⟨mb,S1,hs1,rfl,hs2,hk1,hb1⟩;have bY:=ai (aZ.o.trans (hb1.mono aZ.o.size));have R1:=ai (RB.o _ hb1);have F1:=ai (FB.o _ hb1);have oC:=ai hk1;have jC:=ai hs2;clear hb1 hk1 hs2)
      | (go_at_call 52;refine(l5.o _ _ _ _ jC.o oC.o).mono ?_;rintro e w2 ⟨rfl,hb2⟩;have R2:=ai (B.below R1.o hb2 (B.isLt R1.o));have F2:=ai (B.below F1.o hb2 (B.isLt F1.o));have dC:=ai (bY.o.trans (hb2.mono bY.o.size));have X2:=ai (B.new w2 #[I f0,I f1] 36);obtain⟨x0,x1⟩:=B.c2 X2.o;clear hb2))
     have R3:=ai (B.alloc R2.o (.cells #[I f0,I f1] 36))
     have F3:=ai (B.alloc F2.o (.cells #[I f0,I f1] 36))
     have gN:=ai (dC.o.alloc dC.o.size (.cells #[I f0,I f1] 36))
     have hl2:=B.isLt R2.o
     have ZA:=B.isLt F2.o
     have yt:¬w2.heap.size=w.heap.size+1:=by omega
     have Pe:¬w2.heap.size=w.heap.size+1+1:=by omega
     obtain⟨W3,hW3⟩:=ex (w2.alloc (.cells #[I f0,I f1] 36))
     rw[<- hW3] at R3 F3 gN x0 x1 ⊢
     clear hW3
     obtain⟨y0,y1,y2,y3,y4⟩:=B.c5 R3.o
     obtain⟨z0,z1⟩:=B.c2 F3.o
     have e0:=B.free R3.o 0
     have e1:=B.free R3.o 1
     have e2:=B.free R3.o 2
     have e3:=B.free R3.o 3
     have e4:=B.free R3.o 4
     have g0:=B.free F3.o 0
     have g1:=B.free F3.o 1
     have h7:=ai (fun V=>Em R3.o F3.o zi Nl Nl Nl Nl (I 0) (I f0) (I f1) (V:=V))
     go_region
     go_wp2
     obtain⟨q1,q2,q3⟩:=h7.out _ rfl
     obtain⟨y0,y1,y2,y3,y4⟩:=B.c5 q1
     obtain⟨z0,z1⟩:=B.c2 q2
     refine bodyPost_ret (v:=.tuple #[.agg #[Nl,Nl,Nl,Nl,I 0],.string ⟨#[]⟩,.agg #[I f0,I f1],I 0]) (by simp[results,Tryz.results25,go_sem,y0,y1,y2,y3,y4,z0,z1]) rfl ?_
     exact bh.o _ (Kp.below gN.o (q3.trans (Kp.drew _ _) (fun _ _ g=>g)) gN.o.size (fun b e=>by rcases e with e | e <;> omega))
 · have hA:nk k sp ad n way=(l8,⟨#[]⟩,(0,0),cW k sp n way [0,2]):=by unfold nk;rw[if_pos c]
   rw[hA]
   have pP:=ai (KY.tY k a sp n way [0,2] (some (Ad WA.heap.size 0)) 2 WB (hK.below hb1) hF hsp hrow (by simp) c)
   rw[show([0,2]:List Int).length=2 from rfl] at pP
   obtain⟨C,hC⟩:=ex (cW k sp n way [0,2])
   rw[<- hC] at pP c ⊢
   have cb:(C != 0)=true:=by simpa using c
   have bh:Hid (∀V,Below w.heap.size w V->dw w l8 [.string ⟨#[]⟩,.agg #[I 0,I 0],I C] (.returned (.tuple #[.agg #[Nl,Nl,Nl,Nl,I 0],.string ⟨#[]⟩,.agg #[I 0,I 0],I C])) V):=fun V hV=>ng _ hV
   obtain⟨P,hP⟩:=ex (dw w l8 [.string ⟨#[]⟩,.agg #[I 0,I 0],I C])
   rw[<- hP] at bh ⊢
   unfold aH at pP eV ⊢
   clear hK hF hsp had hA hC c hP dx AZ hb0 hb1 kb rb fb hrow S8 hsz E1
   go_enter Tryz.func25,Tryz.ntmps25
   go_upto_region 1 with fail
   rw[<- eV.o]
   go_upto_region 3 with(go_at_call 51;rw[<- Tz.o];refine pP.o.mono ?_;rintro e w1 ⟨rfl,hb1⟩;have bY:=ai (aZ.o.trans (hb1.mono aZ.o.size));have R1:=ai (RB.o _ hb1);have F1:=ai (FB.o _ hb1);clear hb1)
   obtain⟨y0,y1,y2,y3,y4⟩:=B.c5 R1.o
   obtain⟨z0,z1⟩:=B.c2 F1.o
   have f0:=B.free R1.o 0
   have f1:=B.free R1.o 1
   have f2:=B.free R1.o 2
   have f3:=B.free R1.o 3
   have f4:=B.free R1.o 4
   have g0:=B.free F1.o 0
   have g1:=B.free F1.o 1
   have h7:=ai (fun V=>Em R1.o F1.o (by omega) Nl Nl Nl Nl (I 0) (I 0) (I 0) (V:=V))
   go_wp2
   obtain⟨q1,q2,q3⟩:=h7.out _ rfl
   obtain⟨y0,y1,y2,y3,y4⟩:=B.c5 q1
   obtain⟨z0,z1⟩:=B.c2 q2
   refine bodyPost_ret (v:=.tuple #[.agg #[Nl,Nl,Nl,Nl,I 0],.string ⟨#[]⟩,.agg #[I 0,I 0],I C]) (by simp[results,Tryz.results25,go_sem,y0,y1,y2,y3,y4,z0,z1]) rfl ?_
   exact bh.o _ (Kp.below bY.o q3 bY.o.size (fun b e=>by rcases e with e | e <;> omega))
def jH (k:KM.Kn) (sp a:Int) (d:ByteArray):KM.Kn×(Int×Int)×Int:=if cW k sp d.size 1 [1]≠0 then (l8,(0,0),cW k sp d.size 1 [1]) else if (FM.eX (KM.aq k.aj sp.toNat).aA a d.size 1).1≠0 then (l8,FM.eX (KM.aq k.aj sp.toNat).aA a d.size 1,0) else (KM.oK k sp.toNat a d,(0,0),0)
theorem Aq (V:World):aU bQ 1 0 (V.alloc (.cells #[I 1] 3)) (some (Ad V.heap.size 0)) [1]:=fun _=>by
 have h:=B.new V #[I 1] 3
 refine⟨V.heap.size,0,rfl,B.isLt h,fun i hi j hj=>?_⟩
 obtain rfl:j=0:=by omega
 have hi:i<1:=hi
 obtain rfl:i=0:=by omega
 exact B.cell h 0 rfl
theorem yN (yw:l4) (k:KM.Kn) (a:fe) (sp ad:Int) (d:ByteArray) (w:World) (hK:cO w a k) (hF:eY k) (hsp:M.fR sp) (had:M.fR ad) :
  Calls Tryz.prog 28 #[.agg (aH a k),I sp,I ad,.string d] w (dw w (jH k sp ad d).1 [.agg #[I (jH k sp ad d).2.1.1,I (jH k sp ad d).2.1.2],I (jH k sp ad d).2.2]):=by
 obtain⟨Z5,S8⟩:∃Z5:Array Value,Z5=#[Nl,Nl,Nl,Nl,I 0]:=⟨_,rfl⟩
 obtain⟨WA,dx⟩:=ex (((w.alloc (.cells (aH a k) 27)).alloc (.cells #[Nl,Nl,Nl,Nl,I 0] 27)).alloc (.cells #[I 0,I 0] 36))
 have hb0:Below w.heap.size w WA:=by rw[dx];exact(((Below.refl _ _).alloc (Nat.le_refl _) _).alloc (by simp) _).alloc (by simp;omega) _
 have kb:WA.heap[w.heap.size]?=some (.cells (aH a k) 27 (0,0)):=by rw[dx];exact B.alloc (B.alloc (B.new w _ _) _) _
 have rb:WA.heap[w.heap.size+1]?=some (.cells #[Nl,Nl,Nl,Nl,I 0] 27 (0,0)):=by
  have:=B.alloc (B.new (w.alloc (.cells (aH a k) 27)) #[Nl,Nl,Nl,Nl,I 0] 27) (.cells #[I 0,I 0] 36)
  rw[World.size_alloc] at this
  rw[dx];exact this
 have fb:WA.heap[w.heap.size+1+1]?=some (.cells #[I 0,I 0] 36 (0,0)):=by
  have:=B.new ((w.alloc (.cells (aH a k) 27)).alloc (.cells #[Nl,Nl,Nl,Nl,I 0] 27)) #[I 0,I 0] 36
  rw[World.size_alloc,World.size_alloc] at this
  rw[dx];exact this
 have hsz:WA.heap.size=w.heap.size+3:=by rw[dx,World.size_alloc,World.size_alloc,World.size_alloc]
 obtain⟨WB,AZ⟩:=ex (WA.alloc (.cells #[I 1] 3))
 have hb1:Below w.heap.size w WB:=by rw[AZ];exact hb0.alloc hb0.size _
 have hrow:aU bQ 1 0 WB (some (Ad WA.heap.size 0)) [1]:=by rw[AZ];exact Aq WA
 have E1:WB.heap.size=w.heap.size+4:=by rw[AZ,World.size_alloc,hsz]
 have RB:Hid (∀V,Below WB.heap.size WB V->V.heap[w.heap.size+1]?=some (.cells #[Nl,Nl,Nl,Nl,I 0] 27 (0,0))):=fun V hb=>B.below (by rw[AZ];exact B.alloc rb _) hb (by omega)
 have FB:Hid (∀V,Below WB.heap.size WB V->V.heap[w.heap.size+1+1]?=some (.cells #[I 0,I 0] 36 (0,0))):=fun V hb=>B.below (by rw[AZ];exact B.alloc fb _) hb (by omega)
 have k0:WA.cell? (Ad w.heap.size 0)=some (.slice a.aS k.ak.length a.cS):=B.cell kb 0 rfl
 have k1:WA.cell? (Ad w.heap.size 1)=some (.slice a.aF k.frames.length a.cF):=B.cell kb 1 rfl
 have k2:WA.cell? (Ad w.heap.size 2)=some (.slice a.aL k.slots.length a.cL):=B.cell kb 2 rfl
 have k3:WA.cell? (Ad w.heap.size 3)=some (.slice a.aP k.aj.length a.cP):=B.cell kb 3 rfl
 have k4:WA.cell? (Ad w.heap.size 4)=some (I k.hand):=B.cell kb 4 rfl
 have eV:=ai dx
 have Tz:=ai AZ
 have aZ:=ai hb1
 by_cases c:cW k sp (d.size:Int) 1 [1]=0
 · obtain⟨hlv,hn,U7⟩:=zB c
   obtain⟨hR,AO,hj,mv⟩:=KY.lI hlv
   obtain⟨j,Pj⟩:∃j:Nat,sp=(j:Int):=⟨sp.toNat,by omega⟩
   subst Pj
   rw[Int.toNat_natCast] at hj mv
   have pP:=ai (KY.wO yw k a (j:Int) (d.size:Int) 1 [1] (some (Ad WA.heap.size 0)) 1 WB (hK.below hb1) hF hsp hrow (by simp) c)
   rw[show([1]:List Int).length=1 from rfl] at pP
   have zi:w.heap.size+1≠w.heap.size+1+1:=by omega
   have HLB:=ai (show w.heap.size+1+1<WB.heap.size by omega)
   by_cases hf:(FM.eX (KM.aq k.aj j).aA ad (d.size:Int) 1).1=0
   · obtain⟨Q8,hal,VS,hmap⟩:=KX.qN hn.1 hn.2 hf
     have jE:KM.mapped k j (ad/16):=by
      have:=hmap 0 (by omega) (by omega)
      rw[Int.add_zero] at this
      exact this
     have hm2:KM.mapped k j (KM.bT ad (d.size:Int)):=by
      have:=hmap ((d.size:Int)-1) (by omega) (by omega)
      unfold KM.bT
      rw[show ad+(d.size:Int)-1=ad+((d.size:Int)-1) by omega]
      exact this
     have RH:=KM.m8 hR hj ad (d.size:Int) 1 jE hm2
     have L9:=RH.kept.ak
     have hcc:=hR.c
     have Jd:0<(KM.aM k j ad (d.size:Int) 1).2.frames.length:=by rw[RH.kept.nf];omega
     have xe:(KM.aM k j ad (d.size:Int) 1).1.length<=2:=by
      rw[(KX.rq k j ad (d.size:Int) 1).2.2]
      unfold KX.pU
      split <;> omega
     have u7:∀m,m<(KM.aM k j ad (d.size:Int) 1).1.length->(KM.aM k j ad (d.size:Int) 1).1.getD m 0<(KM.aM k j ad (d.size:Int) 1).2.frames.length:=fun m hm=>by
      rw[RH.kept.nf]
      by_cases z:KM.bT ad (d.size:Int)=ad/16
      · have e:(KM.aM k j ad (d.size:Int) 1).1=[(KM.cX k j ad 1).1]:=by unfold KM.aM;rw[if_pos z]
        rw[e] at hm ⊢
        have hm:m<1:=hm
        obtain rfl:m=0:=by omega
        exact RH.one.2
      · have e:(KM.aM k j ad (d.size:Int) 1).1=[(KM.cX k j ad 1).1,(KM.ia k j ad (d.size:Int) 1).1]:=by unfold KM.aM;rw[if_neg z]
        rw[e] at hm ⊢
        have hm:m<2:=hm
        rcases(show m=0∨m=1 by omega) with rfl | rfl
        · exact RH.one.2
        · exact(RH.two z).2
     have CT:∀m,m<(KM.aM k j ad (d.size:Int) 1).1.length->(KM.aD (KM.aM k j ad (d.size:Int) 1).2.frames ((KM.aM k j ad (d.size:Int) 1).1.getD m 0)).data.size<=1000:=fun m hm=>by
      have hi:=u7 m hm
      by_cases z:(KM.aD (KM.aM k j ad (d.size:Int) 1).2.frames ((KM.aM k j ad (d.size:Int) 1).1.getD m 0)).refs=0
      · have:=(RH.right.mO _ hi).zero ((RH.right.mO _ hi).nil z)
        rw[this]
        show(0:Nat)<=1000
        omega
      · have:=(RH.right.mO _ hi).size ((RH.right.mO _ hi).ne z)
        omega
     have Ta:KM.Uh (KM.cK k j) ad (d.size:Int):=⟨KM.kV hR hj jE,KM.kV hR hj hm2⟩
     have hfit:=KM.wY Ta hn.1 hn.2
     have hjs:=KM.pF Ta hn.1 hn.2
     have uk:=KM.qC hR hj ad (d.size:Int) 1 jE hm2
     have ZC:=hjs
     have Zz:(CL.over (KM.eK (KM.aM k j ad (d.size:Int) 1).2.frames (KM.aM k j ad (d.size:Int) 1).1 (KM.aM k j ad (d.size:Int) 1).1.length) (ad%16).toNat d).size=(KM.p8 (KM.cK k j) ad (d.size:Int)).size:=by
      rw[uk]
      exact KM.nb _ _ _ (by omega)
     have hpl:(KM.aM k j ad (d.size:Int) 1).1.length*16=(KM.p8 (KM.cK k j) ad (d.size:Int)).size:=by
      rw[(KX.rq k j ad (d.size:Int) 1).2.2]
      unfold KX.pU
      split at hjs <;> rename_i z
      · rw[if_pos z];omega
      · rw[if_neg z];omega
     have ZV:(KM.p8 (KM.cK k j) ad (d.size:Int)).size<=32:=by split at hjs <;> omega
     have Ka:Hid (∀V,Calls Tryz.prog 65 #[.string (KM.eK (KM.aM k j ad (d.size:Int) 1).2.frames (KM.aM k j ad (d.size:Int) 1).1 (KM.aM k j ad (d.size:Int) 1).1.length),I (((ad%16).toNat:Nat):Int),.string d] V fun e w'=>e=.returned (.tuple #[.string (CL.over (KM.eK (KM.aM k j ad (d.size:Int) 1).2.frames (KM.aM k j ad (d.size:Int) 1).1 (KM.aM k j ad (d.size:Int) 1).1.length) (ad%16).toNat d),I 0])/\Below V.heap.size V w'):=fun V=>CW.AA _ d (ad%16).toNat V (by rw[uk];omega) (by rw[uk];omega)
     have SJ:ad.tmod 16=(((ad%16).toNat:Nat):Int):=by
      rw[Int.tmod_eq_emod_of_nonneg (by omega)]
      omega
     have hST:=KM.Ia hR hj ad d hn.1 hn.2 jE hm2
     have hsk:=hST.ak
     have hA:jH k (j:Int) ad d=(KM.oK k j ad d,(0,0),0):=by
      unfold jH
      rw[if_neg (fun x=>x c),Int.toNat_natCast,if_neg (fun x=>x hf)]
     rw[hA]
     have l5:Hid (∀V S mb hs,KM.Same k.ak hs->Km WB.heap.size mb 104 (fp k) V S (KM.bl k hs)->Below w.heap.size w V->V.heap[w.heap.size+1]?=some (.cells #[Nl,Nl,Nl,Nl,I 0] 27 (0,0))->V.heap[w.heap.size+1+1]?=some (.cells #[I 0,I 0] 36 (0,0))->Calls Tryz.prog 52 #[.pointer (some (Ad mb 0)),I (j:Int),I ad,I (d.size:Int),I 1] V fun e w'=>∃av nv cv,e=.returned (.tuple #[.slice av nv cv,.agg #[I 0,I 0]])/\(∀V',Below w'.heap.size w' V'->Calls Tryz.prog 64 #[.pointer (some (Ad mb 0)),.slice av nv cv] V' fun e w''=>e=.returned (.string (KM.eK (KM.aM k j ad (d.size:Int) 1).2.frames (KM.aM k j ad (d.size:Int) 1).1 (KM.aM k j ad (d.size:Int) 1).1.length))/\w''=V')/\(∀V',Below w'.heap.size w' V'->Calls Tryz.prog 66 #[.pointer (some (Ad mb 0)),.slice av nv cv,.string (CL.over (KM.eK (KM.aM k j ad (d.size:Int) 1).2.frames (KM.aM k j ad (d.size:Int) 1).1 (KM.aM k j ad (d.size:Int) 1).1.length) (ad%16).toNat d)] V' fun e w''=>∃aS nS cS aF nF cF aL nL cL aP nP cP hd,e=.returned (.tuple #[])/\w''.cell? (Ad mb 0)=some (.slice aS nS cS)/\w''.cell? (Ad mb 1)=some (.slice aF nF cF)/\w''.cell? (Ad mb 2)=some (.slice aL nL cL)/\w''.cell? (Ad mb 3)=some (.slice aP nP cP)/\w''.cell? (Ad mb 4)=some (I hd)/\w''.heap[w.heap.size+1]?=some (.cells #[Nl,Nl,Nl,Nl,I 0] 27 (0,0))/\w''.heap[w.heap.size+1+1]?=some (.cells #[I 0,I 0] 36 (0,0))/\(∀U,Kp (fun b=>b=w.heap.size+1∨b=w.heap.size+1+1) w'' U->dw w (KM.oK k j ad d) [.agg #[I 0,I 0],I 0] (.returned (.tuple #[.agg #[.slice aS nS cS,.slice aF nF cF,.slice aL nL cL,.slice aP nP cP,I hd],.agg #[I 0,I 0],I 0])) U))):=fun V S mb hs hsame hV VR Pb Ue=>by
      have hR':=hR.bl hsame
      refine(KX.wH (KM.bl k hs) S V j ad (d.size:Int) 1 hV hR' hj had hn hf (KY.Dh hR.dU hsame)).mono fun e w' ⟨av,cv,S',e1,lK,hk',hc'⟩=>?_
      rw[KM.tW hR hj jE hsame] at hk' e1 lK
      have tv:∀b,b<WB.heap.size->S.lab b=.no:=fun b hb=>Classical.not_not.1 fun x=>by have:=(hV.mW b x).1;omega
      have Bu:=HLB.o
      have hbl:Below w.heap.size w w':=Kp.below VR hc'.kp VR.size (fun b hb=>by have:=(hV.mW b hb).1;omega)
      have Bt:w.heap.size+1<w'.heap.size:=Nat.lt_of_lt_of_le (B.isLt Pb) hc'.kp.size
      have hl2:w.heap.size+1+1<w'.heap.size:=Nat.lt_of_lt_of_le (B.isLt Ue) hc'.kp.size
      have n1:S'.lab (w.heap.size+1)=.no:=hc'.no _ (B.isLt Pb) (tv _ (by omega))
      have n2:S'.lab (w.heap.size+1+1)=.no:=hc'.no _ (B.isLt Ue) (tv _ Bu)
      have hr':=hc'.keep Pb (tv _ (by omega))
      have hf':=hc'.keep Ue (tv _ Bu)
      refine⟨av,_,cv,e1,fun V' hb'=>?_,fun V' hb'=>?_⟩
      · exact KX.CO (KM.bl (KM.aM k j ad (d.size:Int) 1).2 hs) S' V' (KM.aM k j ad (d.size:Int) 1).1 av cv (hk'.below hb') (lK.ch (Ch.below hb')) (fun m hm=>u7 m hm) xe (fun m hm=>CT m hm) Jd
      · refine(KX.Lf (KM.bl (KM.aM k j ad (d.size:Int) 1).2 hs) S' V' (KM.aM k j ad (d.size:Int) 1).1 (CL.over (KM.eK (KM.aM k j ad (d.size:Int) 1).2.frames (KM.aM k j ad (d.size:Int) 1).1 (KM.aM k j ad (d.size:Int) 1).1.length) (ad%16).toNat d) av cv (hk'.below hb') (lK.ch (Ch.below hb')) (fun m hm=>u7 m hm) xe (by rw[Zz,hpl];exact Nat.le_refl _) (by rw[Zz];omega) Jd).mono fun e w'' ⟨e2,hk2,hc2⟩=>?_
        rw[KM.wM] at hk2
        have hk3:Km WB.heap.size mb 104 (fp k) w'' S' (KM.bl (KM.oK k j ad d) hs):=hk2
        clear hk2
        obtain⟨aS,cS,eS,_⟩:=aR hk3.ak
        obtain⟨aF,cF,eF,_⟩:=aR hk3.frames
        obtain⟨aL,cL,eL,_⟩:=aR hk3.slots
        obtain⟨aP,cP,eP,_⟩:=aR hk3.aj
        have c0:=hk3.c0
        have c1:=hk3.c1
        have c2:=hk3.c2
        have c3:=hk3.c3
        rw[eS] at c0
        rw[eF] at c1
        rw[eL] at c2
        rw[eP] at c3
        have Jh:Below w.heap.size w w'':=Kp.below (hbl.trans (hb'.mono hbl.size)) hc2.kp (Nat.le_trans hbl.size hb'.size) (fun b hb=>by have:=(hk'.mW b hb).1;have:=hb1.size;omega)
        refine⟨aS,_,cS,aF,_,cF,aL,_,cL,aP,_,cP,_,e2,c0,c1,c2,c3,hk3.c4,hc2.keep (B.below hr' hb' Bt) n1,hc2.keep (B.below hf' hb' hl2) n2,fun U hU=>⟨S',hs,by rw[hsk];exact hsame,by rw[eS,eF,eL,eP];rfl,?_,?_⟩⟩
        · exact(hk3.toKr.kp hU (fun b hb e => hb (by rcases e with e | e <;> rw[e] <;> first | exact n1 | exact n2))).mono (by have:=hb1.size;omega)
        · exact Kp.below Jh hU Jh.size (fun b e=>by rcases e with e | e <;> omega)
     obtain⟨P,hP⟩:=ex (dw w (KM.oK k j ad d) [.agg #[I 0,I 0],I 0])
     rw[<- hP] at l5
     obtain⟨LD,Wb⟩:=ex ((CL.over (KM.eK (KM.aM k j ad (d.size:Int) 1).2.frames (KM.aM k j ad (d.size:Int) 1).1 (KM.aM k j ad (d.size:Int) 1).1.length) (ad%16).toNat d))
     rw[<- Wb] at l5 Ka
     obtain⟨JD,Rc⟩:=ex ((KM.eK (KM.aM k j ad (d.size:Int) 1).2.frames (KM.aM k j ad (d.size:Int) 1).1 (KM.aM k j ad (d.size:Int) 1).1.length))
     rw[<- Rc] at l5 Ka
     obtain⟨md,Vr⟩:=ex ((ad%16).toNat)
     rw[<- Vr] at Ka SJ
     show Calls _ _ _ _ (dw w (KM.oK k j ad d) [.agg #[I 0,I 0],I 0])
     rw[<- hP]
     have ow:Hid (Calls Tryz.prog 51 #[.agg (aH a k),I (j:Int),I (d.size:Int),I 1,.slice (some (Ad WA.heap.size 0)) 1 1] WB fun e w'=>∃mb S hs,e=.returned (.tuple #[.pointer (some (Ad mb 0)),I 0])/\KM.Same k.ak hs/\Km WB.heap.size mb 104 (fp k) w' S (KM.bl k hs)/\Below WB.heap.size WB w'):=pP.o
     unfold aH at ow eV ⊢
     clear hK hF hsp had hA c hP dx AZ hb0 hb1 kb rb fb hrow S8 hsz E1 pP hf Q8 hal VS hmap jE hm2 L9 hR hlv hn U7 hj mv AO RH hcc Jd xe u7 CT Ta hfit hjs ZC uk Zz hpl ZV hST hsk Wb Rc Vr
     go_enter Tryz.func28,Tryz.ntmps28
     go_upto_region 1 with fail
     rw[<- eV.o]
     go_upto_region 7 with(first
      | (go_at_call 51;rw[<- Tz.o];refine ow.o.mono ?_;rintro e w1 ⟨mb,S1,hs1,rfl,hs2,hk1,hb1⟩;have bY:=ai (aZ.o.trans (hb1.mono aZ.o.size));have R1:=ai (RB.o _ hb1);have F1:=ai (FB.o _ hb1);have oC:=ai hk1;have jC:=ai hs2;clear hb1 hk1 hs2)
      | (go_at_call 52;refine(l5.o _ _ _ _ jC.o oC.o bY.o R1.o F1.o).mono ?_;rintro e w2 ⟨av,nv,cv,rfl,hjo,Vi⟩;have HJO:=ai hjo;have zR:=ai Vi;clear hjo Vi;have X2:=ai (B.new w2 #[I 0,I 0] 36);obtain⟨x0,x1⟩:=B.c2 X2.o))
     have HA:=ai ((Below.refl w2.heap.size w2).alloc (Nat.le_refl _) (.cells #[I 0,I 0] 36))
     obtain⟨W3,hW3⟩:=ex (w2.alloc (.cells #[I 0,I 0] 36))
     rw[<- hW3] at HA ⊢
     clear hW3 x0 x1 X2
     go_wp2_with (first
      | (go_at_call 64;refine(HJO.o _ HA.o).mono ?_;rintro e w4 ⟨rfl,rfl⟩)
      | (go_at_call 65;refine(Ka.o _).mono ?_;rintro e w5 ⟨rfl,rW⟩;have ql:=ai (HA.o.trans (rW.mono HA.o.size));clear rW)
      | (go_at_call 66;refine(zR.o _ ql.o).mono ?_;rintro e w6 ⟨aS,nS,cS,aF,nF,cF,aL,nL,cL,aP,nP,cP,hd,rfl,p0,p1,p2,p3,p4,r6,f6,hfin⟩;have R6:=ai r6;have F6:=ai f6;have ky:=ai hfin;clear r6 f6 hfin;obtain⟨y0,y1,y2,y3,y4⟩:=B.c5 R6.o;obtain⟨z0,z1⟩:=B.c2 F6.o;have f0:=B.free R6.o 0;have f1:=B.free R6.o 1;have f2:=B.free R6.o 2;have f3:=B.free R6.o 3;have f4:=B.free R6.o 4;have g0:=B.free F6.o 0;have g1:=B.free F6.o 1))
     have h7:=ai (fun V=>Em R6.o F6.o zi (.slice aS nS cS) (.slice aF nF cF) (.slice aL nL cL) (.slice aP nP cP) (I hd) (I 0) (I 0) (V:=V))
     obtain⟨q1,q2,q3⟩:=h7.out _ rfl
     obtain⟨y0,y1,y2,y3,y4⟩:=B.c5 q1
     obtain⟨z0,z1⟩:=B.c2 q2
     refine bodyPost_ret (v:=.tuple #[.agg #[.slice aS nS cS,.slice aF nF cF,.slice aL nL cL,.slice aP nP cP,I hd],.agg #[I 0,I 0],I 0]) (by simp[results,Tryz.results28,go_sem,y0,y1,y2,y3,y4,z0,z1]) rfl ?_
     exact ky.o _ q3
   · have hA:jH k (j:Int) ad d=(l8,FM.eX (KM.aq k.aj j).aA ad (d.size:Int) 1,0):=by
      unfold jH
      rw[if_neg (fun x=>x c),Int.toNat_natCast,if_pos hf]
     rw[hA]
     obtain⟨FA,Tc⟩:=ex (FM.eX (KM.aq k.aj j).aA ad (d.size:Int) 1)
     have l5:Hid (∀V S mb hs,KM.Same k.ak hs->Km WB.heap.size mb 104 (fp k) V S (KM.bl k hs)->Calls Tryz.prog 52 #[.pointer (some (Ad mb 0)),I (j:Int),I ad,I (d.size:Int),I 1] V fun e w'=>e=.returned (.tuple #[Nl,.agg #[I FA.1,I FA.2]])/\Below V.heap.size V w'):=fun V S mb hs hsame hV=>by
      rw[Tc]
      exact KX.tX (KM.bl k hs) S V j ad (d.size:Int) 1 hV (hR.bl hsame) hj had hn hf
     rw[<- Tc] at hf ⊢
     have qY:(FA.1 != 0)=true:=by simpa using hf
     have ow:Hid (Calls Tryz.prog 51 #[.agg (aH a k),I (j:Int),I (d.size:Int),I 1,.slice (some (Ad WA.heap.size 0)) 1 1] WB fun e w'=>∃mb S hs,e=.returned (.tuple #[.pointer (some (Ad mb 0)),I 0])/\KM.Same k.ak hs/\Km WB.heap.size mb 104 (fp k) w' S (KM.bl k hs)/\Below WB.heap.size WB w'):=pP.o
     obtain⟨f0,f1⟩:=FA
     simp only at l5 qY ⊢
     have bh:Hid (∀V,Below w.heap.size w V->dw w l8 [.agg #[I f0,I f1],I 0] (.returned (.tuple #[.agg #[Nl,Nl,Nl,Nl,I 0],.agg #[I f0,I f1],I 0])) V):=fun V hV=>ng _ hV
     obtain⟨P,hP⟩:=ex (dw w l8 [.agg #[I f0,I f1],I 0])
     rw[<- hP] at bh ⊢
     unfold aH at ow eV ⊢
     clear hK hF hsp had hA c hP dx AZ hb0 hb1 kb rb fb hrow S8 hsz E1 pP hf hR hlv hn U7 hj mv AO Tc
     go_enter Tryz.func28,Tryz.ntmps28
     go_upto_region 1 with fail
     rw[<- eV.o]
     go_upto_region 6 with(first
      | (go_at_call 51;rw[<- Tz.o];refine ow.o.mono ?_;rintro e w1 ⟨mb,S1,hs1,rfl,hs2,hk1,hb1⟩;have bY:=ai (aZ.o.trans (hb1.mono aZ.o.size));have R1:=ai (RB.o _ hb1);have F1:=ai (FB.o _ hb1);have oC:=ai hk1;have jC:=ai hs2;clear hb1 hk1 hs2)
      | (go_at_call 52;refine(l5.o _ _ _ _ jC.o oC.o).mono ?_;rintro e w2 ⟨rfl,hb2⟩;have R2:=ai (B.below R1.o hb2 (B.isLt R1.o));have F2:=ai (B.below F1.o hb2 (B.isLt F1.o));have dC:=ai (bY.o.trans (hb2.mono bY.o.size));have X2:=ai (B.new w2 #[I f0,I f1] 36);obtain⟨x0,x1⟩:=B.c2 X2.o;clear hb2))
     have R3:=ai (B.alloc R2.o (.cells #[I f0,I f1] 36))
     have F3:=ai (B.alloc F2.o (.cells #[I f0,I f1] 36))
     have gN:=ai (dC.o.alloc dC.o.size (.cells #[I f0,I f1] 36))
     have hl2:=B.isLt R2.o
     have ZA:=B.isLt F2.o
     have yt:¬w2.heap.size=w.heap.size+1:=by omega
     have Pe:¬w2.heap.size=w.heap.size+1+1:=by omega
     obtain⟨W3,hW3⟩:=ex (w2.alloc (.cells #[I f0,I f1] 36))
     rw[<- hW3] at R3 F3 gN x0 x1 ⊢
     clear hW3
     obtain⟨y0,y1,y2,y3,y4⟩:=B.c5 R3.o
     obtain⟨z0,z1⟩:=B.c2 F3.o
     have e0:=B.free R3.o 0
     have e1:=B.free R3.o 1
     have e2:=B.free R3.o 2
     have e3:=B.free R3.o 3
     have e4:=B.free R3.o 4
     have g0:=B.free F3.o 0
     have g1:=B.free F3.o 1
     have h7:=ai (fun V=>Em R3.o F3.o zi Nl Nl Nl Nl (I 0) (I f0) (I f1) (V:=V))
     go_region
     go_wp2
     obtain⟨q1,q2,q3⟩:=h7.out _ rfl
     obtain⟨y0,y1,y2,y3,y4⟩:=B.c5 q1
     obtain⟨z0,z1⟩:=B.c2 q2
     refine bodyPost_ret (v:=.tuple #[.agg #[Nl,Nl,Nl,Nl,I 0],.agg #[I f0,I f1],I 0]) (by simp[results,Tryz.results28,go_sem,y0,y1,y2,y3,y4,z0,z1]) rfl ?_
     exact bh.o _ (Kp.below gN.o (q3.trans (Kp.drew _ _) (fun _ _ g=>g)) gN.o.size (fun b e=>by rcases e with e | e <;> omega))
 · have hA:jH k sp ad d=(l8,(0,0),cW k sp (d.size:Int) 1 [1]):=by unfold jH;rw[if_pos c]
   rw[hA]
   have pP:=ai (KY.tY k a sp (d.size:Int) 1 [1] (some (Ad WA.heap.size 0)) 1 WB (hK.below hb1) hF hsp hrow (by simp) c)
   rw[show([1]:List Int).length=1 from rfl] at pP
   obtain⟨C,hC⟩:=ex (cW k sp (d.size:Int) 1 [1])
   rw[<- hC] at pP c ⊢
   have cb:(C != 0)=true:=by simpa using c
   have bh:Hid (∀V,Below w.heap.size w V->dw w l8 [.agg #[I 0,I 0],I C] (.returned (.tuple #[.agg #[Nl,Nl,Nl,Nl,I 0],.agg #[I 0,I 0],I C])) V):=fun V hV=>ng _ hV
   obtain⟨P,hP⟩:=ex (dw w l8 [.agg #[I 0,I 0],I C])
   rw[<- hP] at bh ⊢
   unfold aH at pP eV ⊢
   clear hK hF hsp had hA hC c hP dx AZ hb0 hb1 kb rb fb hrow S8 hsz E1
   go_enter Tryz.func28,Tryz.ntmps28
   go_upto_region 1 with fail
   rw[<- eV.o]
   go_upto_region 3 with(go_at_call 51;rw[<- Tz.o];refine pP.o.mono ?_;rintro e w1 ⟨rfl,hb1⟩;have bY:=ai (aZ.o.trans (hb1.mono aZ.o.size));have R1:=ai (RB.o _ hb1);have F1:=ai (FB.o _ hb1);clear hb1)
   obtain⟨y0,y1,y2,y3,y4⟩:=B.c5 R1.o
   obtain⟨z0,z1⟩:=B.c2 F1.o
   have f0:=B.free R1.o 0
   have f1:=B.free R1.o 1
   have f2:=B.free R1.o 2
   have f3:=B.free R1.o 3
   have f4:=B.free R1.o 4
   have g0:=B.free F1.o 0
   have g1:=B.free F1.o 1
   have h7:=ai (fun V=>Em R1.o F1.o (by omega) Nl Nl Nl Nl (I 0) (I 0) (I 0) (V:=V))
   go_wp2
   obtain⟨q1,q2,q3⟩:=h7.out _ rfl
   obtain⟨y0,y1,y2,y3,y4⟩:=B.c5 q1
   obtain⟨z0,z1⟩:=B.c2 q2
   refine bodyPost_ret (v:=.tuple #[.agg #[Nl,Nl,Nl,Nl,I 0],.agg #[I 0,I 0],I C]) (by simp[results,Tryz.results28,go_sem,y0,y1,y2,y3,y4,z0,z1]) rfl ?_
   exact bh.o _ (Kp.below bY.o q3 bY.o.size (fun b e=>by rcases e with e | e <;> omega))
end KZ
namespace KL
open Go.RowKit GK KO
open KW (fe cO aH eY b6 ko)
open KZ (nk jH l8)
open KY (cW)
structure sA (k:KM.Kn) (sp a n:Int) (j:Nat):Prop where
 sp:sp=(j:Int)
 lt:j<k.aj.length
 live:(KM.aq k.aj j).live=true
 right:KM.aQ k
 size:1<=n/\n<=8
 one:KM.mapped k j (a/16)
 two:KM.mapped k j (KM.bT a n)
 lo:16<=a
 hi:a+n<=4096
end KL
end Go.Proofs.YtpgifpeohlllfaaGreat
