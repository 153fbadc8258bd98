import Derived.Test.YtlgoihmkgaaemaaGreatGO24
set_option maxHeartbeats 20000000
set_option linter.unusedVariables false
set_option maxRecDepth 100000
set_option linter.unusedSimpArgs false
namespace Go.Proofs.YtlgoihmkgaaemaaGreat
open Go.RowKit
theorem rN (V:World) (A:Obj) (c:Array Value) (t:TypeId):((V.alloc A).alloc (.cells c t)).heap[V.heap.size+1]?=some (.cells c t (0,0)):=by
 grind [bB,World.size_alloc]
theorem abF (Hi:rO) (l:List aY) (hs:List bG) (en nf ns:Int) (va:Value) (ao:Option Addr) (cap:Nat) (w:World) (ha:gD w va l) (hf:dO l) (h:jB w ao hs) (Qd:rM hs) (hcap:hs.length<=cap) (he:cN en) :
  Calls Tryz.prog 30 #[.agg #[va,.slice ao hs.length cap,I en],I nf,I ns] w (cu w (sJ l hs en nf ns).1 [I (sJ l hs en nf ns).2]):=by
 obtain⟨aa,ca,H8,_⟩:=id ha;subst H8;obtain⟨WA,lu⟩:=ex ((w.alloc (.cells #[.slice aa l.length ca,.slice ao hs.length cap,I en] 25)).alloc (.cells #[Nl,Nl,Nl,Nl,I 0] 30));have hb0:Below w.heap.size w WA:=by simp_all [aK,qj]
 have kb:WA.heap[w.heap.size]?=some (.cells #[.slice aa l.length ca,.slice ao hs.length cap,I en] 25 (0,0)):=by grind [bk,bB]
 have rb:WA.heap[w.heap.size+1]?=some (.cells #[Nl,Nl,Nl,Nl,I 0] 30 (0,0)):=by grind [rN]
 have RB:Hid (∀V,Below WA.heap.size WA V->V.heap[w.heap.size+1]?=some (.cells #[Nl,Nl,Nl,Nl,I 0] 30 (0,0))):=fun V hb=>aN rb hb (aJ rb)
 have KB:Hid (∀V,Below WA.heap.size WA V->V.heap[w.heap.size]?=some (.cells #[.slice aa l.length ca,.slice ao hs.length cap,I en] 25 (0,0))):=fun V hb=>aN kb hb (aJ kb)
 have k0:WA.cell? (Ad w.heap.size 0)=some (.slice aa l.length ca):=aq kb 0 rfl;have k1:WA.cell? (Ad w.heap.size 1)=some (.slice ao hs.length cap):=aq kb 1 rfl;have k2:WA.cell? (Ad w.heap.size 2)=some (I en):=aq kb 2 rfl;have sB:=ai lu;have gB:=ai hb0;have hrl:=aJ rb;have Cv:=ai (VO l hs en (.slice aa l.length ca) ao cap WA (ha.below hb0) hf (h.below hb0) Qd hcap he);have HTT:Hid (∀V,Below WA.heap.size WA V->Calls Tryz.prog 70 #[.slice aa l.length ca] V fun e w'=>e=.returned (I (bh l))/\Below V.heap.size V w'):=fun V hV=>wQ l _ V (ha.below (hb0.trans (hV.mono hb0.size))) hf
 have Hu:Hid (∀(V:World) (C:Int),Below w.heap.size w V->cu w dX [I C] (.returned (.tuple #[.agg #[Nl,Nl,Nl,Nl,I 0],I C])) V):=fun V C hV=>qN _ hV
 unfold sJ;by_cases c:lG l hs en=0
 · rw[au (fun x=>x c)];have HCP:lG l hs en=0->3<=nf->nf<=64->0<=ns->ns<=512->Hid (∀(W:World) fb sb pb,Below WA.heap.size WA W->W.heap[fb]?=some (.cells (sI nf.toNat) 169 (0,0))->W.heap[sb]?=some (.cells (sH ns.toNat) 171 (0,0))->W.heap[pb]?=some (.cells #[.bool true,.slice aa l.length ca,Nl] 99 (0,0))->Calls Tryz.prog 79 #[.agg #[.slice ao hs.length cap,.slice (some (Ad fb 0)) nf.toNat nf.toNat,.slice (some (Ad sb 0)) ns.toNat ns.toNat,.slice (some (Ad pb 0)) 1 1,I 0]] W fun e w'=>∃aS nS cS aF nF cF aL nL cL aP nP cP,e=.returned (.agg #[.slice aS nS cS,.slice aF nF cF,.slice aL nL cL,.slice aP nP cP,I 0])/\Below WA.heap.size WA w'/\w'.heap[w.heap.size+1]?=some (.cells #[Nl,Nl,Nl,Nl,I 0] 30 (0,0))/\∀U,aC (fun b=>b=w.heap.size+1) w' U->cu w (nj l hs nf ns) [I 0] (.returned (.tuple #[.agg #[.slice aS nS cS,.slice aF nF cF,.slice aL nL cL,.slice aP nP cP,I 0],I 0])) U):=fun hc h3 h64 h0 avy W fb sb pb hW g1 g2 g3=>by
    have xf:Below w.heap.size w W:=hb0.trans (hW.mono hb0.size);have hk:=abI (cap:=cap) (ha.below xf) (h.below xf) g1 g2 g3;have hcl:=Hi _ _ W hk (V7 hc nf.toNat ns.toNat (by omega) (by omega));unfold bc at hcl;simp only[uS,AU] at hcl;refine hcl.mono fun e w' ⟨S,hs',hsame,e1,hr,hb⟩=>?_
    obtain⟨aS,nS,cS,eS⟩:∃b n d,S.vS=.slice b n d:=by obtain⟨b,d,e,_⟩:=bg hr.aM;exact⟨b,_,d,e⟩
    obtain⟨aF,nF,cF,eF⟩:∃b n d,S.vF=.slice b n d:=by obtain⟨b,d,e,_⟩:=bg hr.frames;exact⟨b,_,d,e⟩
    obtain⟨aL,nL,cL,eL⟩:∃b n d,S.vL=.slice b n d:=by obtain⟨b,d,e,_⟩:=bg hr.slots;exact⟨b,_,d,e⟩
    obtain⟨aP,nP,cP,eP⟩:∃b n d,S.vP=.slice b n d:=by obtain⟨b,d,e,_⟩:=bg hr.aj;exact⟨b,_,d,e⟩
    rw[eS,eF,eL,eP] at e1;have hbl:Below WA.heap.size WA w':=hW.trans (hb.mono hW.size);have amk:Below w.heap.size w w':=hb0.trans (hbl.mono hb0.size);have hWz:=hW.size;refine⟨aS,nS,cS,aF,nF,cF,aL,nL,cL,aP,nP,cP,e1,hbl,RB.o _ hbl,fun U hU=>⟨S,hs',hsame,by rw[eS,eF,eL,eP];rfl,(hr.kp hU (fun b hb e=>by have:=(hr.yL b hb).1;omega)).mono xf.size,aC.below amk hU amk.size (fun b e=>by omega)⟩⟩
   have aiB:=HCP c;rw[c] at Cv;clear HCP ha hf h Qd he hcap hb0 kb rb lu;by_cases c3:nf<3
   · rw[aB c3];have dB:=ai (fun V (h:Below w.heap.size w V)=>Hu.o V 9 h);obtain⟨P,hP⟩:=ex (cu w dX [I 9]);show Calls _ _ _ _ (cu w dX [I 9]);rw[<- hP] at dB ⊢;clear hP Hu aiB c HTT;go_enter Tryz.func30,Tryz.ntmps30;go_upto_region 1 with fail;rw[<- sB.o];go_upto_region 5 with(go_at_call 69;refine Cv.o.mono ?_;rintro e w1 ⟨rfl,hb1⟩;have sQ:=ai (gB.o.trans (hb1.mono gB.o.size));have R1:=ai (RB.o _ hb1);clear hb1)
     obtain⟨y0,y1,y2,y3,y4⟩:=iT R1.o;have f0:=aO R1.o 0;have f1:=aO R1.o 1;have f2:=aO R1.o 2;have f3:=aO R1.o 3;have f4:=aO R1.o 4;have h5:=ai (fun V=>l9 R1.o Nl Nl Nl Nl (I 0) (V:=V));go_wp2;obtain⟨r1,r2⟩:=h5.out _ rfl;obtain⟨y0,y1,y2,y3,y4⟩:=iT r1;refine bI (v:=.tuple #[.agg #[Nl,Nl,Nl,Nl,I 0],I 9]) (by simp[results,Tryz.results30,go_sem,y0,y1,y2,y3,y4]) rfl ?_;exact dB.o _ (aC.below sQ.o r2 sQ.o.size (fun b e=>by omega))
   rw[au c3];by_cases cr:nf>64∨ns<0∨ns>512
   · rw[aB cr];rcases(show 64<nf∨(¬64<nf/\ns<0)∨(¬64<nf/\¬ns<0/\512<ns) by omega) with g1 | ⟨g1,g2⟩ | ⟨g1,g2,g3⟩
     all_goals
      clear cr;have dB:=ai (fun V (h:Below w.heap.size w V)=>Hu.o V 3 h);obtain⟨P,hP⟩:=ex (cu w dX [I 3]);show Calls _ _ _ _ (cu w dX [I 3]);rw[<- hP] at dB ⊢;clear hP Hu aiB c HTT;go_enter Tryz.func30,Tryz.ntmps30;go_upto_region 1 with fail;rw[<- sB.o];go_upto_region 7 with(go_at_call 69;refine Cv.o.mono ?_;rintro e w1 ⟨rfl,hb1⟩;have sQ:=ai (gB.o.trans (hb1.mono gB.o.size));have R1:=ai (RB.o _ hb1);clear hb1)
      obtain⟨y0,y1,y2,y3,y4⟩:=iT R1.o;have f0:=aO R1.o 0;have f1:=aO R1.o 1;have f2:=aO R1.o 2;have f3:=aO R1.o 3;have f4:=aO R1.o 4;have h5:=ai (fun V=>l9 R1.o Nl Nl Nl Nl (I 0) (V:=V));go_wp2;obtain⟨r1,r2⟩:=h5.out _ rfl;obtain⟨y0,y1,y2,y3,y4⟩:=iT r1;refine bI (v:=.tuple #[.agg #[Nl,Nl,Nl,Nl,I 0],I 3]) (by simp[results,Tryz.results30,go_sem,y0,y1,y2,y3,y4]) rfl ?_;exact dB.o _ (aC.below sQ.o r2 sQ.o.size (fun b e=>by omega))
   rw[au cr];have g1:¬64<nf:=by omega
   have g2:¬ns<0:=by omega
   have g3:¬512<ns:=by omega
   have HNC:=aiB (by omega) (by omega) (by omega) (by omega);have e2:=fun V:World=>akg V nf (by omega) (by omega)
   have e3:=fun V:World=>akf V ns (by omega) (by omega)
   clear cr aiB c;have htb:=qO l;obtain⟨T1,hT1⟩:=ex (bh l);rw[<- hT1] at HTT htb ⊢;clear hT1;by_cases ct:T1>ns
   · rw[aB ct];have c2:ns<T1:=ct;have dB:=ai (fun V (h:Below w.heap.size w V)=>Hu.o V 8 h);obtain⟨P,hP⟩:=ex (cu w dX [I 8]);show Calls _ _ _ _ (cu w dX [I 8]);rw[<- hP] at dB ⊢;clear hP Hu HNC e2 e3 ct;go_enter Tryz.func30,Tryz.ntmps30;go_upto_region 1 with fail;rw[<- sB.o];go_upto_region 9 with(first
      | (go_at_call 69;refine Cv.o.mono ?_;rintro e w1 ⟨rfl,hb1⟩;have cH:=ai hb1;obtain⟨j0,j1,j2⟩:=GU (KB.o _ hb1);clear hb1)
      | (go_at_call 70;refine(HTT.o _ cH.o).mono ?_;rintro e w2 ⟨rfl,hb2⟩;have hb3:=cH.o.trans (hb2.mono cH.o.size);have sQ:=ai (gB.o.trans (hb3.mono gB.o.size));have R1:=ai (RB.o _ hb3);clear hb2 hb3))
     obtain⟨y0,y1,y2,y3,y4⟩:=iT R1.o;have f0:=aO R1.o 0;have f1:=aO R1.o 1;have f2:=aO R1.o 2;have f3:=aO R1.o 3;have f4:=aO R1.o 4;have h5:=ai (fun V=>l9 R1.o Nl Nl Nl Nl (I 0) (V:=V));go_wp2;obtain⟨r1,r2⟩:=h5.out _ rfl;obtain⟨y0,y1,y2,y3,y4⟩:=iT r1;refine bI (v:=.tuple #[.agg #[Nl,Nl,Nl,Nl,I 0],I 8]) (by simp[results,Tryz.results30,go_sem,y0,y1,y2,y3,y4]) rfl ?_;exact dB.o _ (aC.below sQ.o r2 sQ.o.size (fun b e=>by omega))
   rw[au ct];have c2:¬ns<T1:=ct;obtain⟨P,hP⟩:=ex (cu w (nj l hs nf ns) [I 0]);show Calls _ _ _ _ (cu w (nj l hs nf ns) [I 0]);rw[<- hP] at HNC ⊢;obtain⟨NF,hNF⟩:=ex nf.toNat
   obtain⟨NS,hNS⟩:=ex ns.toNat
   rw[<- hNF] at HNC;rw[<- hNS] at HNC;simp only[<- hNF] at e2;simp only[<- hNS] at e3;clear hP hNF hNS Hu ct;go_enter Tryz.func30,Tryz.ntmps30;go_upto_region 1 with fail;rw[<- sB.o];go_upto_region 10 with(first
    | (go_at_call 69;refine Cv.o.mono ?_;rintro e w1 ⟨rfl,hb1⟩;have cH:=ai hb1;obtain⟨j0,j1,j2⟩:=GU (KB.o _ hb1);clear hb1)
    | (go_at_call 70;refine(HTT.o _ cH.o).mono ?_;rintro e w2 ⟨rfl,hb2⟩;have gK:=ai (cH.o.trans (hb2.mono cH.o.size));clear hb2))
   clear j0 j1 j2 Cv HTT;have qc:Hid (∀V,Below WA.heap.size WA V->V.cell? (Ad w.heap.size 0)=some (.slice aa l.length ca)/\V.cell? (Ad w.heap.size 1)=some (.slice ao hs.length cap)):=fun V hV=>⟨aq (KB.o _ hV) 0 rfl,aq (KB.o _ hV) 1 rfl⟩
   refine xz (S:=fun V=>V.cell? (Ad w.heap.size 0)=some (.slice aa l.length ca)/\V.cell? (Ad w.heap.size 1)=some (.slice ao hs.length cap)) (z:=13) (by kernel_rfl) ?_;have nU:=ai (gK.o.drew);obtain⟨V0,hV0⟩:=ex w2.drew;rw[<- hV0] at nU ⊢;clear hV0;refine iK 0 (qc.o _ nU.o) ?_ ?_ ?_;rotate_left 1
   · intro V h;obtain⟨k0,k1⟩:=h;go_simp
     try with_reducible rfl
   refine iK 1 (qc.o _ nU.o) ?_ ?_ ?_;rotate_left 1
   · intro V h;obtain⟨k0,k1⟩:=h;go_simp
     try with_reducible rfl
   refine iK 2 (qc.o _ nU.o) ?_ ?_ ?_;rotate_left 1
   · intro V h;obtain⟨k0,k1⟩:=h;go_simp
     try with_reducible rfl
   refine iK 4 (qc.o _ nU.o) ?_ ?_ ?_;rotate_left 1
   · intro V h;obtain⟨k0,k1⟩:=h;go_simp
     try with_reducible rfl
   refine iK 6 (qc.o _ nU.o) ?_ ?_ ?_;rotate_left 1
   · intro V h;obtain⟨k0,k1⟩:=h;go_simp
     try with_reducible rfl
   refine iK 7 (qc.o _ nU.o) ?_ ?_ ?_;rotate_left 1
   · intro V h;obtain⟨k0,k1⟩:=h;go_simp
     try with_reducible rfl
   refine iK 8 (qc.o _ nU.o) ?_ ?_ ?_;rotate_left 1
   · intro V h;obtain⟨k0,k1⟩:=h;go_simp
     try with_reducible rfl
   refine eH (rs:=[3,5,9]) (by kernel_rfl) (by simp) ?_;refine bo.cons rfl (fun K hK=>?_) (bo.cons rfl (fun K hK=>?_) (bo.cons rfl (fun K hK=>?_) bo.nil))
   · go_simp;refine hK.out _ _ (fun _=>?_) ?_
     · exact qc.o _ (nU.o.alloc nU.o.size _)
     clear hK K;have yM:=ai (nU.o.alloc nU.o.size (.cells (sI NF) 169));have BF:=ai (bB V0 (sI NF) 169);obtain⟨V1,hV1⟩:=ex (V0.alloc (.cells (sI NF) 169));obtain⟨bF,hbF⟩:=ex V0.heap.size;rw[<- hV1] at yM BF ⊢;rw[<- hbF] at BF ⊢;clear hV1 hbF
     try simp only[Act.put,dJ,dE,dz]
     refine eH (rs:=[5,9]) (by kernel_rfl) (by simp) ?_;refine bo.cons rfl (fun K hK=>?_) (bo.cons rfl (fun K hK=>?_) bo.nil)
     · go_simp;refine hK.out _ _ (fun _=>?_) ?_
       · exact qc.o _ (yM.o.alloc yM.o.size _)
       clear hK K;have sk:=ai (yM.o.alloc yM.o.size (.cells (sH NS) 171));have BF:=ai (bk BF.o (.cells (sH NS) 171));have BL:=ai (bB V1 (sH NS) 171);obtain⟨V2,hV2⟩:=ex (V1.alloc (.cells (sH NS) 171));obtain⟨bL,hbL⟩:=ex V1.heap.size;rw[<- hV2] at sk BF BL ⊢;rw[<- hbL] at BL ⊢;clear hV2 hbL
       try simp only[Act.put,dJ,dE,dz]
       refine eH (rs:=[9]) (by kernel_rfl) (by simp) ?_;refine bo.cons rfl (fun K hK=>?_) bo.nil;go_simp;refine hK.out _ _ (fun _=>?_) ?_
       · exact qc.o _ (sk.o.alloc sk.o.size _)
       clear hK K;have sL:=ai (sk.o.alloc sk.o.size (.cells #[.bool true,.slice aa l.length ca,Nl] 99));have BF:=ai (bk BF.o (.cells #[.bool true,.slice aa l.length ca,Nl] 99));have BL:=ai (bk BL.o (.cells #[.bool true,.slice aa l.length ca,Nl] 99));have BP:=ai (bB V2 #[.bool true,.slice aa l.length ca,Nl] 99);obtain⟨V3,YD⟩:=ex (V2.alloc (.cells #[.bool true,.slice aa l.length ca,Nl] 99));obtain⟨bP,Yh⟩:=ex V2.heap.size;rw[<- YD] at sL BF BL BP ⊢;rw[<- Yh] at BP ⊢;clear YD Yh
       try simp only[Act.put,dJ,dE,dz]
       refine iK 10 (qc.o _ sL.o) ?_ ?_ ?_;rotate_left 1
       · intro V h;obtain⟨k0,k1⟩:=h;go_simp
         try with_reducible rfl
       refine eH (rs:=[11]) (by kernel_rfl) (by simp) ?_;refine bo.cons rfl (fun K hK=>?_) bo.nil;rw[aB (by rfl)];go_simp;go_at_call 79;refine(HNC.o _ _ _ _ sL.o BF.o BL.o BP.o).mono ?_;rintro e w6 ⟨aS,nS,cS,aF,nF,cF,aL,nL,cL,aP,nP,cP,rfl,YC,Yv,hfin⟩;have W9:=ai YC;have R6:=ai Yv;have yg:=ai hfin;clear YC Yv hfin;try go_simp;refine hK.out _ _ (fun _=>?_) ?_
       · exact qc.o _ W9.o
       clear hK K
       try simp only[Act.put,dJ,dE,dz]
       obtain⟨y0,y1,y2,y3,y4⟩:=iT R6.o;have f0:=aO R6.o 0;have f1:=aO R6.o 1;have f2:=aO R6.o 2;have f3:=aO R6.o 3;have f4:=aO R6.o 4;have h5:=ai (fun V=>l9 R6.o (.slice aS nS cS) (.slice aF nF cF) (.slice aL nL cL) (.slice aP nP cP) (I 0) (V:=V));refine eH (rs:=[12]) (by kernel_rfl) (by simp) ?_;refine bo.cons rfl (fun K hK=>?_) bo.nil;go_simp;obtain⟨r1,r2⟩:=h5.out _ rfl;refine hK.out _ _ (fun _=>?_) ?_
       · have:=r2.keep (KB.o _ W9.o) (show ¬w.heap.size=w.heap.size+1 by omega);exact⟨aq this 0 rfl,aq this 1 rfl⟩
       clear hK K
       try simp only[Act.put,dJ,dE,dz]
       refine eH (rs:=[13]) (by kernel_rfl) (by simp) ?_;refine bo.cons rfl (fun K hK=>?_) bo.nil;go_simp;refine hK.out _ _ (fun g=>absurd rfl g) ?_;refine rB (by kernel_rfl) ?_ _;go_wp2;obtain⟨y0,y1,y2,y3,y4⟩:=iT r1;refine bI (v:=.tuple #[.agg #[.slice aS nS cS,.slice aF nF cF,.slice aL nL cL,.slice aP nP cP,I 0],I 0]) (by simp[results,Tryz.results30,go_sem,y0,y1,y2,y3,y4]) rfl ?_;exact yg.o _ r2
     · go_simp;refine hK.out _ _ (fun _=>?_) ?_
       · exact qc.o _ (yM.o.alloc yM.o.size _)
       clear hK K;have sk:=ai (yM.o.alloc yM.o.size (.cells #[.bool true,.slice aa l.length ca,Nl] 99));have BF:=ai (bk BF.o (.cells #[.bool true,.slice aa l.length ca,Nl] 99));have BP:=ai (bB V1 #[.bool true,.slice aa l.length ca,Nl] 99);obtain⟨V2,hV2⟩:=ex (V1.alloc (.cells #[.bool true,.slice aa l.length ca,Nl] 99));obtain⟨bP,Yh⟩:=ex V1.heap.size;rw[<- hV2] at sk BF BP ⊢;rw[<- Yh] at BP ⊢;clear hV2 Yh
       try simp only[Act.put,dJ,dE,dz]
       refine eH (rs:=[5]) (by kernel_rfl) (by simp) ?_;refine bo.cons rfl (fun K hK=>?_) bo.nil;go_simp;refine hK.out _ _ (fun _=>?_) ?_
       · exact qc.o _ (sk.o.alloc sk.o.size _)
       clear hK K;have sL:=ai (sk.o.alloc sk.o.size (.cells (sH NS) 171));have BF:=ai (bk BF.o (.cells (sH NS) 171));have BP:=ai (bk BP.o (.cells (sH NS) 171));have BL:=ai (bB V2 (sH NS) 171);obtain⟨V3,YD⟩:=ex (V2.alloc (.cells (sH NS) 171));obtain⟨bL,hbL⟩:=ex V2.heap.size;rw[<- YD] at sL BF BP BL ⊢;rw[<- hbL] at BL ⊢;clear YD hbL
       try simp only[Act.put,dJ,dE,dz]
       refine iK 10 (qc.o _ sL.o) ?_ ?_ ?_;rotate_left 1
       · intro V h;obtain⟨k0,k1⟩:=h;go_simp
         try with_reducible rfl
       refine eH (rs:=[11]) (by kernel_rfl) (by simp) ?_;refine bo.cons rfl (fun K hK=>?_) bo.nil;rw[aB (by rfl)];go_simp;go_at_call 79;refine(HNC.o _ _ _ _ sL.o BF.o BL.o BP.o).mono ?_;rintro e w6 ⟨aS,nS,cS,aF,nF,cF,aL,nL,cL,aP,nP,cP,rfl,YC,Yv,hfin⟩;have W9:=ai YC;have R6:=ai Yv;have yg:=ai hfin;clear YC Yv hfin;try go_simp;refine hK.out _ _ (fun _=>?_) ?_
       · exact qc.o _ W9.o
       clear hK K
       try simp only[Act.put,dJ,dE,dz]
       obtain⟨y0,y1,y2,y3,y4⟩:=iT R6.o;have f0:=aO R6.o 0;have f1:=aO R6.o 1;have f2:=aO R6.o 2;have f3:=aO R6.o 3;have f4:=aO R6.o 4;have h5:=ai (fun V=>l9 R6.o (.slice aS nS cS) (.slice aF nF cF) (.slice aL nL cL) (.slice aP nP cP) (I 0) (V:=V));refine eH (rs:=[12]) (by kernel_rfl) (by simp) ?_;refine bo.cons rfl (fun K hK=>?_) bo.nil;go_simp;obtain⟨r1,r2⟩:=h5.out _ rfl;refine hK.out _ _ (fun _=>?_) ?_
       · have:=r2.keep (KB.o _ W9.o) (show ¬w.heap.size=w.heap.size+1 by omega);exact⟨aq this 0 rfl,aq this 1 rfl⟩
       clear hK K
       try simp only[Act.put,dJ,dE,dz]
       refine eH (rs:=[13]) (by kernel_rfl) (by simp) ?_;refine bo.cons rfl (fun K hK=>?_) bo.nil;go_simp;refine hK.out _ _ (fun g=>absurd rfl g) ?_;refine rB (by kernel_rfl) ?_ _;go_wp2;obtain⟨y0,y1,y2,y3,y4⟩:=iT r1;refine bI (v:=.tuple #[.agg #[.slice aS nS cS,.slice aF nF cF,.slice aL nL cL,.slice aP nP cP,I 0],I 0]) (by simp[results,Tryz.results30,go_sem,y0,y1,y2,y3,y4]) rfl ?_;exact yg.o _ r2
   · go_simp;refine hK.out _ _ (fun _=>?_) ?_
     · exact qc.o _ (nU.o.alloc nU.o.size _)
     clear hK K;have yM:=ai (nU.o.alloc nU.o.size (.cells (sH NS) 171));have BL:=ai (bB V0 (sH NS) 171);obtain⟨V1,hV1⟩:=ex (V0.alloc (.cells (sH NS) 171));obtain⟨bL,hbL⟩:=ex V0.heap.size;rw[<- hV1] at yM BL ⊢;rw[<- hbL] at BL ⊢;clear hV1 hbL
     try simp only[Act.put,dJ,dE,dz]
     refine eH (rs:=[3,9]) (by kernel_rfl) (by simp) ?_;refine bo.cons rfl (fun K hK=>?_) (bo.cons rfl (fun K hK=>?_) bo.nil)
     · go_simp;refine hK.out _ _ (fun _=>?_) ?_
       · exact qc.o _ (yM.o.alloc yM.o.size _)
       clear hK K;have sk:=ai (yM.o.alloc yM.o.size (.cells (sI NF) 169));have BL:=ai (bk BL.o (.cells (sI NF) 169));have BF:=ai (bB V1 (sI NF) 169);obtain⟨V2,hV2⟩:=ex (V1.alloc (.cells (sI NF) 169));obtain⟨bF,hbF⟩:=ex V1.heap.size;rw[<- hV2] at sk BL BF ⊢;rw[<- hbF] at BF ⊢;clear hV2 hbF
       try simp only[Act.put,dJ,dE,dz]
       refine eH (rs:=[9]) (by kernel_rfl) (by simp) ?_;refine bo.cons rfl (fun K hK=>?_) bo.nil;go_simp;refine hK.out _ _ (fun _=>?_) ?_
       · exact qc.o _ (sk.o.alloc sk.o.size _)
       clear hK K;have sL:=ai (sk.o.alloc sk.o.size (.cells #[.bool true,.slice aa l.length ca,Nl] 99));have BL:=ai (bk BL.o (.cells #[.bool true,.slice aa l.length ca,Nl] 99));have BF:=ai (bk BF.o (.cells #[.bool true,.slice aa l.length ca,Nl] 99));have BP:=ai (bB V2 #[.bool true,.slice aa l.length ca,Nl] 99);obtain⟨V3,YD⟩:=ex (V2.alloc (.cells #[.bool true,.slice aa l.length ca,Nl] 99));obtain⟨bP,Yh⟩:=ex V2.heap.size;rw[<- YD] at sL BL BF BP ⊢;rw[<- Yh] at BP ⊢;clear YD Yh
       try simp only[Act.put,dJ,dE,dz]
       refine iK 10 (qc.o _ sL.o) ?_ ?_ ?_;rotate_left 1
       · intro V h;obtain⟨k0,k1⟩:=h;go_simp
         try with_reducible rfl
       refine eH (rs:=[11]) (by kernel_rfl) (by simp) ?_;refine bo.cons rfl (fun K hK=>?_) bo.nil;rw[aB (by rfl)];go_simp;go_at_call 79;refine(HNC.o _ _ _ _ sL.o BF.o BL.o BP.o).mono ?_;rintro e w6 ⟨aS,nS,cS,aF,nF,cF,aL,nL,cL,aP,nP,cP,rfl,YC,Yv,hfin⟩;have W9:=ai YC;have R6:=ai Yv;have yg:=ai hfin;clear YC Yv hfin;try go_simp;refine hK.out _ _ (fun _=>?_) ?_
       · exact qc.o _ W9.o
       clear hK K
       try simp only[Act.put,dJ,dE,dz]
       obtain⟨y0,y1,y2,y3,y4⟩:=iT R6.o;have f0:=aO R6.o 0;have f1:=aO R6.o 1;have f2:=aO R6.o 2;have f3:=aO R6.o 3;have f4:=aO R6.o 4;have h5:=ai (fun V=>l9 R6.o (.slice aS nS cS) (.slice aF nF cF) (.slice aL nL cL) (.slice aP nP cP) (I 0) (V:=V));refine eH (rs:=[12]) (by kernel_rfl) (by simp) ?_;refine bo.cons rfl (fun K hK=>?_) bo.nil;go_simp;obtain⟨r1,r2⟩:=h5.out _ rfl;refine hK.out _ _ (fun _=>?_) ?_
       · have:=r2.keep (KB.o _ W9.o) (show ¬w.heap.size=w.heap.size+1 by omega);exact⟨aq this 0 rfl,aq this 1 rfl⟩
       clear hK K
       try simp only[Act.put,dJ,dE,dz]
       refine eH (rs:=[13]) (by kernel_rfl) (by simp) ?_;refine bo.cons rfl (fun K hK=>?_) bo.nil;go_simp;refine hK.out _ _ (fun g=>absurd rfl g) ?_;refine rB (by kernel_rfl) ?_ _;go_wp2;obtain⟨y0,y1,y2,y3,y4⟩:=iT r1;refine bI (v:=.tuple #[.agg #[.slice aS nS cS,.slice aF nF cF,.slice aL nL cL,.slice aP nP cP,I 0],I 0]) (by simp[results,Tryz.results30,go_sem,y0,y1,y2,y3,y4]) rfl ?_;exact yg.o _ r2
     · go_simp;refine hK.out _ _ (fun _=>?_) ?_
       · exact qc.o _ (yM.o.alloc yM.o.size _)
       clear hK K;have sk:=ai (yM.o.alloc yM.o.size (.cells #[.bool true,.slice aa l.length ca,Nl] 99));have BL:=ai (bk BL.o (.cells #[.bool true,.slice aa l.length ca,Nl] 99));have BP:=ai (bB V1 #[.bool true,.slice aa l.length ca,Nl] 99);obtain⟨V2,hV2⟩:=ex (V1.alloc (.cells #[.bool true,.slice aa l.length ca,Nl] 99));obtain⟨bP,Yh⟩:=ex V1.heap.size;rw[<- hV2] at sk BL BP ⊢;rw[<- Yh] at BP ⊢;clear hV2 Yh
       try simp only[Act.put,dJ,dE,dz]
       refine eH (rs:=[3]) (by kernel_rfl) (by simp) ?_;refine bo.cons rfl (fun K hK=>?_) bo.nil;go_simp;refine hK.out _ _ (fun _=>?_) ?_
       · exact qc.o _ (sk.o.alloc sk.o.size _)
       clear hK K;have sL:=ai (sk.o.alloc sk.o.size (.cells (sI NF) 169));have BL:=ai (bk BL.o (.cells (sI NF) 169));have BP:=ai (bk BP.o (.cells (sI NF) 169));have BF:=ai (bB V2 (sI NF) 169);obtain⟨V3,YD⟩:=ex (V2.alloc (.cells (sI NF) 169));obtain⟨bF,hbF⟩:=ex V2.heap.size;rw[<- YD] at sL BL BP BF ⊢;rw[<- hbF] at BF ⊢;clear YD hbF
       try simp only[Act.put,dJ,dE,dz]
       refine iK 10 (qc.o _ sL.o) ?_ ?_ ?_;rotate_left 1
       · intro V h;obtain⟨k0,k1⟩:=h;go_simp
         try with_reducible rfl
       refine eH (rs:=[11]) (by kernel_rfl) (by simp) ?_;refine bo.cons rfl (fun K hK=>?_) bo.nil;rw[aB (by rfl)];go_simp;go_at_call 79;refine(HNC.o _ _ _ _ sL.o BF.o BL.o BP.o).mono ?_;rintro e w6 ⟨aS,nS,cS,aF,nF,cF,aL,nL,cL,aP,nP,cP,rfl,YC,Yv,hfin⟩;have W9:=ai YC;have R6:=ai Yv;have yg:=ai hfin;clear YC Yv hfin;try go_simp;refine hK.out _ _ (fun _=>?_) ?_
       · exact qc.o _ W9.o
       clear hK K
       try simp only[Act.put,dJ,dE,dz]
       obtain⟨y0,y1,y2,y3,y4⟩:=iT R6.o;have f0:=aO R6.o 0;have f1:=aO R6.o 1;have f2:=aO R6.o 2;have f3:=aO R6.o 3;have f4:=aO R6.o 4;have h5:=ai (fun V=>l9 R6.o (.slice aS nS cS) (.slice aF nF cF) (.slice aL nL cL) (.slice aP nP cP) (I 0) (V:=V));refine eH (rs:=[12]) (by kernel_rfl) (by simp) ?_;refine bo.cons rfl (fun K hK=>?_) bo.nil;go_simp;obtain⟨r1,r2⟩:=h5.out _ rfl;refine hK.out _ _ (fun _=>?_) ?_
       · have:=r2.keep (KB.o _ W9.o) (show ¬w.heap.size=w.heap.size+1 by omega);exact⟨aq this 0 rfl,aq this 1 rfl⟩
       clear hK K
       try simp only[Act.put,dJ,dE,dz]
       refine eH (rs:=[13]) (by kernel_rfl) (by simp) ?_;refine bo.cons rfl (fun K hK=>?_) bo.nil;go_simp;refine hK.out _ _ (fun g=>absurd rfl g) ?_;refine rB (by kernel_rfl) ?_ _;go_wp2;obtain⟨y0,y1,y2,y3,y4⟩:=iT r1;refine bI (v:=.tuple #[.agg #[.slice aS nS cS,.slice aF nF cF,.slice aL nL cL,.slice aP nP cP,I 0],I 0]) (by simp[results,Tryz.results30,go_sem,y0,y1,y2,y3,y4]) rfl ?_;exact yg.o _ r2
   · go_simp;refine hK.out _ _ (fun _=>?_) ?_
     · exact qc.o _ (nU.o.alloc nU.o.size _)
     clear hK K;have yM:=ai (nU.o.alloc nU.o.size (.cells #[.bool true,.slice aa l.length ca,Nl] 99));have BP:=ai (bB V0 #[.bool true,.slice aa l.length ca,Nl] 99);obtain⟨V1,hV1⟩:=ex (V0.alloc (.cells #[.bool true,.slice aa l.length ca,Nl] 99));obtain⟨bP,Yh⟩:=ex V0.heap.size;rw[<- hV1] at yM BP ⊢;rw[<- Yh] at BP ⊢;clear hV1 Yh
     try simp only[Act.put,dJ,dE,dz]
     refine eH (rs:=[3,5]) (by kernel_rfl) (by simp) ?_;refine bo.cons rfl (fun K hK=>?_) (bo.cons rfl (fun K hK=>?_) bo.nil)
     · go_simp;refine hK.out _ _ (fun _=>?_) ?_
       · exact qc.o _ (yM.o.alloc yM.o.size _)
       clear hK K;have sk:=ai (yM.o.alloc yM.o.size (.cells (sI NF) 169));have BP:=ai (bk BP.o (.cells (sI NF) 169));have BF:=ai (bB V1 (sI NF) 169);obtain⟨V2,hV2⟩:=ex (V1.alloc (.cells (sI NF) 169));obtain⟨bF,hbF⟩:=ex V1.heap.size;rw[<- hV2] at sk BP BF ⊢;rw[<- hbF] at BF ⊢;clear hV2 hbF
       try simp only[Act.put,dJ,dE,dz]
       refine eH (rs:=[5]) (by kernel_rfl) (by simp) ?_;refine bo.cons rfl (fun K hK=>?_) bo.nil;go_simp;refine hK.out _ _ (fun _=>?_) ?_
       · exact qc.o _ (sk.o.alloc sk.o.size _)
       clear hK K;have sL:=ai (sk.o.alloc sk.o.size (.cells (sH NS) 171));have BP:=ai (bk BP.o (.cells (sH NS) 171));have BF:=ai (bk BF.o (.cells (sH NS) 171));have BL:=ai (bB V2 (sH NS) 171);obtain⟨V3,YD⟩:=ex (V2.alloc (.cells (sH NS) 171));obtain⟨bL,hbL⟩:=ex V2.heap.size;rw[<- YD] at sL BP BF BL ⊢;rw[<- hbL] at BL ⊢;clear YD hbL
       try simp only[Act.put,dJ,dE,dz]
       refine iK 10 (qc.o _ sL.o) ?_ ?_ ?_;rotate_left 1
       · intro V h;obtain⟨k0,k1⟩:=h;go_simp
         try with_reducible rfl
       refine eH (rs:=[11]) (by kernel_rfl) (by simp) ?_;refine bo.cons rfl (fun K hK=>?_) bo.nil;rw[aB (by rfl)];go_simp;go_at_call 79;refine(HNC.o _ _ _ _ sL.o BF.o BL.o BP.o).mono ?_;rintro e w6 ⟨aS,nS,cS,aF,nF,cF,aL,nL,cL,aP,nP,cP,rfl,YC,Yv,hfin⟩;have W9:=ai YC;have R6:=ai Yv;have yg:=ai hfin;clear YC Yv hfin;try go_simp;refine hK.out _ _ (fun _=>?_) ?_
       · exact qc.o _ W9.o
       clear hK K
       try simp only[Act.put,dJ,dE,dz]
       obtain⟨y0,y1,y2,y3,y4⟩:=iT R6.o;have f0:=aO R6.o 0;have f1:=aO R6.o 1;have f2:=aO R6.o 2;have f3:=aO R6.o 3;have f4:=aO R6.o 4;have h5:=ai (fun V=>l9 R6.o (.slice aS nS cS) (.slice aF nF cF) (.slice aL nL cL) (.slice aP nP cP) (I 0) (V:=V));refine eH (rs:=[12]) (by kernel_rfl) (by simp) ?_;refine bo.cons rfl (fun K hK=>?_) bo.nil;go_simp;obtain⟨r1,r2⟩:=h5.out _ rfl;refine hK.out _ _ (fun _=>?_) ?_
       · have:=r2.keep (KB.o _ W9.o) (show ¬w.heap.size=w.heap.size+1 by omega);exact⟨aq this 0 rfl,aq this 1 rfl⟩
       clear hK K
       try simp only[Act.put,dJ,dE,dz]
       refine eH (rs:=[13]) (by kernel_rfl) (by simp) ?_;refine bo.cons rfl (fun K hK=>?_) bo.nil;go_simp;refine hK.out _ _ (fun g=>absurd rfl g) ?_;refine rB (by kernel_rfl) ?_ _;go_wp2;obtain⟨y0,y1,y2,y3,y4⟩:=iT r1;refine bI (v:=.tuple #[.agg #[.slice aS nS cS,.slice aF nF cF,.slice aL nL cL,.slice aP nP cP,I 0],I 0]) (by simp[results,Tryz.results30,go_sem,y0,y1,y2,y3,y4]) rfl ?_;exact yg.o _ r2
     · go_simp;refine hK.out _ _ (fun _=>?_) ?_
       · exact qc.o _ (yM.o.alloc yM.o.size _)
       clear hK K;have sk:=ai (yM.o.alloc yM.o.size (.cells (sH NS) 171));have BP:=ai (bk BP.o (.cells (sH NS) 171));have BL:=ai (bB V1 (sH NS) 171);obtain⟨V2,hV2⟩:=ex (V1.alloc (.cells (sH NS) 171));obtain⟨bL,hbL⟩:=ex V1.heap.size;rw[<- hV2] at sk BP BL ⊢;rw[<- hbL] at BL ⊢;clear hV2 hbL
       try simp only[Act.put,dJ,dE,dz]
       refine eH (rs:=[3]) (by kernel_rfl) (by simp) ?_;refine bo.cons rfl (fun K hK=>?_) bo.nil;go_simp;refine hK.out _ _ (fun _=>?_) ?_
       · exact qc.o _ (sk.o.alloc sk.o.size _)
       clear hK K;have sL:=ai (sk.o.alloc sk.o.size (.cells (sI NF) 169));have BP:=ai (bk BP.o (.cells (sI NF) 169));have BL:=ai (bk BL.o (.cells (sI NF) 169));have BF:=ai (bB V2 (sI NF) 169);obtain⟨V3,YD⟩:=ex (V2.alloc (.cells (sI NF) 169));obtain⟨bF,hbF⟩:=ex V2.heap.size;rw[<- YD] at sL BP BL BF ⊢;rw[<- hbF] at BF ⊢;clear YD hbF
       try simp only[Act.put,dJ,dE,dz]
       refine iK 10 (qc.o _ sL.o) ?_ ?_ ?_;rotate_left 1
       · intro V h;obtain⟨k0,k1⟩:=h;go_simp
         try with_reducible rfl
       refine eH (rs:=[11]) (by kernel_rfl) (by simp) ?_;refine bo.cons rfl (fun K hK=>?_) bo.nil;rw[aB (by rfl)];go_simp;go_at_call 79;refine(HNC.o _ _ _ _ sL.o BF.o BL.o BP.o).mono ?_;rintro e w6 ⟨aS,nS,cS,aF,nF,cF,aL,nL,cL,aP,nP,cP,rfl,YC,Yv,hfin⟩;have W9:=ai YC;have R6:=ai Yv;have yg:=ai hfin;clear YC Yv hfin;try go_simp;refine hK.out _ _ (fun _=>?_) ?_
       · exact qc.o _ W9.o
       clear hK K
       try simp only[Act.put,dJ,dE,dz]
       obtain⟨y0,y1,y2,y3,y4⟩:=iT R6.o;have f0:=aO R6.o 0;have f1:=aO R6.o 1;have f2:=aO R6.o 2;have f3:=aO R6.o 3;have f4:=aO R6.o 4;have h5:=ai (fun V=>l9 R6.o (.slice aS nS cS) (.slice aF nF cF) (.slice aL nL cL) (.slice aP nP cP) (I 0) (V:=V));refine eH (rs:=[12]) (by kernel_rfl) (by simp) ?_;refine bo.cons rfl (fun K hK=>?_) bo.nil;go_simp;obtain⟨r1,r2⟩:=h5.out _ rfl;refine hK.out _ _ (fun _=>?_) ?_
       · have:=r2.keep (KB.o _ W9.o) (show ¬w.heap.size=w.heap.size+1 by omega);exact⟨aq this 0 rfl,aq this 1 rfl⟩
       clear hK K
       try simp only[Act.put,dJ,dE,dz]
       refine eH (rs:=[13]) (by kernel_rfl) (by simp) ?_;refine bo.cons rfl (fun K hK=>?_) bo.nil;go_simp;refine hK.out _ _ (fun g=>absurd rfl g) ?_;refine rB (by kernel_rfl) ?_ _;go_wp2;obtain⟨y0,y1,y2,y3,y4⟩:=iT r1;refine bI (v:=.tuple #[.agg #[.slice aS nS cS,.slice aF nF cF,.slice aL nL cL,.slice aP nP cP,I 0],I 0]) (by simp[results,Tryz.results30,go_sem,y0,y1,y2,y3,y4]) rfl ?_;exact yg.o _ r2
 · rw[aB c];obtain⟨C,hC⟩:=ex (lG l hs en);rw[<- hC] at Cv c ⊢;have cb:(C != 0)=true:=by grind
   have dB:=ai (fun V (h:Below w.heap.size w V)=>Hu.o V C h);obtain⟨P,hP⟩:=ex (cu w dX [I C]);show Calls _ _ _ _ (cu w dX [I C]);rw[<- hP] at dB ⊢;clear ha hf h Qd he hcap hb0 kb rb lu hC c hP Hu HTT;go_enter Tryz.func30,Tryz.ntmps30;go_upto_region 1 with fail;rw[<- sB.o];go_upto_region 3 with(go_at_call 69;refine Cv.o.mono ?_;rintro e w1 ⟨rfl,hb1⟩;have sQ:=ai (gB.o.trans (hb1.mono gB.o.size));have R1:=ai (RB.o _ hb1);clear hb1)
   obtain⟨y0,y1,y2,y3,y4⟩:=iT R1.o;have f0:=aO R1.o 0;have f1:=aO R1.o 1;have f2:=aO R1.o 2;have f3:=aO R1.o 3;have f4:=aO R1.o 4;have h5:=ai (fun V=>l9 R1.o Nl Nl Nl Nl (I 0) (V:=V));go_wp2;obtain⟨r1,r2⟩:=h5.out _ rfl;obtain⟨y0,y1,y2,y3,y4⟩:=iT r1;refine bI (v:=.tuple #[.agg #[Nl,Nl,Nl,Nl,I 0],I C]) (by simp[results,Tryz.results30,go_sem,y0,y1,y2,y3,y4]) rfl ?_;exact dB.o _ (aC.below sQ.o r2 sQ.o.size (fun b e=>by omega))
open Go.RowKit
theorem ME {w WA W1:World} {K:aR} {vs:List Value} {e:Ending} {rb:Nat} (h:cu WA K vs e W1) (hb0:Below w.heap.size w WA) (hr:w.heap.size<=rb/\rb<WA.heap.size):∃s1 rN q1 s2 n2 q2 s3 n3 q3 s4 n4 q4 hd,e=.returned (.tuple (Value.agg #[.slice s1 rN q1,.slice s2 n2 q2,.slice s3 n3 q3,.slice s4 n4 q4,I hd]::vs).toArray)/\Below WA.heap.size WA W1/\∀U,aC (fun b=>b=rb) W1 U->cu w K vs (.returned (.tuple (Value.agg #[.slice s1 rN q1,.slice s2 n2 q2,.slice s3 n3 q3,.slice s4 n4 q4,I hd]::vs).toArray)) U:=by
 obtain⟨S,hs,h1,h2,h3,h4⟩:=h;obtain⟨aS,nS,cS,eS⟩:∃b n d,S.vS=.slice b n d:=by obtain⟨b,d,e,_⟩:=bg h3.aM;grind
 obtain⟨aF,nF,cF,eF⟩:∃b n d,S.vF=.slice b n d:=by obtain⟨b,d,e,_⟩:=bg h3.frames;grind
 obtain⟨aL,nL,cL,eL⟩:∃b n d,S.vL=.slice b n d:=by obtain⟨b,d,e,_⟩:=bg h3.slots;grind
 obtain⟨aP,nP,cP,eP⟩:∃b n d,S.vP=.slice b n d:=by obtain⟨b,d,e,_⟩:=bg h3.aj;grind
 rw[eS,eF,eL,eP] at h2;have xf:Below w.heap.size w W1:=hb0.trans (h4.mono hb0.size);refine⟨aS,nS,cS,aF,nF,cF,aL,nL,cL,aP,nP,cP,_,h2,h4,fun U hU=>⟨S,hs,h1,by grind,(h3.kp hU (fun b hb e=>by have:=(h3.yL b hb).1;omega)).mono hb0.size,aC.below xf hU xf.size (fun b e=>by omega)⟩⟩
theorem abG (Hi:rO) (k:aR) (a:iH) (sp pg n q:Int) (w:World) (hK:jg w a k) (hF:nZ k) (hsp:cN sp) (PL:cN pg) (hn:cN n) :
  Calls Tryz.prog 263 #[.agg (bc a k),I sp,I pg,I n,I q] w (cu w (iz k sp (dK (ak k.aj sp.toNat).aT pg n q)).1 [I (iz k sp (dK (ak k.aj sp.toNat).aT pg n q)).2]):=by
 obtain⟨WA,lu⟩:=ex (((((w.alloc (.cells (bc a k) 30)).alloc (.cells #[I pg] 3)).alloc (.cells #[I n] 3)).alloc (.cells #[I q] 3)).alloc (.cells #[Nl,Nl,Nl,Nl,I 0] 30));have hb0:Below w.heap.size w WA:=by rw[lu];exact(((((aK _ _).alloc (aD _) _).alloc (by simp_all) _).alloc (by grind [World.size_alloc]) _).alloc (by grind [World.size_alloc]) _).alloc (by grind [World.size_alloc]) _
 have kb:WA.heap[w.heap.size]?=some (.cells (bc a k) 30 (0,0)):=by grind [bk,bB]
 have b0:WA.heap[w.heap.size+1]?=some (.cells #[I pg] 3 (0,0)):=by
  grind [bB,World.size_alloc,bk]
 have b1:WA.heap[w.heap.size+2]?=some (.cells #[I n] 3 (0,0)):=by
  grind [bB,World.size_alloc,bk]
 have b2:WA.heap[w.heap.size+3]?=some (.cells #[I q] 3 (0,0)):=by
  grind [bB,World.size_alloc,bk]
 have rb:WA.heap[w.heap.size+4]?=some (.cells #[Nl,Nl,Nl,Nl,I 0] 30 (0,0)):=by
  grind [bB,World.size_alloc]
 have hrl:=aJ rb;have RB:Hid (∀V,Below WA.heap.size WA V->V.heap[w.heap.size+4]?=some (.cells #[Nl,Nl,Nl,Nl,I 0] 30 (0,0))):=fun V hb=>aN rb hb (aJ rb)
 obtain⟨k0,k1,k2,k3,k4⟩:=iT (show WA.heap[w.heap.size]?=some (.cells #[.slice a.aS k.aM.length a.cS,.slice a.aF k.frames.length a.cF,.slice a.aL k.slots.length a.cL,.slice a.aP k.aj.length a.cP,I k.hand] 30 (0,0)) from kb);have Mg:dO (dK (ak k.aj sp.toNat).aT pg n q).1:=Sp _ pg n q;obtain⟨K,hKK⟩:=ex ((iz k sp (dK (ak k.aj sp.toNat).aT pg n q)).1);obtain⟨er,her⟩:=ex ((iz k sp (dK (ak k.aj sp.toNat).aT pg n q)).2);rw[<- hKK,<- her];have HWT:Hid (Calls Tryz.prog 274 #[.agg (bc a k),I sp,.func (.func 275) #[] #[.pointer (some (Ad (w.heap.size+1) 0)),.pointer (some (Ad (w.heap.size+2) 0)),.pointer (some (Ad (w.heap.size+3) 0))]] WA fun e w'=>∃s1 rN q1 s2 n2 q2 s3 n3 q3 s4 n4 q4 hd,e=.returned (.tuple #[.agg #[.slice s1 rN q1,.slice s2 n2 q2,.slice s3 n3 q3,.slice s4 n4 q4,I hd],I er])/\Below WA.heap.size WA w'/\∀U,aC (fun b=>b=w.heap.size+4) w' U->cu w K [I er] (.returned (.tuple #[.agg #[.slice s1 rN q1,.slice s2 n2 q2,.slice s3 n3 q3,.slice s4 n4 q4,I hd],I er])) U):=by
  refine(FC Hi k a sp WA (hK.below hb0) hF hsp (dK (ak k.aj sp.toNat).aT pg n q) Mg 275 [.pointer (some (Ad (w.heap.size+1) 0)),.pointer (some (Ad (w.heap.size+2) 0)),.pointer (some (Ad (w.heap.size+3) 0))] (w.heap.size+1) (w.heap.size+2) (w.heap.size+3) (.inl ⟨rfl,rfl⟩) (fun V ao cap hV h1 h2=>?_)).mono fun e w' h=>?_
  · exact Y5 _ ao _ cap pg n q _ _ _ V h1 h2 PL hn (aq (aN b0 hV (aJ b0)) 0 rfl) (aq (aN b1 hV (aJ b1)) 0 rfl) (aq (aN b2 hV (aJ b2)) 0 rfl)
  · rw[<- hKK,<- her] at h;exact ME h hb0 ⟨by omega,hrl⟩
 have sB:=ai lu;obtain⟨P,hP⟩:=ex (cu w K [I er]);rw[<- hP] at HWT ⊢;unfold bc at HWT sB ⊢;clear hb0 kb b0 b1 b2 rb lu hK hF hsp PL hn Mg hKK her hP Hi;go_enter Tryz.func263,Tryz.ntmps263;go_upto_region 1 with fail
 (try simp only[za,Nat.reduceAdd])
 rw[<- sB.o];go_wp2_with (go_at_call 274;refine HWT.o.mono ?_;rintro e w1 ⟨s1,rN,q1,s2,n2,q2,s3,n3,q3,s4,n4,q4,hd,rfl,hb1,hfin⟩;have yg:=ai hfin;have R1:=ai (RB.o _ hb1);clear hfin hb1;obtain⟨y0,y1,y2,y3,y4⟩:=iT R1.o;have f0:=aO R1.o 0;have f1:=aO R1.o 1;have f2:=aO R1.o 2;have f3:=aO R1.o 3;have f4:=aO R1.o 4;have h5:=ai (fun V=>l9 R1.o (.slice s1 rN q1) (.slice s2 n2 q2) (.slice s3 n3 q3) (.slice s4 n4 q4) (I hd) (V:=V)))
 obtain⟨r1,r2⟩:=h5.out _ rfl;obtain⟨y0,y1,y2,y3,y4⟩:=iT r1;refine bI (v:=.tuple #[.agg #[.slice s1 rN q1,.slice s2 n2 q2,.slice s3 n3 q3,.slice s4 n4 q4,I hd],I er]) (by simp[results,Tryz.results263,go_sem,y0,y1,y2,y3,y4]) rfl ?_;exact yg.o _ r2
theorem V5 (Hi:rO) (k:aR) (a:iH) (sp pg n:Int) (w:World) (hK:jg w a k) (hF:nZ k) (hsp:cN sp) (PL:cN pg) (hn:cN n) :
  Calls Tryz.prog 266 #[.agg (bc a k),I sp,I pg,I n] w (cu w (iz k sp (cQ (ak k.aj sp.toNat).aT pg n)).1 [I (iz k sp (cQ (ak k.aj sp.toNat).aT pg n)).2]):=by
 obtain⟨WA,lu⟩:=ex ((((w.alloc (.cells (bc a k) 30)).alloc (.cells #[I pg] 3)).alloc (.cells #[I n] 3)).alloc (.cells #[Nl,Nl,Nl,Nl,I 0] 30));have hb0:Below w.heap.size w WA:=by grind [Below.refl,World.size_alloc,Below.alloc]
 have kb:WA.heap[w.heap.size]?=some (.cells (bc a k) 30 (0,0)):=by grind [bk,bB]
 have b0:WA.heap[w.heap.size+1]?=some (.cells #[I pg] 3 (0,0)):=by
  grind [bB,World.size_alloc,bk]
 have b1:WA.heap[w.heap.size+2]?=some (.cells #[I n] 3 (0,0)):=by
  grind [bB,World.size_alloc,bk]
 have rb:WA.heap[w.heap.size+3]?=some (.cells #[Nl,Nl,Nl,Nl,I 0] 30 (0,0)):=by
  grind [bB,World.size_alloc]
 have hrl:=aJ rb;have RB:Hid (∀V,Below WA.heap.size WA V->V.heap[w.heap.size+3]?=some (.cells #[Nl,Nl,Nl,Nl,I 0] 30 (0,0))):=fun V hb=>aN rb hb (aJ rb)
 obtain⟨k0,k1,k2,k3,k4⟩:=iT (show WA.heap[w.heap.size]?=some (.cells #[.slice a.aS k.aM.length a.cS,.slice a.aF k.frames.length a.cF,.slice a.aL k.slots.length a.cL,.slice a.aP k.aj.length a.cP,I k.hand] 30 (0,0)) from kb);have Mg:dO (cQ (ak k.aj sp.toNat).aT pg n).1:=Yd _ pg n;obtain⟨K,hKK⟩:=ex ((iz k sp (cQ (ak k.aj sp.toNat).aT pg n)).1);obtain⟨er,her⟩:=ex ((iz k sp (cQ (ak k.aj sp.toNat).aT pg n)).2);rw[<- hKK,<- her];have HWT:Hid (Calls Tryz.prog 274 #[.agg (bc a k),I sp,.func (.func 279) #[] #[.pointer (some (Ad (w.heap.size+1) 0)),.pointer (some (Ad (w.heap.size+2) 0))]] WA fun e w'=>∃s1 rN q1 s2 n2 q2 s3 n3 q3 s4 n4 q4 hd,e=.returned (.tuple #[.agg #[.slice s1 rN q1,.slice s2 n2 q2,.slice s3 n3 q3,.slice s4 n4 q4,I hd],I er])/\Below WA.heap.size WA w'/\∀U,aC (fun b=>b=w.heap.size+3) w' U->cu w K [I er] (.returned (.tuple #[.agg #[.slice s1 rN q1,.slice s2 n2 q2,.slice s3 n3 q3,.slice s4 n4 q4,I hd],I er])) U):=by
  refine(FC Hi k a sp WA (hK.below hb0) hF hsp (cQ (ak k.aj sp.toNat).aT pg n) Mg 279 [.pointer (some (Ad (w.heap.size+1) 0)),.pointer (some (Ad (w.heap.size+2) 0))] (w.heap.size+1) (w.heap.size+2) (w.heap.size+3) (.inr (.inl ⟨rfl,rfl⟩)) (fun V ao cap hV h1 h2=>?_)).mono fun e w' h=>?_
  · exact S6 _ ao _ cap pg n _ _ V h1 h2 PL hn (aq (aN b0 hV (aJ b0)) 0 rfl) (aq (aN b1 hV (aJ b1)) 0 rfl)
  · rw[<- hKK,<- her] at h;exact ME h hb0 ⟨by omega,hrl⟩
 have sB:=ai lu;obtain⟨P,hP⟩:=ex (cu w K [I er]);rw[<- hP] at HWT ⊢;unfold bc at HWT sB ⊢;clear hb0 kb b0 b1 rb lu hK hF hsp PL hn Mg hKK her hP Hi;go_enter Tryz.func266,Tryz.ntmps266;go_upto_region 1 with fail
 (try simp only[za,Nat.reduceAdd])
 rw[<- sB.o];go_wp2_with (go_at_call 274;refine HWT.o.mono ?_;rintro e w1 ⟨s1,rN,q1,s2,n2,q2,s3,n3,q3,s4,n4,q4,hd,rfl,hb1,hfin⟩;have yg:=ai hfin;have R1:=ai (RB.o _ hb1);clear hfin hb1;obtain⟨y0,y1,y2,y3,y4⟩:=iT R1.o;have f0:=aO R1.o 0;have f1:=aO R1.o 1;have f2:=aO R1.o 2;have f3:=aO R1.o 3;have f4:=aO R1.o 4;have h5:=ai (fun V=>l9 R1.o (.slice s1 rN q1) (.slice s2 n2 q2) (.slice s3 n3 q3) (.slice s4 n4 q4) (I hd) (V:=V)))
 obtain⟨r1,r2⟩:=h5.out _ rfl;obtain⟨y0,y1,y2,y3,y4⟩:=iT r1;refine bI (v:=.tuple #[.agg #[.slice s1 rN q1,.slice s2 n2 q2,.slice s3 n3 q3,.slice s4 n4 q4,I hd],I er]) (by simp[results,Tryz.results266,go_sem,y0,y1,y2,y3,y4]) rfl ?_;exact yg.o _ r2
theorem QM (Hi:rO) (k:aR) (a:iH) (sp pg n q:Int) (w:World) (hK:jg w a k) (hF:nZ k) (hsp:cN sp) (PL:cN pg) (hn:cN n) :
  Calls Tryz.prog 264 #[.agg (bc a k),I sp,I pg,I n,I q] w (cu w (iz k sp (bT (ak k.aj sp.toNat).aT pg n q)).1 [I (iz k sp (bT (ak k.aj sp.toNat).aT pg n q)).2]):=by
 obtain⟨WA,lu⟩:=ex (((((w.alloc (.cells (bc a k) 30)).alloc (.cells #[I pg] 3)).alloc (.cells #[I n] 3)).alloc (.cells #[I q] 3)).alloc (.cells #[Nl,Nl,Nl,Nl,I 0] 30));have hb0:Below w.heap.size w WA:=by rw[lu];exact(((((aK _ _).alloc (aD _) _).alloc (by simp_all) _).alloc (by grind [World.size_alloc]) _).alloc (by grind [World.size_alloc]) _).alloc (by grind [World.size_alloc]) _
 have kb:WA.heap[w.heap.size]?=some (.cells (bc a k) 30 (0,0)):=by grind [bk,bB]
 have b0:WA.heap[w.heap.size+1]?=some (.cells #[I pg] 3 (0,0)):=by
  grind [bB,World.size_alloc,bk]
 have b1:WA.heap[w.heap.size+2]?=some (.cells #[I n] 3 (0,0)):=by
  grind [bB,World.size_alloc,bk]
 have b2:WA.heap[w.heap.size+3]?=some (.cells #[I q] 3 (0,0)):=by
  grind [bB,World.size_alloc,bk]
 have rb:WA.heap[w.heap.size+4]?=some (.cells #[Nl,Nl,Nl,Nl,I 0] 30 (0,0)):=by
  grind [bB,World.size_alloc]
 have hrl:=aJ rb;have RB:Hid (∀V,Below WA.heap.size WA V->V.heap[w.heap.size+4]?=some (.cells #[Nl,Nl,Nl,Nl,I 0] 30 (0,0))):=fun V hb=>aN rb hb (aJ rb)
 obtain⟨k0,k1,k2,k3,k4⟩:=iT (show WA.heap[w.heap.size]?=some (.cells #[.slice a.aS k.aM.length a.cS,.slice a.aF k.frames.length a.cF,.slice a.aL k.slots.length a.cL,.slice a.aP k.aj.length a.cP,I k.hand] 30 (0,0)) from kb);have Mg:dO (bT (ak k.aj sp.toNat).aT pg n q).1:=Sn _ pg n q;obtain⟨K,hKK⟩:=ex ((iz k sp (bT (ak k.aj sp.toNat).aT pg n q)).1);obtain⟨er,her⟩:=ex ((iz k sp (bT (ak k.aj sp.toNat).aT pg n q)).2);rw[<- hKK,<- her];have HWT:Hid (Calls Tryz.prog 274 #[.agg (bc a k),I sp,.func (.func 276) #[] #[.pointer (some (Ad (w.heap.size+1) 0)),.pointer (some (Ad (w.heap.size+2) 0)),.pointer (some (Ad (w.heap.size+3) 0))]] WA fun e w'=>∃s1 rN q1 s2 n2 q2 s3 n3 q3 s4 n4 q4 hd,e=.returned (.tuple #[.agg #[.slice s1 rN q1,.slice s2 n2 q2,.slice s3 n3 q3,.slice s4 n4 q4,I hd],I er])/\Below WA.heap.size WA w'/\∀U,aC (fun b=>b=w.heap.size+4) w' U->cu w K [I er] (.returned (.tuple #[.agg #[.slice s1 rN q1,.slice s2 n2 q2,.slice s3 n3 q3,.slice s4 n4 q4,I hd],I er])) U):=by
  refine(FC Hi k a sp WA (hK.below hb0) hF hsp (bT (ak k.aj sp.toNat).aT pg n q) Mg 276 [.pointer (some (Ad (w.heap.size+1) 0)),.pointer (some (Ad (w.heap.size+2) 0)),.pointer (some (Ad (w.heap.size+3) 0))] (w.heap.size+1) (w.heap.size+2) (w.heap.size+3) (.inr (.inr ⟨rfl,rfl⟩)) (fun V ao cap hV h1 h2=>?_)).mono fun e w' h=>?_
  · exact OI _ ao _ cap pg n q _ _ _ V h1 h2 PL hn (aq (aN b0 hV (aJ b0)) 0 rfl) (aq (aN b1 hV (aJ b1)) 0 rfl) (aq (aN b2 hV (aJ b2)) 0 rfl)
  · rw[<- hKK,<- her] at h;exact ME h hb0 ⟨by omega,hrl⟩
 have sB:=ai lu;obtain⟨P,hP⟩:=ex (cu w K [I er]);rw[<- hP] at HWT ⊢;unfold bc at HWT sB ⊢;clear hb0 kb b0 b1 b2 rb lu hK hF hsp PL hn Mg hKK her hP Hi;go_enter Tryz.func264,Tryz.ntmps264;go_upto_region 1 with fail
 (try simp only[za,Nat.reduceAdd])
 rw[<- sB.o];go_wp2_with (go_at_call 274;refine HWT.o.mono ?_;rintro e w1 ⟨s1,rN,q1,s2,n2,q2,s3,n3,q3,s4,n4,q4,hd,rfl,hb1,hfin⟩;have yg:=ai hfin;have R1:=ai (RB.o _ hb1);clear hfin hb1;obtain⟨y0,y1,y2,y3,y4⟩:=iT R1.o;have f0:=aO R1.o 0;have f1:=aO R1.o 1;have f2:=aO R1.o 2;have f3:=aO R1.o 3;have f4:=aO R1.o 4;have h5:=ai (fun V=>l9 R1.o (.slice s1 rN q1) (.slice s2 n2 q2) (.slice s3 n3 q3) (.slice s4 n4 q4) (I hd) (V:=V)))
 obtain⟨r1,r2⟩:=h5.out _ rfl;obtain⟨y0,y1,y2,y3,y4⟩:=iT r1;refine bI (v:=.tuple #[.agg #[.slice s1 rN q1,.slice s2 n2 q2,.slice s3 n3 q3,.slice s4 n4 q4,I hd],I er]) (by simp[results,Tryz.results264,go_sem,y0,y1,y2,y3,y4]) rfl ?_;exact yg.o _ r2
end Go.Proofs.YtlgoihmkgaaemaaGreat
