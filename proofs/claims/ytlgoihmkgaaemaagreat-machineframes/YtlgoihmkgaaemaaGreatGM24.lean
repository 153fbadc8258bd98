import Derived.Test.YtlgoihmkgaaemaaGreatGM23
set_option maxHeartbeats 20000000
set_option linter.unusedVariables false
set_option maxRecDepth 100000
set_option linter.unusedSimpArgs false
namespace Go.Proofs.YtlgoihmkgaaemaaGreat
open Go.RowKit
theorem q9 (V:World) (A:Obj) (c:Array Value) (t:TypeId):((V.alloc A).alloc (.cells c t)).heap[V.heap.size+1]?=some (.cells c t (0,0)):=by
 grind [bD,World.size_alloc]
theorem aaS (GV:ra) (l:List aX) (hs:List bG) (en nf ns:Int) (va:Value) (ao:Option Addr) (cap:Nat) (w:World) (ha:gu w va l) (hf:dH l) (h:jn w ao hs) (Pf:qZ hs) (hcap:hs.length<=cap) (he:cK en) :
  Calls Tryz.prog 30 #[.agg #[va,.slice ao hs.length cap,I en],I nf,I ns] w (b9 w (rT l hs en nf ns).1 [I (rT l hs en nf ns).2]):=by
 obtain⟨aa,ca,IP,_⟩:=id ha;subst IP;obtain⟨WA,mj⟩:=ex ((w.alloc (.cells #[.slice aa l.length ca,.slice ao hs.length cap,I en] 25)).alloc (.cells #[Nl,Nl,Nl,Nl,I 0] 30));have hb0:Below w.heap.size w WA:=by simp_all [aJ,pR]
 have kb:WA.heap[w.heap.size]?=some (.cells #[.slice aa l.length ca,.slice ao hs.length cap,I en] 25 (0,0)):=by grind [bl,bD]
 have rb:WA.heap[w.heap.size+1]?=some (.cells #[Nl,Nl,Nl,Nl,I 0] 30 (0,0)):=by grind [q9]
 have RB:Hid (∀V,Below WA.heap.size WA V->V.heap[w.heap.size+1]?=some (.cells #[Nl,Nl,Nl,Nl,I 0] 30 (0,0))):=fun V hb=>aN rb hb (aI rb)
 have KB:Hid (∀V,Below WA.heap.size WA V->V.heap[w.heap.size]?=some (.cells #[.slice aa l.length ca,.slice ao hs.length cap,I en] 25 (0,0))):=fun V hb=>aN kb hb (aI kb)
 have k0:WA.cell? (Ad w.heap.size 0)=some (.slice aa l.length ca):=aq kb 0 rfl;have k1:WA.cell? (Ad w.heap.size 1)=some (.slice ao hs.length cap):=aq kb 1 rfl;have k2:WA.cell? (Ad w.heap.size 2)=some (I en):=aq kb 2 rfl;have se:=ai mj;have gG:=ai hb0;have hrl:=aI rb;have EU:=ai (U4 l hs en (.slice aa l.length ca) ao cap WA (ha.below hb0) hf (h.below hb0) Pf hcap he);have HTT:Hid (∀V,Below WA.heap.size WA V->Calls Tryz.prog 70 #[.slice aa l.length ca] V fun e w'=>e=.returned (I (bg l))/\Below V.heap.size V w'):=fun V hV=>wu l _ V (ha.below (hb0.trans (hV.mono hb0.size))) hf
 have G8:Hid (∀(V:World) (C:Int),Below w.heap.size w V->b9 w ed [I C] (.returned (.tuple #[.agg #[Nl,Nl,Nl,Nl,I 0],I C])) V):=fun V C hV=>qw _ hV
 unfold rT;by_cases c:kI l hs en=0
 · rw[au (fun x=>x c)];have HCP:kI l hs en=0->3<=nf->nf<=64->0<=ns->ns<=512->Hid (∀(W:World) fb sb pb,Below WA.heap.size WA W->W.heap[fb]?=some (.cells (rR nf.toNat) 169 (0,0))->W.heap[sb]?=some (.cells (rQ ns.toNat) 171 (0,0))->W.heap[pb]?=some (.cells #[.bool true,.slice aa l.length ca,Nl] 99 (0,0))->Calls Tryz.prog 79 #[.agg #[.slice ao hs.length cap,.slice (some (Ad fb 0)) nf.toNat nf.toNat,.slice (some (Ad sb 0)) ns.toNat ns.toNat,.slice (some (Ad pb 0)) 1 1,I 0]] W fun e w'=>∃aS nS cS aF nF cF aL nL cL aP nP cP,e=.returned (.agg #[.slice aS nS cS,.slice aF nF cF,.slice aL nL cL,.slice aP nP cP,I 0])/\Below WA.heap.size WA w'/\w'.heap[w.heap.size+1]?=some (.cells #[Nl,Nl,Nl,Nl,I 0] 30 (0,0))/\∀U,aC (fun b=>b=w.heap.size+1) w' U->b9 w (lI l hs nf ns) [I 0] (.returned (.tuple #[.agg #[.slice aS nS cS,.slice aF nF cF,.slice aL nL cL,.slice aP nP cP,I 0],I 0])) U):=fun hc h3 h64 h0 avd W fb sb pb hW g1 g2 g3=>by
    have wM:Below w.heap.size w W:=hb0.trans (hW.mono hb0.size);have hk:=aaV (cap:=cap) (ha.below wM) (h.below wM) g1 g2 g3;have hcl:=GV _ _ W hk (Vm hc nf.toNat ns.toNat (by omega) (by omega));unfold bc at hcl;simp only[uA,Ar] at hcl;refine hcl.mono fun e w' ⟨S,hs',hsame,e1,hr,hb⟩=>?_
    obtain⟨aS,nS,cS,eS⟩:∃b n d,S.vS=.slice b n d:=by obtain⟨b,d,e,_⟩:=bh hr.aM;exact⟨b,_,d,e⟩
    obtain⟨aF,nF,cF,eF⟩:∃b n d,S.vF=.slice b n d:=by obtain⟨b,d,e,_⟩:=bh hr.frames;exact⟨b,_,d,e⟩
    obtain⟨aL,nL,cL,eL⟩:∃b n d,S.vL=.slice b n d:=by obtain⟨b,d,e,_⟩:=bh hr.slots;exact⟨b,_,d,e⟩
    obtain⟨aP,nP,cP,eP⟩:∃b n d,S.vP=.slice b n d:=by obtain⟨b,d,e,_⟩:=bh hr.aj;exact⟨b,_,d,e⟩
    rw[eS,eF,eL,eP] at e1;have hbl:Below WA.heap.size WA w':=hW.trans (hb.mono hW.size);have alg:Below w.heap.size w w':=hb0.trans (hbl.mono hb0.size);have hWz:=hW.size;refine⟨aS,nS,cS,aF,nF,cF,aL,nL,cL,aP,nP,cP,e1,hbl,RB.o _ hbl,fun U hU=>⟨S,hs',hsame,by rw[eS,eF,eL,eP];rfl,(hr.kp hU (fun b hb e=>by have:=(hr.yq b hb).1;omega)).mono wM.size,aC.below alg hU alg.size (fun b e=>by omega)⟩⟩
   have ahH:=HCP c;rw[c] at EU;clear HCP ha hf h Pf he hcap hb0 kb rb mj;by_cases c3:nf<3
   · rw[aB c3];have dm:=ai (fun V (h:Below w.heap.size w V)=>G8.o V 9 h);obtain⟨P,hP⟩:=ex (b9 w ed [I 9]);show Calls _ _ _ _ (b9 w ed [I 9]);rw[<- hP] at dm ⊢;clear hP G8 ahH c HTT;go_enter Tryz.func30,Tryz.ntmps30;go_upto_region 1 with fail;rw[<- se.o];go_upto_region 5 with(go_at_call 69;refine EU.o.mono ?_;rintro e w1 ⟨rfl,hb1⟩;have sX:=ai (gG.o.trans (hb1.mono gG.o.size));have R1:=ai (RB.o _ hb1);clear hb1)
     obtain⟨y0,y1,y2,y3,y4⟩:=iI R1.o;have f0:=aQ R1.o 0;have f1:=aQ R1.o 1;have f2:=aQ R1.o 2;have f3:=aQ R1.o 3;have f4:=aQ R1.o 4;have h5:=ai (fun V=>lV R1.o Nl Nl Nl Nl (I 0) (V:=V));go_wp2;obtain⟨r1,r2⟩:=h5.out _ rfl;obtain⟨y0,y1,y2,y3,y4⟩:=iI r1;refine bK (v:=.tuple #[.agg #[Nl,Nl,Nl,Nl,I 0],I 9]) (by simp[results,Tryz.results30,go_sem,y0,y1,y2,y3,y4]) rfl ?_;exact dm.o _ (aC.below sX.o r2 sX.o.size (fun b e=>by omega))
   rw[au c3];by_cases cr:nf>64∨ns<0∨ns>512
   · rw[aB cr];rcases(show 64<nf∨(¬64<nf/\ns<0)∨(¬64<nf/\¬ns<0/\512<ns) by omega) with g1 | ⟨g1,g2⟩ | ⟨g1,g2,g3⟩
     all_goals
      clear cr;have dm:=ai (fun V (h:Below w.heap.size w V)=>G8.o V 3 h);obtain⟨P,hP⟩:=ex (b9 w ed [I 3]);show Calls _ _ _ _ (b9 w ed [I 3]);rw[<- hP] at dm ⊢;clear hP G8 ahH c HTT;go_enter Tryz.func30,Tryz.ntmps30;go_upto_region 1 with fail;rw[<- se.o];go_upto_region 7 with(go_at_call 69;refine EU.o.mono ?_;rintro e w1 ⟨rfl,hb1⟩;have sX:=ai (gG.o.trans (hb1.mono gG.o.size));have R1:=ai (RB.o _ hb1);clear hb1)
      obtain⟨y0,y1,y2,y3,y4⟩:=iI R1.o;have f0:=aQ R1.o 0;have f1:=aQ R1.o 1;have f2:=aQ R1.o 2;have f3:=aQ R1.o 3;have f4:=aQ R1.o 4;have h5:=ai (fun V=>lV R1.o Nl Nl Nl Nl (I 0) (V:=V));go_wp2;obtain⟨r1,r2⟩:=h5.out _ rfl;obtain⟨y0,y1,y2,y3,y4⟩:=iI r1;refine bK (v:=.tuple #[.agg #[Nl,Nl,Nl,Nl,I 0],I 3]) (by simp[results,Tryz.results30,go_sem,y0,y1,y2,y3,y4]) rfl ?_;exact dm.o _ (aC.below sX.o r2 sX.o.size (fun b e=>by omega))
   rw[au cr];have g1:¬64<nf:=by omega
   have g2:¬ns<0:=by omega
   have g3:¬512<ns:=by omega
   have HNC:=ahH (by omega) (by omega) (by omega) (by omega);have e2:=fun V:World=>ajq V nf (by omega) (by omega)
   have e3:=fun V:World=>ajp V ns (by omega) (by omega)
   clear cr ahH c;have htb:=sH l;obtain⟨T1,hT1⟩:=ex (bg l);rw[<- hT1] at HTT htb ⊢;clear hT1;by_cases ct:T1>ns
   · rw[aB ct];have c2:ns<T1:=ct;have dm:=ai (fun V (h:Below w.heap.size w V)=>G8.o V 8 h);obtain⟨P,hP⟩:=ex (b9 w ed [I 8]);show Calls _ _ _ _ (b9 w ed [I 8]);rw[<- hP] at dm ⊢;clear hP G8 HNC e2 e3 ct;go_enter Tryz.func30,Tryz.ntmps30;go_upto_region 1 with fail;rw[<- se.o];go_upto_region 9 with(first
      | (go_at_call 69;refine EU.o.mono ?_;rintro e w1 ⟨rfl,hb1⟩;have cM:=ai hb1;obtain⟨j0,j1,j2⟩:=ET (KB.o _ hb1);clear hb1)
      | (go_at_call 70;refine(HTT.o _ cM.o).mono ?_;rintro e w2 ⟨rfl,hb2⟩;have hb3:=cM.o.trans (hb2.mono cM.o.size);have sX:=ai (gG.o.trans (hb3.mono gG.o.size));have R1:=ai (RB.o _ hb3);clear hb2 hb3))
     obtain⟨y0,y1,y2,y3,y4⟩:=iI R1.o;have f0:=aQ R1.o 0;have f1:=aQ R1.o 1;have f2:=aQ R1.o 2;have f3:=aQ R1.o 3;have f4:=aQ R1.o 4;have h5:=ai (fun V=>lV R1.o Nl Nl Nl Nl (I 0) (V:=V));go_wp2;obtain⟨r1,r2⟩:=h5.out _ rfl;obtain⟨y0,y1,y2,y3,y4⟩:=iI r1;refine bK (v:=.tuple #[.agg #[Nl,Nl,Nl,Nl,I 0],I 8]) (by simp[results,Tryz.results30,go_sem,y0,y1,y2,y3,y4]) rfl ?_;exact dm.o _ (aC.below sX.o r2 sX.o.size (fun b e=>by omega))
   rw[au ct];have c2:¬ns<T1:=ct;obtain⟨P,hP⟩:=ex (b9 w (lI l hs nf ns) [I 0]);show Calls _ _ _ _ (b9 w (lI l hs nf ns) [I 0]);rw[<- hP] at HNC ⊢;obtain⟨NF,hNF⟩:=ex nf.toNat
   obtain⟨NS,hNS⟩:=ex ns.toNat
   rw[<- hNF] at HNC;rw[<- hNS] at HNC;simp only[<- hNF] at e2;simp only[<- hNS] at e3;clear hP hNF hNS G8 ct;go_enter Tryz.func30,Tryz.ntmps30;go_upto_region 1 with fail;rw[<- se.o];go_upto_region 10 with(first
    | (go_at_call 69;refine EU.o.mono ?_;rintro e w1 ⟨rfl,hb1⟩;have cM:=ai hb1;obtain⟨j0,j1,j2⟩:=ET (KB.o _ hb1);clear hb1)
    | (go_at_call 70;refine(HTT.o _ cM.o).mono ?_;rintro e w2 ⟨rfl,hb2⟩;have gP:=ai (cM.o.trans (hb2.mono cM.o.size));clear hb2))
   clear j0 j1 j2 EU HTT;have qu:Hid (∀V,Below WA.heap.size WA V->V.cell? (Ad w.heap.size 0)=some (.slice aa l.length ca)/\V.cell? (Ad w.heap.size 1)=some (.slice ao hs.length cap)):=fun V hV=>⟨aq (KB.o _ hV) 0 rfl,aq (KB.o _ hV) 1 rfl⟩
   refine xe (S:=fun V=>V.cell? (Ad w.heap.size 0)=some (.slice aa l.length ca)/\V.cell? (Ad w.heap.size 1)=some (.slice ao hs.length cap)) (z:=13) (by kernel_rfl) ?_;have oh:=ai (gP.o.drew);obtain⟨V0,hV0⟩:=ex w2.drew;rw[<- hV0] at oh ⊢;clear hV0;refine iE 0 (qu.o _ oh.o) ?_ ?_ ?_;rotate_left 1
   · intro V h;obtain⟨k0,k1⟩:=h;go_simp
     try with_reducible rfl
   refine iE 1 (qu.o _ oh.o) ?_ ?_ ?_;rotate_left 1
   · intro V h;obtain⟨k0,k1⟩:=h;go_simp
     try with_reducible rfl
   refine iE 2 (qu.o _ oh.o) ?_ ?_ ?_;rotate_left 1
   · intro V h;obtain⟨k0,k1⟩:=h;go_simp
     try with_reducible rfl
   refine iE 4 (qu.o _ oh.o) ?_ ?_ ?_;rotate_left 1
   · intro V h;obtain⟨k0,k1⟩:=h;go_simp
     try with_reducible rfl
   refine iE 6 (qu.o _ oh.o) ?_ ?_ ?_;rotate_left 1
   · intro V h;obtain⟨k0,k1⟩:=h;go_simp
     try with_reducible rfl
   refine iE 7 (qu.o _ oh.o) ?_ ?_ ?_;rotate_left 1
   · intro V h;obtain⟨k0,k1⟩:=h;go_simp
     try with_reducible rfl
   refine iE 8 (qu.o _ oh.o) ?_ ?_ ?_;rotate_left 1
   · intro V h;obtain⟨k0,k1⟩:=h;go_simp
     try with_reducible rfl
   refine eu (rs:=[3,5,9]) (by kernel_rfl) (by simp) ?_;refine bo.cons rfl (fun K hK=>?_) (bo.cons rfl (fun K hK=>?_) (bo.cons rfl (fun K hK=>?_) bo.nil))
   · go_simp;refine hK.out _ _ (fun _=>?_) ?_
     · exact qu.o _ (oh.o.alloc oh.o.size _)
     clear hK K;have yr:=ai (oh.o.alloc oh.o.size (.cells (rR NF) 169));have BF:=ai (bD V0 (rR NF) 169);obtain⟨V1,hV1⟩:=ex (V0.alloc (.cells (rR NF) 169));obtain⟨bF,hbF⟩:=ex V0.heap.size;rw[<- hV1] at yr BF ⊢;rw[<- hbF] at BF ⊢;clear hV1 hbF
     try simp only[Act.put,dC,dw,dh]
     refine eu (rs:=[5,9]) (by kernel_rfl) (by simp) ?_;refine bo.cons rfl (fun K hK=>?_) (bo.cons rfl (fun K hK=>?_) bo.nil)
     · go_simp;refine hK.out _ _ (fun _=>?_) ?_
       · exact qu.o _ (yr.o.alloc yr.o.size _)
       clear hK K;have rJ:=ai (yr.o.alloc yr.o.size (.cells (rQ NS) 171));have BF:=ai (bl BF.o (.cells (rQ NS) 171));have BL:=ai (bD V1 (rQ NS) 171);obtain⟨V2,hV2⟩:=ex (V1.alloc (.cells (rQ NS) 171));obtain⟨bL,hbL⟩:=ex V1.heap.size;rw[<- hV2] at rJ BF BL ⊢;rw[<- hbL] at BL ⊢;clear hV2 hbL
       try simp only[Act.put,dC,dw,dh]
       refine eu (rs:=[9]) (by kernel_rfl) (by simp) ?_;refine bo.cons rfl (fun K hK=>?_) bo.nil;go_simp;refine hK.out _ _ (fun _=>?_) ?_
       · exact qu.o _ (rJ.o.alloc rJ.o.size _)
       clear hK K;have si:=ai (rJ.o.alloc rJ.o.size (.cells #[.bool true,.slice aa l.length ca,Nl] 99));have BF:=ai (bl BF.o (.cells #[.bool true,.slice aa l.length ca,Nl] 99));have BL:=ai (bl BL.o (.cells #[.bool true,.slice aa l.length ca,Nl] 99));have BP:=ai (bD V2 #[.bool true,.slice aa l.length ca,Nl] 99);obtain⟨V3,XJ⟩:=ex (V2.alloc (.cells #[.bool true,.slice aa l.length ca,Nl] 99));obtain⟨bP,Xj⟩:=ex V2.heap.size;rw[<- XJ] at si BF BL BP ⊢;rw[<- Xj] at BP ⊢;clear XJ Xj
       try simp only[Act.put,dC,dw,dh]
       refine iE 10 (qu.o _ si.o) ?_ ?_ ?_;rotate_left 1
       · intro V h;obtain⟨k0,k1⟩:=h;go_simp
         try with_reducible rfl
       refine eu (rs:=[11]) (by kernel_rfl) (by simp) ?_;refine bo.cons rfl (fun K hK=>?_) bo.nil;rw[aB (by rfl)];go_simp;go_at_call 79;refine(HNC.o _ _ _ _ si.o BF.o BL.o BP.o).mono ?_;rintro e w6 ⟨aS,nS,cS,aF,nF,cF,aL,nL,cL,aP,nP,cP,rfl,XI,Xx,hfin⟩;have V9:=ai XI;have R6:=ai Xx;have Ai:=ai hfin;clear XI Xx hfin;try go_simp;refine hK.out _ _ (fun _=>?_) ?_
       · exact qu.o _ V9.o
       clear hK K
       try simp only[Act.put,dC,dw,dh]
       obtain⟨y0,y1,y2,y3,y4⟩:=iI R6.o;have f0:=aQ R6.o 0;have f1:=aQ R6.o 1;have f2:=aQ R6.o 2;have f3:=aQ R6.o 3;have f4:=aQ R6.o 4;have h5:=ai (fun V=>lV R6.o (.slice aS nS cS) (.slice aF nF cF) (.slice aL nL cL) (.slice aP nP cP) (I 0) (V:=V));refine eu (rs:=[12]) (by kernel_rfl) (by simp) ?_;refine bo.cons rfl (fun K hK=>?_) bo.nil;go_simp;obtain⟨r1,r2⟩:=h5.out _ rfl;refine hK.out _ _ (fun _=>?_) ?_
       · have:=r2.keep (KB.o _ V9.o) (show ¬w.heap.size=w.heap.size+1 by omega);exact⟨aq this 0 rfl,aq this 1 rfl⟩
       clear hK K
       try simp only[Act.put,dC,dw,dh]
       refine eu (rs:=[13]) (by kernel_rfl) (by simp) ?_;refine bo.cons rfl (fun K hK=>?_) bo.nil;go_simp;refine hK.out _ _ (fun g=>absurd rfl g) ?_;refine qO (by kernel_rfl) ?_ _;go_wp2;obtain⟨y0,y1,y2,y3,y4⟩:=iI r1;refine bK (v:=.tuple #[.agg #[.slice aS nS cS,.slice aF nF cF,.slice aL nL cL,.slice aP nP cP,I 0],I 0]) (by simp[results,Tryz.results30,go_sem,y0,y1,y2,y3,y4]) rfl ?_;exact Ai.o _ r2
     · go_simp;refine hK.out _ _ (fun _=>?_) ?_
       · exact qu.o _ (yr.o.alloc yr.o.size _)
       clear hK K;have rJ:=ai (yr.o.alloc yr.o.size (.cells #[.bool true,.slice aa l.length ca,Nl] 99));have BF:=ai (bl BF.o (.cells #[.bool true,.slice aa l.length ca,Nl] 99));have BP:=ai (bD V1 #[.bool true,.slice aa l.length ca,Nl] 99);obtain⟨V2,hV2⟩:=ex (V1.alloc (.cells #[.bool true,.slice aa l.length ca,Nl] 99));obtain⟨bP,Xj⟩:=ex V1.heap.size;rw[<- hV2] at rJ BF BP ⊢;rw[<- Xj] at BP ⊢;clear hV2 Xj
       try simp only[Act.put,dC,dw,dh]
       refine eu (rs:=[5]) (by kernel_rfl) (by simp) ?_;refine bo.cons rfl (fun K hK=>?_) bo.nil;go_simp;refine hK.out _ _ (fun _=>?_) ?_
       · exact qu.o _ (rJ.o.alloc rJ.o.size _)
       clear hK K;have si:=ai (rJ.o.alloc rJ.o.size (.cells (rQ NS) 171));have BF:=ai (bl BF.o (.cells (rQ NS) 171));have BP:=ai (bl BP.o (.cells (rQ NS) 171));have BL:=ai (bD V2 (rQ NS) 171);obtain⟨V3,XJ⟩:=ex (V2.alloc (.cells (rQ NS) 171));obtain⟨bL,hbL⟩:=ex V2.heap.size;rw[<- XJ] at si BF BP BL ⊢;rw[<- hbL] at BL ⊢;clear XJ hbL
       try simp only[Act.put,dC,dw,dh]
       refine iE 10 (qu.o _ si.o) ?_ ?_ ?_;rotate_left 1
       · intro V h;obtain⟨k0,k1⟩:=h;go_simp
         try with_reducible rfl
       refine eu (rs:=[11]) (by kernel_rfl) (by simp) ?_;refine bo.cons rfl (fun K hK=>?_) bo.nil;rw[aB (by rfl)];go_simp;go_at_call 79;refine(HNC.o _ _ _ _ si.o BF.o BL.o BP.o).mono ?_;rintro e w6 ⟨aS,nS,cS,aF,nF,cF,aL,nL,cL,aP,nP,cP,rfl,XI,Xx,hfin⟩;have V9:=ai XI;have R6:=ai Xx;have Ai:=ai hfin;clear XI Xx hfin;try go_simp;refine hK.out _ _ (fun _=>?_) ?_
       · exact qu.o _ V9.o
       clear hK K
       try simp only[Act.put,dC,dw,dh]
       obtain⟨y0,y1,y2,y3,y4⟩:=iI R6.o;have f0:=aQ R6.o 0;have f1:=aQ R6.o 1;have f2:=aQ R6.o 2;have f3:=aQ R6.o 3;have f4:=aQ R6.o 4;have h5:=ai (fun V=>lV R6.o (.slice aS nS cS) (.slice aF nF cF) (.slice aL nL cL) (.slice aP nP cP) (I 0) (V:=V));refine eu (rs:=[12]) (by kernel_rfl) (by simp) ?_;refine bo.cons rfl (fun K hK=>?_) bo.nil;go_simp;obtain⟨r1,r2⟩:=h5.out _ rfl;refine hK.out _ _ (fun _=>?_) ?_
       · have:=r2.keep (KB.o _ V9.o) (show ¬w.heap.size=w.heap.size+1 by omega);exact⟨aq this 0 rfl,aq this 1 rfl⟩
       clear hK K
       try simp only[Act.put,dC,dw,dh]
       refine eu (rs:=[13]) (by kernel_rfl) (by simp) ?_;refine bo.cons rfl (fun K hK=>?_) bo.nil;go_simp;refine hK.out _ _ (fun g=>absurd rfl g) ?_;refine qO (by kernel_rfl) ?_ _;go_wp2;obtain⟨y0,y1,y2,y3,y4⟩:=iI r1;refine bK (v:=.tuple #[.agg #[.slice aS nS cS,.slice aF nF cF,.slice aL nL cL,.slice aP nP cP,I 0],I 0]) (by simp[results,Tryz.results30,go_sem,y0,y1,y2,y3,y4]) rfl ?_;exact Ai.o _ r2
   · go_simp;refine hK.out _ _ (fun _=>?_) ?_
     · exact qu.o _ (oh.o.alloc oh.o.size _)
     clear hK K;have yr:=ai (oh.o.alloc oh.o.size (.cells (rQ NS) 171));have BL:=ai (bD V0 (rQ NS) 171);obtain⟨V1,hV1⟩:=ex (V0.alloc (.cells (rQ NS) 171));obtain⟨bL,hbL⟩:=ex V0.heap.size;rw[<- hV1] at yr BL ⊢;rw[<- hbL] at BL ⊢;clear hV1 hbL
     try simp only[Act.put,dC,dw,dh]
     refine eu (rs:=[3,9]) (by kernel_rfl) (by simp) ?_;refine bo.cons rfl (fun K hK=>?_) (bo.cons rfl (fun K hK=>?_) bo.nil)
     · go_simp;refine hK.out _ _ (fun _=>?_) ?_
       · exact qu.o _ (yr.o.alloc yr.o.size _)
       clear hK K;have rJ:=ai (yr.o.alloc yr.o.size (.cells (rR NF) 169));have BL:=ai (bl BL.o (.cells (rR NF) 169));have BF:=ai (bD V1 (rR NF) 169);obtain⟨V2,hV2⟩:=ex (V1.alloc (.cells (rR NF) 169));obtain⟨bF,hbF⟩:=ex V1.heap.size;rw[<- hV2] at rJ BL BF ⊢;rw[<- hbF] at BF ⊢;clear hV2 hbF
       try simp only[Act.put,dC,dw,dh]
       refine eu (rs:=[9]) (by kernel_rfl) (by simp) ?_;refine bo.cons rfl (fun K hK=>?_) bo.nil;go_simp;refine hK.out _ _ (fun _=>?_) ?_
       · exact qu.o _ (rJ.o.alloc rJ.o.size _)
       clear hK K;have si:=ai (rJ.o.alloc rJ.o.size (.cells #[.bool true,.slice aa l.length ca,Nl] 99));have BL:=ai (bl BL.o (.cells #[.bool true,.slice aa l.length ca,Nl] 99));have BF:=ai (bl BF.o (.cells #[.bool true,.slice aa l.length ca,Nl] 99));have BP:=ai (bD V2 #[.bool true,.slice aa l.length ca,Nl] 99);obtain⟨V3,XJ⟩:=ex (V2.alloc (.cells #[.bool true,.slice aa l.length ca,Nl] 99));obtain⟨bP,Xj⟩:=ex V2.heap.size;rw[<- XJ] at si BL BF BP ⊢;rw[<- Xj] at BP ⊢;clear XJ Xj
       try simp only[Act.put,dC,dw,dh]
       refine iE 10 (qu.o _ si.o) ?_ ?_ ?_;rotate_left 1
       · intro V h;obtain⟨k0,k1⟩:=h;go_simp
         try with_reducible rfl
       refine eu (rs:=[11]) (by kernel_rfl) (by simp) ?_;refine bo.cons rfl (fun K hK=>?_) bo.nil;rw[aB (by rfl)];go_simp;go_at_call 79;refine(HNC.o _ _ _ _ si.o BF.o BL.o BP.o).mono ?_;rintro e w6 ⟨aS,nS,cS,aF,nF,cF,aL,nL,cL,aP,nP,cP,rfl,XI,Xx,hfin⟩;have V9:=ai XI;have R6:=ai Xx;have Ai:=ai hfin;clear XI Xx hfin;try go_simp;refine hK.out _ _ (fun _=>?_) ?_
       · exact qu.o _ V9.o
       clear hK K
       try simp only[Act.put,dC,dw,dh]
       obtain⟨y0,y1,y2,y3,y4⟩:=iI R6.o;have f0:=aQ R6.o 0;have f1:=aQ R6.o 1;have f2:=aQ R6.o 2;have f3:=aQ R6.o 3;have f4:=aQ R6.o 4;have h5:=ai (fun V=>lV R6.o (.slice aS nS cS) (.slice aF nF cF) (.slice aL nL cL) (.slice aP nP cP) (I 0) (V:=V));refine eu (rs:=[12]) (by kernel_rfl) (by simp) ?_;refine bo.cons rfl (fun K hK=>?_) bo.nil;go_simp;obtain⟨r1,r2⟩:=h5.out _ rfl;refine hK.out _ _ (fun _=>?_) ?_
       · have:=r2.keep (KB.o _ V9.o) (show ¬w.heap.size=w.heap.size+1 by omega);exact⟨aq this 0 rfl,aq this 1 rfl⟩
       clear hK K
       try simp only[Act.put,dC,dw,dh]
       refine eu (rs:=[13]) (by kernel_rfl) (by simp) ?_;refine bo.cons rfl (fun K hK=>?_) bo.nil;go_simp;refine hK.out _ _ (fun g=>absurd rfl g) ?_;refine qO (by kernel_rfl) ?_ _;go_wp2;obtain⟨y0,y1,y2,y3,y4⟩:=iI r1;refine bK (v:=.tuple #[.agg #[.slice aS nS cS,.slice aF nF cF,.slice aL nL cL,.slice aP nP cP,I 0],I 0]) (by simp[results,Tryz.results30,go_sem,y0,y1,y2,y3,y4]) rfl ?_;exact Ai.o _ r2
     · go_simp;refine hK.out _ _ (fun _=>?_) ?_
       · exact qu.o _ (yr.o.alloc yr.o.size _)
       clear hK K;have rJ:=ai (yr.o.alloc yr.o.size (.cells #[.bool true,.slice aa l.length ca,Nl] 99));have BL:=ai (bl BL.o (.cells #[.bool true,.slice aa l.length ca,Nl] 99));have BP:=ai (bD V1 #[.bool true,.slice aa l.length ca,Nl] 99);obtain⟨V2,hV2⟩:=ex (V1.alloc (.cells #[.bool true,.slice aa l.length ca,Nl] 99));obtain⟨bP,Xj⟩:=ex V1.heap.size;rw[<- hV2] at rJ BL BP ⊢;rw[<- Xj] at BP ⊢;clear hV2 Xj
       try simp only[Act.put,dC,dw,dh]
       refine eu (rs:=[3]) (by kernel_rfl) (by simp) ?_;refine bo.cons rfl (fun K hK=>?_) bo.nil;go_simp;refine hK.out _ _ (fun _=>?_) ?_
       · exact qu.o _ (rJ.o.alloc rJ.o.size _)
       clear hK K;have si:=ai (rJ.o.alloc rJ.o.size (.cells (rR NF) 169));have BL:=ai (bl BL.o (.cells (rR NF) 169));have BP:=ai (bl BP.o (.cells (rR NF) 169));have BF:=ai (bD V2 (rR NF) 169);obtain⟨V3,XJ⟩:=ex (V2.alloc (.cells (rR NF) 169));obtain⟨bF,hbF⟩:=ex V2.heap.size;rw[<- XJ] at si BL BP BF ⊢;rw[<- hbF] at BF ⊢;clear XJ hbF
       try simp only[Act.put,dC,dw,dh]
       refine iE 10 (qu.o _ si.o) ?_ ?_ ?_;rotate_left 1
       · intro V h;obtain⟨k0,k1⟩:=h;go_simp
         try with_reducible rfl
       refine eu (rs:=[11]) (by kernel_rfl) (by simp) ?_;refine bo.cons rfl (fun K hK=>?_) bo.nil;rw[aB (by rfl)];go_simp;go_at_call 79;refine(HNC.o _ _ _ _ si.o BF.o BL.o BP.o).mono ?_;rintro e w6 ⟨aS,nS,cS,aF,nF,cF,aL,nL,cL,aP,nP,cP,rfl,XI,Xx,hfin⟩;have V9:=ai XI;have R6:=ai Xx;have Ai:=ai hfin;clear XI Xx hfin;try go_simp;refine hK.out _ _ (fun _=>?_) ?_
       · exact qu.o _ V9.o
       clear hK K
       try simp only[Act.put,dC,dw,dh]
       obtain⟨y0,y1,y2,y3,y4⟩:=iI R6.o;have f0:=aQ R6.o 0;have f1:=aQ R6.o 1;have f2:=aQ R6.o 2;have f3:=aQ R6.o 3;have f4:=aQ R6.o 4;have h5:=ai (fun V=>lV R6.o (.slice aS nS cS) (.slice aF nF cF) (.slice aL nL cL) (.slice aP nP cP) (I 0) (V:=V));refine eu (rs:=[12]) (by kernel_rfl) (by simp) ?_;refine bo.cons rfl (fun K hK=>?_) bo.nil;go_simp;obtain⟨r1,r2⟩:=h5.out _ rfl;refine hK.out _ _ (fun _=>?_) ?_
       · have:=r2.keep (KB.o _ V9.o) (show ¬w.heap.size=w.heap.size+1 by omega);exact⟨aq this 0 rfl,aq this 1 rfl⟩
       clear hK K
       try simp only[Act.put,dC,dw,dh]
       refine eu (rs:=[13]) (by kernel_rfl) (by simp) ?_;refine bo.cons rfl (fun K hK=>?_) bo.nil;go_simp;refine hK.out _ _ (fun g=>absurd rfl g) ?_;refine qO (by kernel_rfl) ?_ _;go_wp2;obtain⟨y0,y1,y2,y3,y4⟩:=iI r1;refine bK (v:=.tuple #[.agg #[.slice aS nS cS,.slice aF nF cF,.slice aL nL cL,.slice aP nP cP,I 0],I 0]) (by simp[results,Tryz.results30,go_sem,y0,y1,y2,y3,y4]) rfl ?_;exact Ai.o _ r2
   · go_simp;refine hK.out _ _ (fun _=>?_) ?_
     · exact qu.o _ (oh.o.alloc oh.o.size _)
     clear hK K;have yr:=ai (oh.o.alloc oh.o.size (.cells #[.bool true,.slice aa l.length ca,Nl] 99));have BP:=ai (bD V0 #[.bool true,.slice aa l.length ca,Nl] 99);obtain⟨V1,hV1⟩:=ex (V0.alloc (.cells #[.bool true,.slice aa l.length ca,Nl] 99));obtain⟨bP,Xj⟩:=ex V0.heap.size;rw[<- hV1] at yr BP ⊢;rw[<- Xj] at BP ⊢;clear hV1 Xj
     try simp only[Act.put,dC,dw,dh]
     refine eu (rs:=[3,5]) (by kernel_rfl) (by simp) ?_;refine bo.cons rfl (fun K hK=>?_) (bo.cons rfl (fun K hK=>?_) bo.nil)
     · go_simp;refine hK.out _ _ (fun _=>?_) ?_
       · exact qu.o _ (yr.o.alloc yr.o.size _)
       clear hK K;have rJ:=ai (yr.o.alloc yr.o.size (.cells (rR NF) 169));have BP:=ai (bl BP.o (.cells (rR NF) 169));have BF:=ai (bD V1 (rR NF) 169);obtain⟨V2,hV2⟩:=ex (V1.alloc (.cells (rR NF) 169));obtain⟨bF,hbF⟩:=ex V1.heap.size;rw[<- hV2] at rJ BP BF ⊢;rw[<- hbF] at BF ⊢;clear hV2 hbF
       try simp only[Act.put,dC,dw,dh]
       refine eu (rs:=[5]) (by kernel_rfl) (by simp) ?_;refine bo.cons rfl (fun K hK=>?_) bo.nil;go_simp;refine hK.out _ _ (fun _=>?_) ?_
       · exact qu.o _ (rJ.o.alloc rJ.o.size _)
       clear hK K;have si:=ai (rJ.o.alloc rJ.o.size (.cells (rQ NS) 171));have BP:=ai (bl BP.o (.cells (rQ NS) 171));have BF:=ai (bl BF.o (.cells (rQ NS) 171));have BL:=ai (bD V2 (rQ NS) 171);obtain⟨V3,XJ⟩:=ex (V2.alloc (.cells (rQ NS) 171));obtain⟨bL,hbL⟩:=ex V2.heap.size;rw[<- XJ] at si BP BF BL ⊢;rw[<- hbL] at BL ⊢;clear XJ hbL
       try simp only[Act.put,dC,dw,dh]
       refine iE 10 (qu.o _ si.o) ?_ ?_ ?_;rotate_left 1
       · intro V h;obtain⟨k0,k1⟩:=h;go_simp
         try with_reducible rfl
       refine eu (rs:=[11]) (by kernel_rfl) (by simp) ?_;refine bo.cons rfl (fun K hK=>?_) bo.nil;rw[aB (by rfl)];go_simp;go_at_call 79;refine(HNC.o _ _ _ _ si.o BF.o BL.o BP.o).mono ?_;rintro e w6 ⟨aS,nS,cS,aF,nF,cF,aL,nL,cL,aP,nP,cP,rfl,XI,Xx,hfin⟩;have V9:=ai XI;have R6:=ai Xx;have Ai:=ai hfin;clear XI Xx hfin;try go_simp;refine hK.out _ _ (fun _=>?_) ?_
       · exact qu.o _ V9.o
       clear hK K
       try simp only[Act.put,dC,dw,dh]
       obtain⟨y0,y1,y2,y3,y4⟩:=iI R6.o;have f0:=aQ R6.o 0;have f1:=aQ R6.o 1;have f2:=aQ R6.o 2;have f3:=aQ R6.o 3;have f4:=aQ R6.o 4;have h5:=ai (fun V=>lV R6.o (.slice aS nS cS) (.slice aF nF cF) (.slice aL nL cL) (.slice aP nP cP) (I 0) (V:=V));refine eu (rs:=[12]) (by kernel_rfl) (by simp) ?_;refine bo.cons rfl (fun K hK=>?_) bo.nil;go_simp;obtain⟨r1,r2⟩:=h5.out _ rfl;refine hK.out _ _ (fun _=>?_) ?_
       · have:=r2.keep (KB.o _ V9.o) (show ¬w.heap.size=w.heap.size+1 by omega);exact⟨aq this 0 rfl,aq this 1 rfl⟩
       clear hK K
       try simp only[Act.put,dC,dw,dh]
       refine eu (rs:=[13]) (by kernel_rfl) (by simp) ?_;refine bo.cons rfl (fun K hK=>?_) bo.nil;go_simp;refine hK.out _ _ (fun g=>absurd rfl g) ?_;refine qO (by kernel_rfl) ?_ _;go_wp2;obtain⟨y0,y1,y2,y3,y4⟩:=iI r1;refine bK (v:=.tuple #[.agg #[.slice aS nS cS,.slice aF nF cF,.slice aL nL cL,.slice aP nP cP,I 0],I 0]) (by simp[results,Tryz.results30,go_sem,y0,y1,y2,y3,y4]) rfl ?_;exact Ai.o _ r2
     · go_simp;refine hK.out _ _ (fun _=>?_) ?_
       · exact qu.o _ (yr.o.alloc yr.o.size _)
       clear hK K;have rJ:=ai (yr.o.alloc yr.o.size (.cells (rQ NS) 171));have BP:=ai (bl BP.o (.cells (rQ NS) 171));have BL:=ai (bD V1 (rQ NS) 171);obtain⟨V2,hV2⟩:=ex (V1.alloc (.cells (rQ NS) 171));obtain⟨bL,hbL⟩:=ex V1.heap.size;rw[<- hV2] at rJ BP BL ⊢;rw[<- hbL] at BL ⊢;clear hV2 hbL
       try simp only[Act.put,dC,dw,dh]
       refine eu (rs:=[3]) (by kernel_rfl) (by simp) ?_;refine bo.cons rfl (fun K hK=>?_) bo.nil;go_simp;refine hK.out _ _ (fun _=>?_) ?_
       · exact qu.o _ (rJ.o.alloc rJ.o.size _)
       clear hK K;have si:=ai (rJ.o.alloc rJ.o.size (.cells (rR NF) 169));have BP:=ai (bl BP.o (.cells (rR NF) 169));have BL:=ai (bl BL.o (.cells (rR NF) 169));have BF:=ai (bD V2 (rR NF) 169);obtain⟨V3,XJ⟩:=ex (V2.alloc (.cells (rR NF) 169));obtain⟨bF,hbF⟩:=ex V2.heap.size;rw[<- XJ] at si BP BL BF ⊢;rw[<- hbF] at BF ⊢;clear XJ hbF
       try simp only[Act.put,dC,dw,dh]
       refine iE 10 (qu.o _ si.o) ?_ ?_ ?_;rotate_left 1
       · intro V h;obtain⟨k0,k1⟩:=h;go_simp
         try with_reducible rfl
       refine eu (rs:=[11]) (by kernel_rfl) (by simp) ?_;refine bo.cons rfl (fun K hK=>?_) bo.nil;rw[aB (by rfl)];go_simp;go_at_call 79;refine(HNC.o _ _ _ _ si.o BF.o BL.o BP.o).mono ?_;rintro e w6 ⟨aS,nS,cS,aF,nF,cF,aL,nL,cL,aP,nP,cP,rfl,XI,Xx,hfin⟩;have V9:=ai XI;have R6:=ai Xx;have Ai:=ai hfin;clear XI Xx hfin;try go_simp;refine hK.out _ _ (fun _=>?_) ?_
       · exact qu.o _ V9.o
       clear hK K
       try simp only[Act.put,dC,dw,dh]
       obtain⟨y0,y1,y2,y3,y4⟩:=iI R6.o;have f0:=aQ R6.o 0;have f1:=aQ R6.o 1;have f2:=aQ R6.o 2;have f3:=aQ R6.o 3;have f4:=aQ R6.o 4;have h5:=ai (fun V=>lV R6.o (.slice aS nS cS) (.slice aF nF cF) (.slice aL nL cL) (.slice aP nP cP) (I 0) (V:=V));refine eu (rs:=[12]) (by kernel_rfl) (by simp) ?_;refine bo.cons rfl (fun K hK=>?_) bo.nil;go_simp;obtain⟨r1,r2⟩:=h5.out _ rfl;refine hK.out _ _ (fun _=>?_) ?_
       · have:=r2.keep (KB.o _ V9.o) (show ¬w.heap.size=w.heap.size+1 by omega);exact⟨aq this 0 rfl,aq this 1 rfl⟩
       clear hK K
       try simp only[Act.put,dC,dw,dh]
       refine eu (rs:=[13]) (by kernel_rfl) (by simp) ?_;refine bo.cons rfl (fun K hK=>?_) bo.nil;go_simp;refine hK.out _ _ (fun g=>absurd rfl g) ?_;refine qO (by kernel_rfl) ?_ _;go_wp2;obtain⟨y0,y1,y2,y3,y4⟩:=iI r1;refine bK (v:=.tuple #[.agg #[.slice aS nS cS,.slice aF nF cF,.slice aL nL cL,.slice aP nP cP,I 0],I 0]) (by simp[results,Tryz.results30,go_sem,y0,y1,y2,y3,y4]) rfl ?_;exact Ai.o _ r2
 · rw[aB c];obtain⟨C,hC⟩:=ex (kI l hs en);rw[<- hC] at EU c ⊢;have cb:(C != 0)=true:=by grind
   have dm:=ai (fun V (h:Below w.heap.size w V)=>G8.o V C h);obtain⟨P,hP⟩:=ex (b9 w ed [I C]);show Calls _ _ _ _ (b9 w ed [I C]);rw[<- hP] at dm ⊢;clear ha hf h Pf he hcap hb0 kb rb mj hC c hP G8 HTT;go_enter Tryz.func30,Tryz.ntmps30;go_upto_region 1 with fail;rw[<- se.o];go_upto_region 3 with(go_at_call 69;refine EU.o.mono ?_;rintro e w1 ⟨rfl,hb1⟩;have sX:=ai (gG.o.trans (hb1.mono gG.o.size));have R1:=ai (RB.o _ hb1);clear hb1)
   obtain⟨y0,y1,y2,y3,y4⟩:=iI R1.o;have f0:=aQ R1.o 0;have f1:=aQ R1.o 1;have f2:=aQ R1.o 2;have f3:=aQ R1.o 3;have f4:=aQ R1.o 4;have h5:=ai (fun V=>lV R1.o Nl Nl Nl Nl (I 0) (V:=V));go_wp2;obtain⟨r1,r2⟩:=h5.out _ rfl;obtain⟨y0,y1,y2,y3,y4⟩:=iI r1;refine bK (v:=.tuple #[.agg #[Nl,Nl,Nl,Nl,I 0],I C]) (by simp[results,Tryz.results30,go_sem,y0,y1,y2,y3,y4]) rfl ?_;exact dm.o _ (aC.below sX.o r2 sX.o.size (fun b e=>by omega))
open Go.RowKit
theorem Mc {w WA W1:World} {K:aR} {vs:List Value} {e:Ending} {rb:Nat} (h:b9 WA K vs e W1) (hb0:Below w.heap.size w WA) (hr:w.heap.size<=rb/\rb<WA.heap.size):∃s1 q9 q1 s2 n2 q2 s3 n3 q3 s4 n4 q4 hd,e=.returned (.tuple (Value.agg #[.slice s1 q9 q1,.slice s2 n2 q2,.slice s3 n3 q3,.slice s4 n4 q4,I hd]::vs).toArray)/\Below WA.heap.size WA W1/\∀U,aC (fun b=>b=rb) W1 U->b9 w K vs (.returned (.tuple (Value.agg #[.slice s1 q9 q1,.slice s2 n2 q2,.slice s3 n3 q3,.slice s4 n4 q4,I hd]::vs).toArray)) U:=by
 obtain⟨S,hs,h1,h2,h3,h4⟩:=h;obtain⟨aS,nS,cS,eS⟩:∃b n d,S.vS=.slice b n d:=by obtain⟨b,d,e,_⟩:=bh h3.aM;grind
 obtain⟨aF,nF,cF,eF⟩:∃b n d,S.vF=.slice b n d:=by obtain⟨b,d,e,_⟩:=bh h3.frames;grind
 obtain⟨aL,nL,cL,eL⟩:∃b n d,S.vL=.slice b n d:=by obtain⟨b,d,e,_⟩:=bh h3.slots;grind
 obtain⟨aP,nP,cP,eP⟩:∃b n d,S.vP=.slice b n d:=by obtain⟨b,d,e,_⟩:=bh h3.aj;grind
 rw[eS,eF,eL,eP] at h2;have wM:Below w.heap.size w W1:=hb0.trans (h4.mono hb0.size);refine⟨aS,nS,cS,aF,nF,cF,aL,nL,cL,aP,nP,cP,_,h2,h4,fun U hU=>⟨S,hs,h1,by grind,(h3.kp hU (fun b hb e=>by have:=(h3.yq b hb).1;omega)).mono hb0.size,aC.below wM hU wM.size (fun b e=>by omega)⟩⟩
theorem aaT (GV:ra) (k:aR) (a:ja) (sp pg n q:Int) (w:World) (hK:jo w a k) (hF:o7 k) (hsp:cK sp) (Pd:cK pg) (hn:cK n) :
  Calls Tryz.prog 263 #[.agg (bc a k),I sp,I pg,I n,I q] w (b9 w (iq k sp (dD (ak k.aj sp.toNat).aT pg n q)).1 [I (iq k sp (dD (ak k.aj sp.toNat).aT pg n q)).2]):=by
 obtain⟨WA,mj⟩:=ex (((((w.alloc (.cells (bc a k) 30)).alloc (.cells #[I pg] 3)).alloc (.cells #[I n] 3)).alloc (.cells #[I q] 3)).alloc (.cells #[Nl,Nl,Nl,Nl,I 0] 30));have hb0:Below w.heap.size w WA:=by rw[mj];exact(((((aJ _ _).alloc (aH _) _).alloc (by simp_all) _).alloc (by grind [World.size_alloc]) _).alloc (by grind [World.size_alloc]) _).alloc (by grind [World.size_alloc]) _
 have kb:WA.heap[w.heap.size]?=some (.cells (bc a k) 30 (0,0)):=by grind [bl,bD]
 have b0:WA.heap[w.heap.size+1]?=some (.cells #[I pg] 3 (0,0)):=by
  grind [bD,World.size_alloc,bl]
 have b1:WA.heap[w.heap.size+2]?=some (.cells #[I n] 3 (0,0)):=by
  grind [bD,World.size_alloc,bl]
 have b2:WA.heap[w.heap.size+3]?=some (.cells #[I q] 3 (0,0)):=by
  grind [bD,World.size_alloc,bl]
 have rb:WA.heap[w.heap.size+4]?=some (.cells #[Nl,Nl,Nl,Nl,I 0] 30 (0,0)):=by
  grind [bD,World.size_alloc]
 have hrl:=aI rb;have RB:Hid (∀V,Below WA.heap.size WA V->V.heap[w.heap.size+4]?=some (.cells #[Nl,Nl,Nl,Nl,I 0] 30 (0,0))):=fun V hb=>aN rb hb (aI rb)
 obtain⟨k0,k1,k2,k3,k4⟩:=iI (show WA.heap[w.heap.size]?=some (.cells #[.slice a.aS k.aM.length a.cS,.slice a.aF k.frames.length a.cF,.slice a.aL k.slots.length a.cL,.slice a.aP k.aj.length a.cP,I k.hand] 30 (0,0)) from kb);have LN:dH (dD (ak k.aj sp.toNat).aT pg n q).1:=Rw _ pg n q;obtain⟨K,hKK⟩:=ex ((iq k sp (dD (ak k.aj sp.toNat).aT pg n q)).1);obtain⟨er,her⟩:=ex ((iq k sp (dD (ak k.aj sp.toNat).aT pg n q)).2);rw[<- hKK,<- her];have HWT:Hid (Calls Tryz.prog 274 #[.agg (bc a k),I sp,.func (.func 275) #[] #[.pointer (some (Ad (w.heap.size+1) 0)),.pointer (some (Ad (w.heap.size+2) 0)),.pointer (some (Ad (w.heap.size+3) 0))]] WA fun e w'=>∃s1 q9 q1 s2 n2 q2 s3 n3 q3 s4 n4 q4 hd,e=.returned (.tuple #[.agg #[.slice s1 q9 q1,.slice s2 n2 q2,.slice s3 n3 q3,.slice s4 n4 q4,I hd],I er])/\Below WA.heap.size WA w'/\∀U,aC (fun b=>b=w.heap.size+4) w' U->b9 w K [I er] (.returned (.tuple #[.agg #[.slice s1 q9 q1,.slice s2 n2 q2,.slice s3 n3 q3,.slice s4 n4 q4,I hd],I er])) U):=by
  refine(Fe GV k a sp WA (hK.below hb0) hF hsp (dD (ak k.aj sp.toNat).aT pg n q) LN 275 [.pointer (some (Ad (w.heap.size+1) 0)),.pointer (some (Ad (w.heap.size+2) 0)),.pointer (some (Ad (w.heap.size+3) 0))] (w.heap.size+1) (w.heap.size+2) (w.heap.size+3) (.inl ⟨rfl,rfl⟩) (fun V ao cap hV h1 h2=>?_)).mono fun e w' h=>?_
  · exact Yo _ ao _ cap pg n q _ _ _ V h1 h2 Pd hn (aq (aN b0 hV (aI b0)) 0 rfl) (aq (aN b1 hV (aI b1)) 0 rfl) (aq (aN b2 hV (aI b2)) 0 rfl)
  · rw[<- hKK,<- her] at h;exact Mc h hb0 ⟨by omega,hrl⟩
 have se:=ai mj;obtain⟨P,hP⟩:=ex (b9 w K [I er]);rw[<- hP] at HWT ⊢;unfold bc at HWT se ⊢;clear hb0 kb b0 b1 b2 rb mj hK hF hsp Pd hn LN hKK her hP GV;go_enter Tryz.func263,Tryz.ntmps263;go_upto_region 1 with fail
 (try simp only[yL,Nat.reduceAdd])
 rw[<- se.o];go_wp2_with (go_at_call 274;refine HWT.o.mono ?_;rintro e w1 ⟨s1,q9,q1,s2,n2,q2,s3,n3,q3,s4,n4,q4,hd,rfl,hb1,hfin⟩;have Ai:=ai hfin;have R1:=ai (RB.o _ hb1);clear hfin hb1;obtain⟨y0,y1,y2,y3,y4⟩:=iI R1.o;have f0:=aQ R1.o 0;have f1:=aQ R1.o 1;have f2:=aQ R1.o 2;have f3:=aQ R1.o 3;have f4:=aQ R1.o 4;have h5:=ai (fun V=>lV R1.o (.slice s1 q9 q1) (.slice s2 n2 q2) (.slice s3 n3 q3) (.slice s4 n4 q4) (I hd) (V:=V)))
 obtain⟨r1,r2⟩:=h5.out _ rfl;obtain⟨y0,y1,y2,y3,y4⟩:=iI r1;refine bK (v:=.tuple #[.agg #[.slice s1 q9 q1,.slice s2 n2 q2,.slice s3 n3 q3,.slice s4 n4 q4,I hd],I er]) (by simp[results,Tryz.results263,go_sem,y0,y1,y2,y3,y4]) rfl ?_;exact Ai.o _ r2
theorem Vk (GV:ra) (k:aR) (a:ja) (sp pg n:Int) (w:World) (hK:jo w a k) (hF:o7 k) (hsp:cK sp) (Pd:cK pg) (hn:cK n) :
  Calls Tryz.prog 266 #[.agg (bc a k),I sp,I pg,I n] w (b9 w (iq k sp (cN (ak k.aj sp.toNat).aT pg n)).1 [I (iq k sp (cN (ak k.aj sp.toNat).aT pg n)).2]):=by
 obtain⟨WA,mj⟩:=ex ((((w.alloc (.cells (bc a k) 30)).alloc (.cells #[I pg] 3)).alloc (.cells #[I n] 3)).alloc (.cells #[Nl,Nl,Nl,Nl,I 0] 30));have hb0:Below w.heap.size w WA:=by grind [Below.refl,World.size_alloc,Below.alloc]
 have kb:WA.heap[w.heap.size]?=some (.cells (bc a k) 30 (0,0)):=by grind [bl,bD]
 have b0:WA.heap[w.heap.size+1]?=some (.cells #[I pg] 3 (0,0)):=by
  grind [bD,World.size_alloc,bl]
 have b1:WA.heap[w.heap.size+2]?=some (.cells #[I n] 3 (0,0)):=by
  grind [bD,World.size_alloc,bl]
 have rb:WA.heap[w.heap.size+3]?=some (.cells #[Nl,Nl,Nl,Nl,I 0] 30 (0,0)):=by
  grind [bD,World.size_alloc]
 have hrl:=aI rb;have RB:Hid (∀V,Below WA.heap.size WA V->V.heap[w.heap.size+3]?=some (.cells #[Nl,Nl,Nl,Nl,I 0] 30 (0,0))):=fun V hb=>aN rb hb (aI rb)
 obtain⟨k0,k1,k2,k3,k4⟩:=iI (show WA.heap[w.heap.size]?=some (.cells #[.slice a.aS k.aM.length a.cS,.slice a.aF k.frames.length a.cF,.slice a.aL k.slots.length a.cL,.slice a.aP k.aj.length a.cP,I k.hand] 30 (0,0)) from kb);have LN:dH (cN (ak k.aj sp.toNat).aT pg n).1:=Xf _ pg n;obtain⟨K,hKK⟩:=ex ((iq k sp (cN (ak k.aj sp.toNat).aT pg n)).1);obtain⟨er,her⟩:=ex ((iq k sp (cN (ak k.aj sp.toNat).aT pg n)).2);rw[<- hKK,<- her];have HWT:Hid (Calls Tryz.prog 274 #[.agg (bc a k),I sp,.func (.func 279) #[] #[.pointer (some (Ad (w.heap.size+1) 0)),.pointer (some (Ad (w.heap.size+2) 0))]] WA fun e w'=>∃s1 q9 q1 s2 n2 q2 s3 n3 q3 s4 n4 q4 hd,e=.returned (.tuple #[.agg #[.slice s1 q9 q1,.slice s2 n2 q2,.slice s3 n3 q3,.slice s4 n4 q4,I hd],I er])/\Below WA.heap.size WA w'/\∀U,aC (fun b=>b=w.heap.size+3) w' U->b9 w K [I er] (.returned (.tuple #[.agg #[.slice s1 q9 q1,.slice s2 n2 q2,.slice s3 n3 q3,.slice s4 n4 q4,I hd],I er])) U):=by
  refine(Fe GV k a sp WA (hK.below hb0) hF hsp (cN (ak k.aj sp.toNat).aT pg n) LN 279 [.pointer (some (Ad (w.heap.size+1) 0)),.pointer (some (Ad (w.heap.size+2) 0))] (w.heap.size+1) (w.heap.size+2) (w.heap.size+3) (.inr (.inl ⟨rfl,rfl⟩)) (fun V ao cap hV h1 h2=>?_)).mono fun e w' h=>?_
  · exact Sl _ ao _ cap pg n _ _ V h1 h2 Pd hn (aq (aN b0 hV (aI b0)) 0 rfl) (aq (aN b1 hV (aI b1)) 0 rfl)
  · rw[<- hKK,<- her] at h;exact Mc h hb0 ⟨by omega,hrl⟩
 have se:=ai mj;obtain⟨P,hP⟩:=ex (b9 w K [I er]);rw[<- hP] at HWT ⊢;unfold bc at HWT se ⊢;clear hb0 kb b0 b1 rb mj hK hF hsp Pd hn LN hKK her hP GV;go_enter Tryz.func266,Tryz.ntmps266;go_upto_region 1 with fail
 (try simp only[yL,Nat.reduceAdd])
 rw[<- se.o];go_wp2_with (go_at_call 274;refine HWT.o.mono ?_;rintro e w1 ⟨s1,q9,q1,s2,n2,q2,s3,n3,q3,s4,n4,q4,hd,rfl,hb1,hfin⟩;have Ai:=ai hfin;have R1:=ai (RB.o _ hb1);clear hfin hb1;obtain⟨y0,y1,y2,y3,y4⟩:=iI R1.o;have f0:=aQ R1.o 0;have f1:=aQ R1.o 1;have f2:=aQ R1.o 2;have f3:=aQ R1.o 3;have f4:=aQ R1.o 4;have h5:=ai (fun V=>lV R1.o (.slice s1 q9 q1) (.slice s2 n2 q2) (.slice s3 n3 q3) (.slice s4 n4 q4) (I hd) (V:=V)))
 obtain⟨r1,r2⟩:=h5.out _ rfl;obtain⟨y0,y1,y2,y3,y4⟩:=iI r1;refine bK (v:=.tuple #[.agg #[.slice s1 q9 q1,.slice s2 n2 q2,.slice s3 n3 q3,.slice s4 n4 q4,I hd],I er]) (by simp[results,Tryz.results266,go_sem,y0,y1,y2,y3,y4]) rfl ?_;exact Ai.o _ r2
theorem Ql (GV:ra) (k:aR) (a:ja) (sp pg n q:Int) (w:World) (hK:jo w a k) (hF:o7 k) (hsp:cK sp) (Pd:cK pg) (hn:cK n) :
  Calls Tryz.prog 264 #[.agg (bc a k),I sp,I pg,I n,I q] w (b9 w (iq k sp (bR (ak k.aj sp.toNat).aT pg n q)).1 [I (iq k sp (bR (ak k.aj sp.toNat).aT pg n q)).2]):=by
 obtain⟨WA,mj⟩:=ex (((((w.alloc (.cells (bc a k) 30)).alloc (.cells #[I pg] 3)).alloc (.cells #[I n] 3)).alloc (.cells #[I q] 3)).alloc (.cells #[Nl,Nl,Nl,Nl,I 0] 30));have hb0:Below w.heap.size w WA:=by rw[mj];exact(((((aJ _ _).alloc (aH _) _).alloc (by simp_all) _).alloc (by grind [World.size_alloc]) _).alloc (by grind [World.size_alloc]) _).alloc (by grind [World.size_alloc]) _
 have kb:WA.heap[w.heap.size]?=some (.cells (bc a k) 30 (0,0)):=by grind [bl,bD]
 have b0:WA.heap[w.heap.size+1]?=some (.cells #[I pg] 3 (0,0)):=by
  grind [bD,World.size_alloc,bl]
 have b1:WA.heap[w.heap.size+2]?=some (.cells #[I n] 3 (0,0)):=by
  grind [bD,World.size_alloc,bl]
 have b2:WA.heap[w.heap.size+3]?=some (.cells #[I q] 3 (0,0)):=by
  grind [bD,World.size_alloc,bl]
 have rb:WA.heap[w.heap.size+4]?=some (.cells #[Nl,Nl,Nl,Nl,I 0] 30 (0,0)):=by
  grind [bD,World.size_alloc]
 have hrl:=aI rb;have RB:Hid (∀V,Below WA.heap.size WA V->V.heap[w.heap.size+4]?=some (.cells #[Nl,Nl,Nl,Nl,I 0] 30 (0,0))):=fun V hb=>aN rb hb (aI rb)
 obtain⟨k0,k1,k2,k3,k4⟩:=iI (show WA.heap[w.heap.size]?=some (.cells #[.slice a.aS k.aM.length a.cS,.slice a.aF k.frames.length a.cF,.slice a.aL k.slots.length a.cL,.slice a.aP k.aj.length a.cP,I k.hand] 30 (0,0)) from kb);have LN:dH (bR (ak k.aj sp.toNat).aT pg n q).1:=Rv _ pg n q;obtain⟨K,hKK⟩:=ex ((iq k sp (bR (ak k.aj sp.toNat).aT pg n q)).1);obtain⟨er,her⟩:=ex ((iq k sp (bR (ak k.aj sp.toNat).aT pg n q)).2);rw[<- hKK,<- her];have HWT:Hid (Calls Tryz.prog 274 #[.agg (bc a k),I sp,.func (.func 276) #[] #[.pointer (some (Ad (w.heap.size+1) 0)),.pointer (some (Ad (w.heap.size+2) 0)),.pointer (some (Ad (w.heap.size+3) 0))]] WA fun e w'=>∃s1 q9 q1 s2 n2 q2 s3 n3 q3 s4 n4 q4 hd,e=.returned (.tuple #[.agg #[.slice s1 q9 q1,.slice s2 n2 q2,.slice s3 n3 q3,.slice s4 n4 q4,I hd],I er])/\Below WA.heap.size WA w'/\∀U,aC (fun b=>b=w.heap.size+4) w' U->b9 w K [I er] (.returned (.tuple #[.agg #[.slice s1 q9 q1,.slice s2 n2 q2,.slice s3 n3 q3,.slice s4 n4 q4,I hd],I er])) U):=by
  refine(Fe GV k a sp WA (hK.below hb0) hF hsp (bR (ak k.aj sp.toNat).aT pg n q) LN 276 [.pointer (some (Ad (w.heap.size+1) 0)),.pointer (some (Ad (w.heap.size+2) 0)),.pointer (some (Ad (w.heap.size+3) 0))] (w.heap.size+1) (w.heap.size+2) (w.heap.size+3) (.inr (.inr ⟨rfl,rfl⟩)) (fun V ao cap hV h1 h2=>?_)).mono fun e w' h=>?_
  · exact N6 _ ao _ cap pg n q _ _ _ V h1 h2 Pd hn (aq (aN b0 hV (aI b0)) 0 rfl) (aq (aN b1 hV (aI b1)) 0 rfl) (aq (aN b2 hV (aI b2)) 0 rfl)
  · rw[<- hKK,<- her] at h;exact Mc h hb0 ⟨by omega,hrl⟩
 have se:=ai mj;obtain⟨P,hP⟩:=ex (b9 w K [I er]);rw[<- hP] at HWT ⊢;unfold bc at HWT se ⊢;clear hb0 kb b0 b1 b2 rb mj hK hF hsp Pd hn LN hKK her hP GV;go_enter Tryz.func264,Tryz.ntmps264;go_upto_region 1 with fail
 (try simp only[yL,Nat.reduceAdd])
 rw[<- se.o];go_wp2_with (go_at_call 274;refine HWT.o.mono ?_;rintro e w1 ⟨s1,q9,q1,s2,n2,q2,s3,n3,q3,s4,n4,q4,hd,rfl,hb1,hfin⟩;have Ai:=ai hfin;have R1:=ai (RB.o _ hb1);clear hfin hb1;obtain⟨y0,y1,y2,y3,y4⟩:=iI R1.o;have f0:=aQ R1.o 0;have f1:=aQ R1.o 1;have f2:=aQ R1.o 2;have f3:=aQ R1.o 3;have f4:=aQ R1.o 4;have h5:=ai (fun V=>lV R1.o (.slice s1 q9 q1) (.slice s2 n2 q2) (.slice s3 n3 q3) (.slice s4 n4 q4) (I hd) (V:=V)))
 obtain⟨r1,r2⟩:=h5.out _ rfl;obtain⟨y0,y1,y2,y3,y4⟩:=iI r1;refine bK (v:=.tuple #[.agg #[.slice s1 q9 q1,.slice s2 n2 q2,.slice s3 n3 q3,.slice s4 n4 q4,I hd],I er]) (by simp[results,Tryz.results264,go_sem,y0,y1,y2,y3,y4]) rfl ?_;exact Ai.o _ r2
end Go.Proofs.YtlgoihmkgaaemaaGreat
