import Derived.Test.YtlgoihmkgaaemaaGreatGN23
set_option maxHeartbeats 20000000
set_option linter.unusedVariables false
set_option maxRecDepth 100000
set_option linter.unusedSimpArgs false
namespace Go.Proofs.YtlgoihmkgaaemaaGreat
open Go.RowKit
theorem rE (V:World) (A:Obj) (c:Array Value) (t:TypeId):((V.alloc A).alloc (.cells c t)).heap[V.heap.size+1]?=some (.cells c t (0,0)):=by
 grind [bE,World.size_alloc]
theorem abv (E8:rG) (l:List aX) (hs:List bJ) (en nf ns:Int) (va:Value) (ao:Option Addr) (cap:Nat) (w:World) (ha:fZ w va l) (hf:dO l) (h:iT w ao hs) (PX:rD hs) (hcap:hs.length<=cap) (he:cO en) :
  Calls Tryz.prog 30 #[.agg #[va,.slice ao hs.length cap,I en],I nf,I ns] w (cA w (sD l hs en nf ns).1 [I (sD l hs en nf ns).2]):=by
 obtain⟨aa,ca,Ja,_⟩:=id ha;subst Ja;obtain⟨WA,lO⟩:=ex ((w.alloc (.cells #[.slice aa l.length ca,.slice ao hs.length cap,I en] 25)).alloc (.cells #[Nl,Nl,Nl,Nl,I 0] 30));have hb0:Below w.heap.size w WA:=by simp_all [aK,pZ]
 have kb:WA.heap[w.heap.size]?=some (.cells #[.slice aa l.length ca,.slice ao hs.length cap,I en] 25 (0,0)):=by grind [br,bE]
 have rb:WA.heap[w.heap.size+1]?=some (.cells #[Nl,Nl,Nl,Nl,I 0] 30 (0,0)):=by grind [rE]
 have RB:Hid (∀V,Below WA.heap.size WA V->V.heap[w.heap.size+1]?=some (.cells #[Nl,Nl,Nl,Nl,I 0] 30 (0,0))):=fun V hb=>aO rb hb (aJ rb)
 have KB:Hid (∀V,Below WA.heap.size WA V->V.heap[w.heap.size]?=some (.cells #[.slice aa l.length ca,.slice ao hs.length cap,I en] 25 (0,0))):=fun V hb=>aO kb hb (aJ kb)
 have k0:WA.cell? (Ad w.heap.size 0)=some (.slice aa l.length ca):=au kb 0 rfl;have k1:WA.cell? (Ad w.heap.size 1)=some (.slice ao hs.length cap):=au kb 1 rfl;have k2:WA.cell? (Ad w.heap.size 2)=some (I en):=au kb 2 rfl;have se:=ai lO;have gK:=ai hb0;have hrl:=aJ rb;have E9:=ai (Vt l hs en (.slice aa l.length ca) ao cap WA (ha.below hb0) hf (h.below hb0) PX hcap he);have HTT:Hid (∀V,Below WA.heap.size WA V->Calls Tryz.prog 70 #[.slice aa l.length ca] V fun e w'=>e=.returned (I (bh l))/\Below V.heap.size V w'):=fun V hV=>wM l _ V (ha.below (hb0.trans (hV.mono hb0.size))) hf
 have Ef:Hid (∀(V:World) (C:Int),Below w.heap.size w V->cA w eG [I C] (.returned (.tuple #[.agg #[Nl,Nl,Nl,Nl,I 0],I C])) V):=fun V C hV=>qH _ hV
 unfold sD;by_cases c:lu l hs en=0
 · rw[aA (fun x=>x c)];have HCP:lu l hs en=0->3<=nf->nf<=64->0<=ns->ns<=512->Hid (∀(W:World) fb sb pb,Below WA.heap.size WA W->W.heap[fb]?=some (.cells (sB nf.toNat) 169 (0,0))->W.heap[sb]?=some (.cells (sA ns.toNat) 171 (0,0))->W.heap[pb]?=some (.cells #[.bool true,.slice aa l.length ca,Nl] 99 (0,0))->Calls Tryz.prog 79 #[.agg #[.slice ao hs.length cap,.slice (some (Ad fb 0)) nf.toNat nf.toNat,.slice (some (Ad sb 0)) ns.toNat ns.toNat,.slice (some (Ad pb 0)) 1 1,I 0]] W fun e w'=>∃aS nS cS aF nF cF aL nL cL aP nP cP,e=.returned (.agg #[.slice aS nS cS,.slice aF nF cF,.slice aL nL cL,.slice aP nP cP,I 0])/\Below WA.heap.size WA w'/\w'.heap[w.heap.size+1]?=some (.cells #[Nl,Nl,Nl,Nl,I 0] 30 (0,0))/\∀U,aD (fun b=>b=w.heap.size+1) w' U->cA w (ni l hs nf ns) [I 0] (.returned (.tuple #[.agg #[.slice aS nS cS,.slice aF nF cF,.slice aL nL cL,.slice aP nP cP,I 0],I 0])) U):=fun hc h3 h64 h0 awl W fb sb pb hW g1 g2 g3=>by
    have wY:Below w.heap.size w W:=hb0.trans (hW.mono hb0.size);have hk:=aby (cap:=cap) (ha.below wY) (h.below wY) g1 g2 g3;have hcl:=E8 _ _ W hk (VH hc nf.toNat ns.toNat (by omega) (by omega));unfold bg at hcl;simp only[uK,AK] at hcl;refine hcl.mono fun e w' ⟨S,hs',hsame,e1,hr,hb⟩=>?_
    obtain⟨aS,nS,cS,eS⟩:∃b n d,S.vS=.slice b n d:=by obtain⟨b,d,e,_⟩:=bj hr.aM;exact⟨b,_,d,e⟩
    obtain⟨aF,nF,cF,eF⟩:∃b n d,S.vF=.slice b n d:=by obtain⟨b,d,e,_⟩:=bj hr.frames;exact⟨b,_,d,e⟩
    obtain⟨aL,nL,cL,eL⟩:∃b n d,S.vL=.slice b n d:=by obtain⟨b,d,e,_⟩:=bj hr.slots;exact⟨b,_,d,e⟩
    obtain⟨aP,nP,cP,eP⟩:∃b n d,S.vP=.slice b n d:=by obtain⟨b,d,e,_⟩:=bj hr.aj;exact⟨b,_,d,e⟩
    rw[eS,eF,eL,eP] at e1;have hbl:Below WA.heap.size WA w':=hW.trans (hb.mono hW.size);have amL:Below w.heap.size w w':=hb0.trans (hbl.mono hb0.size);have hWz:=hW.size;refine⟨aS,nS,cS,aF,nF,cF,aL,nL,cL,aP,nP,cP,e1,hbl,RB.o _ hbl,fun U hU=>⟨S,hs',hsame,by rw[eS,eF,eL,eP];rfl,(hr.kp hU (fun b hb e=>by have:=(hr.yJ b hb).1;omega)).mono wY.size,aD.below amL hU amL.size (fun b e=>by omega)⟩⟩
   have aiA:=HCP c;rw[c] at E9;clear HCP ha hf h PX he hcap hb0 kb rb lO;by_cases c3:nf<3
   · rw[aC c3];have dz:=ai (fun V (h:Below w.heap.size w V)=>Ef.o V 9 h);obtain⟨P,hP⟩:=ex (cA w eG [I 9]);show Calls _ _ _ _ (cA w eG [I 9]);rw[<- hP] at dz ⊢;clear hP Ef aiA c HTT;go_enter Tryz.func30,Tryz.ntmps30;go_upto_region 1 with fail;rw[<- se.o];go_upto_region 5 with(go_at_call 69;refine E9.o.mono ?_;rintro e w1 ⟨rfl,hb1⟩;have tC:=ai (gK.o.trans (hb1.mono gK.o.size));have R1:=ai (RB.o _ hb1);clear hb1)
     obtain⟨y0,y1,y2,y3,y4⟩:=iH R1.o;have f0:=aR R1.o 0;have f1:=aR R1.o 1;have f2:=aR R1.o 2;have f3:=aR R1.o 3;have f4:=aR R1.o 4;have h5:=ai (fun V=>l6 R1.o Nl Nl Nl Nl (I 0) (V:=V));go_wp2;obtain⟨r1,r2⟩:=h5.out _ rfl;obtain⟨y0,y1,y2,y3,y4⟩:=iH r1;refine bO (v:=.tuple #[.agg #[Nl,Nl,Nl,Nl,I 0],I 9]) (by simp[results,Tryz.results30,go_sem,y0,y1,y2,y3,y4]) rfl ?_;exact dz.o _ (aD.below tC.o r2 tC.o.size (fun b e=>by omega))
   rw[aA c3];by_cases cr:nf>64∨ns<0∨ns>512
   · rw[aC cr];rcases(show 64<nf∨(¬64<nf/\ns<0)∨(¬64<nf/\¬ns<0/\512<ns) by omega) with g1 | ⟨g1,g2⟩ | ⟨g1,g2,g3⟩
     all_goals
      clear cr;have dz:=ai (fun V (h:Below w.heap.size w V)=>Ef.o V 3 h);obtain⟨P,hP⟩:=ex (cA w eG [I 3]);show Calls _ _ _ _ (cA w eG [I 3]);rw[<- hP] at dz ⊢;clear hP Ef aiA c HTT;go_enter Tryz.func30,Tryz.ntmps30;go_upto_region 1 with fail;rw[<- se.o];go_upto_region 7 with(go_at_call 69;refine E9.o.mono ?_;rintro e w1 ⟨rfl,hb1⟩;have tC:=ai (gK.o.trans (hb1.mono gK.o.size));have R1:=ai (RB.o _ hb1);clear hb1)
      obtain⟨y0,y1,y2,y3,y4⟩:=iH R1.o;have f0:=aR R1.o 0;have f1:=aR R1.o 1;have f2:=aR R1.o 2;have f3:=aR R1.o 3;have f4:=aR R1.o 4;have h5:=ai (fun V=>l6 R1.o Nl Nl Nl Nl (I 0) (V:=V));go_wp2;obtain⟨r1,r2⟩:=h5.out _ rfl;obtain⟨y0,y1,y2,y3,y4⟩:=iH r1;refine bO (v:=.tuple #[.agg #[Nl,Nl,Nl,Nl,I 0],I 3]) (by simp[results,Tryz.results30,go_sem,y0,y1,y2,y3,y4]) rfl ?_;exact dz.o _ (aD.below tC.o r2 tC.o.size (fun b e=>by omega))
   rw[aA cr];have g1:¬64<nf:=by omega
   have g2:¬ns<0:=by omega
   have g3:¬512<ns:=by omega
   have HNC:=aiA (by omega) (by omega) (by omega) (by omega);have e2:=fun V:World=>akM V nf (by omega) (by omega)
   have e3:=fun V:World=>akL V ns (by omega) (by omega)
   clear cr aiA c;have htb:=sU l;obtain⟨T1,hT1⟩:=ex (bh l);rw[<- hT1] at HTT htb ⊢;clear hT1;by_cases ct:T1>ns
   · rw[aC ct];have c2:ns<T1:=ct;have dz:=ai (fun V (h:Below w.heap.size w V)=>Ef.o V 8 h);obtain⟨P,hP⟩:=ex (cA w eG [I 8]);show Calls _ _ _ _ (cA w eG [I 8]);rw[<- hP] at dz ⊢;clear hP Ef HNC e2 e3 ct;go_enter Tryz.func30,Tryz.ntmps30;go_upto_region 1 with fail;rw[<- se.o];go_upto_region 9 with(first
      | (go_at_call 69;refine E9.o.mono ?_;rintro e w1 ⟨rfl,hb1⟩;have cN:=ai hb1;obtain⟨j0,j1,j2⟩:=Ez (KB.o _ hb1);clear hb1)
      | (go_at_call 70;refine(HTT.o _ cN.o).mono ?_;rintro e w2 ⟨rfl,hb2⟩;have hb3:=cN.o.trans (hb2.mono cN.o.size);have tC:=ai (gK.o.trans (hb3.mono gK.o.size));have R1:=ai (RB.o _ hb3);clear hb2 hb3))
     obtain⟨y0,y1,y2,y3,y4⟩:=iH R1.o;have f0:=aR R1.o 0;have f1:=aR R1.o 1;have f2:=aR R1.o 2;have f3:=aR R1.o 3;have f4:=aR R1.o 4;have h5:=ai (fun V=>l6 R1.o Nl Nl Nl Nl (I 0) (V:=V));go_wp2;obtain⟨r1,r2⟩:=h5.out _ rfl;obtain⟨y0,y1,y2,y3,y4⟩:=iH r1;refine bO (v:=.tuple #[.agg #[Nl,Nl,Nl,Nl,I 0],I 8]) (by simp[results,Tryz.results30,go_sem,y0,y1,y2,y3,y4]) rfl ?_;exact dz.o _ (aD.below tC.o r2 tC.o.size (fun b e=>by omega))
   rw[aA ct];have c2:¬ns<T1:=ct;obtain⟨P,hP⟩:=ex (cA w (ni l hs nf ns) [I 0]);show Calls _ _ _ _ (cA w (ni l hs nf ns) [I 0]);rw[<- hP] at HNC ⊢;obtain⟨NF,hNF⟩:=ex nf.toNat
   obtain⟨NS,hNS⟩:=ex ns.toNat
   rw[<- hNF] at HNC;rw[<- hNS] at HNC;simp only[<- hNF] at e2;simp only[<- hNS] at e3;clear hP hNF hNS Ef ct;go_enter Tryz.func30,Tryz.ntmps30;go_upto_region 1 with fail;rw[<- se.o];go_upto_region 10 with(first
    | (go_at_call 69;refine E9.o.mono ?_;rintro e w1 ⟨rfl,hb1⟩;have cN:=ai hb1;obtain⟨j0,j1,j2⟩:=Ez (KB.o _ hb1);clear hb1)
    | (go_at_call 70;refine(HTT.o _ cN.o).mono ?_;rintro e w2 ⟨rfl,hb2⟩;have gQ:=ai (cN.o.trans (hb2.mono cN.o.size));clear hb2))
   clear j0 j1 j2 E9 HTT;have qG:Hid (∀V,Below WA.heap.size WA V->V.cell? (Ad w.heap.size 0)=some (.slice aa l.length ca)/\V.cell? (Ad w.heap.size 1)=some (.slice ao hs.length cap)):=fun V hV=>⟨au (KB.o _ hV) 0 rfl,au (KB.o _ hV) 1 rfl⟩
   refine xx (S:=fun V=>V.cell? (Ad w.heap.size 0)=some (.slice aa l.length ca)/\V.cell? (Ad w.heap.size 1)=some (.slice ao hs.length cap)) (z:=13) (by kernel_rfl) ?_;have ow:=ai (gQ.o.drew);obtain⟨V0,hV0⟩:=ex w2.drew;rw[<- hV0] at ow ⊢;clear hV0;refine iK 0 (qG.o _ ow.o) ?_ ?_ ?_;rotate_left 1
   · intro V h;obtain⟨k0,k1⟩:=h;go_simp
     try with_reducible rfl
   refine iK 1 (qG.o _ ow.o) ?_ ?_ ?_;rotate_left 1
   · intro V h;obtain⟨k0,k1⟩:=h;go_simp
     try with_reducible rfl
   refine iK 2 (qG.o _ ow.o) ?_ ?_ ?_;rotate_left 1
   · intro V h;obtain⟨k0,k1⟩:=h;go_simp
     try with_reducible rfl
   refine iK 4 (qG.o _ ow.o) ?_ ?_ ?_;rotate_left 1
   · intro V h;obtain⟨k0,k1⟩:=h;go_simp
     try with_reducible rfl
   refine iK 6 (qG.o _ ow.o) ?_ ?_ ?_;rotate_left 1
   · intro V h;obtain⟨k0,k1⟩:=h;go_simp
     try with_reducible rfl
   refine iK 7 (qG.o _ ow.o) ?_ ?_ ?_;rotate_left 1
   · intro V h;obtain⟨k0,k1⟩:=h;go_simp
     try with_reducible rfl
   refine iK 8 (qG.o _ ow.o) ?_ ?_ ?_;rotate_left 1
   · intro V h;obtain⟨k0,k1⟩:=h;go_simp
     try with_reducible rfl
   refine eI (rs:=[3,5,9]) (by kernel_rfl) (by simp) ?_;refine bw.cons rfl (fun K hK=>?_) (bw.cons rfl (fun K hK=>?_) (bw.cons rfl (fun K hK=>?_) bw.nil))
   · go_simp;refine hK.out _ _ (fun _=>?_) ?_
     · exact qG.o _ (ow.o.alloc ow.o.size _)
     clear hK K;have yK:=ai (ow.o.alloc ow.o.size (.cells (sB NF) 169));have BF:=ai (bE V0 (sB NF) 169);obtain⟨V1,hV1⟩:=ex (V0.alloc (.cells (sB NF) 169));obtain⟨bF,hbF⟩:=ex V0.heap.size;rw[<- hV1] at yK BF ⊢;rw[<- hbF] at BF ⊢;clear hV1 hbF
     try simp only[Act.put,dJ,dB,dw]
     refine eI (rs:=[5,9]) (by kernel_rfl) (by simp) ?_;refine bw.cons rfl (fun K hK=>?_) (bw.cons rfl (fun K hK=>?_) bw.nil)
     · go_simp;refine hK.out _ _ (fun _=>?_) ?_
       · exact qG.o _ (yK.o.alloc yK.o.size _)
       clear hK K;have rX:=ai (yK.o.alloc yK.o.size (.cells (sA NS) 171));have BF:=ai (br BF.o (.cells (sA NS) 171));have BL:=ai (bE V1 (sA NS) 171);obtain⟨V2,hV2⟩:=ex (V1.alloc (.cells (sA NS) 171));obtain⟨bL,hbL⟩:=ex V1.heap.size;rw[<- hV2] at rX BF BL ⊢;rw[<- hbL] at BL ⊢;clear hV2 hbL
       try simp only[Act.put,dJ,dB,dw]
       refine eI (rs:=[9]) (by kernel_rfl) (by simp) ?_;refine bw.cons rfl (fun K hK=>?_) bw.nil;go_simp;refine hK.out _ _ (fun _=>?_) ?_
       · exact qG.o _ (rX.o.alloc rX.o.size _)
       clear hK K;have sK:=ai (rX.o.alloc rX.o.size (.cells #[.bool true,.slice aa l.length ca,Nl] 99));have BF:=ai (br BF.o (.cells #[.bool true,.slice aa l.length ca,Nl] 99));have BL:=ai (br BL.o (.cells #[.bool true,.slice aa l.length ca,Nl] 99));have BP:=ai (bE V2 #[.bool true,.slice aa l.length ca,Nl] 99);obtain⟨V3,Ym⟩:=ex (V2.alloc (.cells #[.bool true,.slice aa l.length ca,Nl] 99));obtain⟨bP,XM⟩:=ex V2.heap.size;rw[<- Ym] at sK BF BL BP ⊢;rw[<- XM] at BP ⊢;clear Ym XM
       try simp only[Act.put,dJ,dB,dw]
       refine iK 10 (qG.o _ sK.o) ?_ ?_ ?_;rotate_left 1
       · intro V h;obtain⟨k0,k1⟩:=h;go_simp
         try with_reducible rfl
       refine eI (rs:=[11]) (by kernel_rfl) (by simp) ?_;refine bw.cons rfl (fun K hK=>?_) bw.nil;rw[aC (by rfl)];go_simp;go_at_call 79;refine(HNC.o _ _ _ _ sK.o BF.o BL.o BP.o).mono ?_;rintro e w6 ⟨aS,nS,cS,aF,nF,cF,aL,nL,cL,aP,nP,cP,rfl,Yl,Ye,hfin⟩;have Wx:=ai Yl;have R6:=ai Ye;have Ay:=ai hfin;clear Yl Ye hfin;try go_simp;refine hK.out _ _ (fun _=>?_) ?_
       · exact qG.o _ Wx.o
       clear hK K
       try simp only[Act.put,dJ,dB,dw]
       obtain⟨y0,y1,y2,y3,y4⟩:=iH R6.o;have f0:=aR R6.o 0;have f1:=aR R6.o 1;have f2:=aR R6.o 2;have f3:=aR R6.o 3;have f4:=aR R6.o 4;have h5:=ai (fun V=>l6 R6.o (.slice aS nS cS) (.slice aF nF cF) (.slice aL nL cL) (.slice aP nP cP) (I 0) (V:=V));refine eI (rs:=[12]) (by kernel_rfl) (by simp) ?_;refine bw.cons rfl (fun K hK=>?_) bw.nil;go_simp;obtain⟨r1,r2⟩:=h5.out _ rfl;refine hK.out _ _ (fun _=>?_) ?_
       · have:=r2.keep (KB.o _ Wx.o) (show ¬w.heap.size=w.heap.size+1 by omega);exact⟨au this 0 rfl,au this 1 rfl⟩
       clear hK K
       try simp only[Act.put,dJ,dB,dw]
       refine eI (rs:=[13]) (by kernel_rfl) (by simp) ?_;refine bw.cons rfl (fun K hK=>?_) bw.nil;go_simp;refine hK.out _ _ (fun g=>absurd rfl g) ?_;refine q9 (by kernel_rfl) ?_ _;go_wp2;obtain⟨y0,y1,y2,y3,y4⟩:=iH r1;refine bO (v:=.tuple #[.agg #[.slice aS nS cS,.slice aF nF cF,.slice aL nL cL,.slice aP nP cP,I 0],I 0]) (by simp[results,Tryz.results30,go_sem,y0,y1,y2,y3,y4]) rfl ?_;exact Ay.o _ r2
     · go_simp;refine hK.out _ _ (fun _=>?_) ?_
       · exact qG.o _ (yK.o.alloc yK.o.size _)
       clear hK K;have rX:=ai (yK.o.alloc yK.o.size (.cells #[.bool true,.slice aa l.length ca,Nl] 99));have BF:=ai (br BF.o (.cells #[.bool true,.slice aa l.length ca,Nl] 99));have BP:=ai (bE V1 #[.bool true,.slice aa l.length ca,Nl] 99);obtain⟨V2,hV2⟩:=ex (V1.alloc (.cells #[.bool true,.slice aa l.length ca,Nl] 99));obtain⟨bP,XM⟩:=ex V1.heap.size;rw[<- hV2] at rX BF BP ⊢;rw[<- XM] at BP ⊢;clear hV2 XM
       try simp only[Act.put,dJ,dB,dw]
       refine eI (rs:=[5]) (by kernel_rfl) (by simp) ?_;refine bw.cons rfl (fun K hK=>?_) bw.nil;go_simp;refine hK.out _ _ (fun _=>?_) ?_
       · exact qG.o _ (rX.o.alloc rX.o.size _)
       clear hK K;have sK:=ai (rX.o.alloc rX.o.size (.cells (sA NS) 171));have BF:=ai (br BF.o (.cells (sA NS) 171));have BP:=ai (br BP.o (.cells (sA NS) 171));have BL:=ai (bE V2 (sA NS) 171);obtain⟨V3,Ym⟩:=ex (V2.alloc (.cells (sA NS) 171));obtain⟨bL,hbL⟩:=ex V2.heap.size;rw[<- Ym] at sK BF BP BL ⊢;rw[<- hbL] at BL ⊢;clear Ym hbL
       try simp only[Act.put,dJ,dB,dw]
       refine iK 10 (qG.o _ sK.o) ?_ ?_ ?_;rotate_left 1
       · intro V h;obtain⟨k0,k1⟩:=h;go_simp
         try with_reducible rfl
       refine eI (rs:=[11]) (by kernel_rfl) (by simp) ?_;refine bw.cons rfl (fun K hK=>?_) bw.nil;rw[aC (by rfl)];go_simp;go_at_call 79;refine(HNC.o _ _ _ _ sK.o BF.o BL.o BP.o).mono ?_;rintro e w6 ⟨aS,nS,cS,aF,nF,cF,aL,nL,cL,aP,nP,cP,rfl,Yl,Ye,hfin⟩;have Wx:=ai Yl;have R6:=ai Ye;have Ay:=ai hfin;clear Yl Ye hfin;try go_simp;refine hK.out _ _ (fun _=>?_) ?_
       · exact qG.o _ Wx.o
       clear hK K
       try simp only[Act.put,dJ,dB,dw]
       obtain⟨y0,y1,y2,y3,y4⟩:=iH R6.o;have f0:=aR R6.o 0;have f1:=aR R6.o 1;have f2:=aR R6.o 2;have f3:=aR R6.o 3;have f4:=aR R6.o 4;have h5:=ai (fun V=>l6 R6.o (.slice aS nS cS) (.slice aF nF cF) (.slice aL nL cL) (.slice aP nP cP) (I 0) (V:=V));refine eI (rs:=[12]) (by kernel_rfl) (by simp) ?_;refine bw.cons rfl (fun K hK=>?_) bw.nil;go_simp;obtain⟨r1,r2⟩:=h5.out _ rfl;refine hK.out _ _ (fun _=>?_) ?_
       · have:=r2.keep (KB.o _ Wx.o) (show ¬w.heap.size=w.heap.size+1 by omega);exact⟨au this 0 rfl,au this 1 rfl⟩
       clear hK K
       try simp only[Act.put,dJ,dB,dw]
       refine eI (rs:=[13]) (by kernel_rfl) (by simp) ?_;refine bw.cons rfl (fun K hK=>?_) bw.nil;go_simp;refine hK.out _ _ (fun g=>absurd rfl g) ?_;refine q9 (by kernel_rfl) ?_ _;go_wp2;obtain⟨y0,y1,y2,y3,y4⟩:=iH r1;refine bO (v:=.tuple #[.agg #[.slice aS nS cS,.slice aF nF cF,.slice aL nL cL,.slice aP nP cP,I 0],I 0]) (by simp[results,Tryz.results30,go_sem,y0,y1,y2,y3,y4]) rfl ?_;exact Ay.o _ r2
   · go_simp;refine hK.out _ _ (fun _=>?_) ?_
     · exact qG.o _ (ow.o.alloc ow.o.size _)
     clear hK K;have yK:=ai (ow.o.alloc ow.o.size (.cells (sA NS) 171));have BL:=ai (bE V0 (sA NS) 171);obtain⟨V1,hV1⟩:=ex (V0.alloc (.cells (sA NS) 171));obtain⟨bL,hbL⟩:=ex V0.heap.size;rw[<- hV1] at yK BL ⊢;rw[<- hbL] at BL ⊢;clear hV1 hbL
     try simp only[Act.put,dJ,dB,dw]
     refine eI (rs:=[3,9]) (by kernel_rfl) (by simp) ?_;refine bw.cons rfl (fun K hK=>?_) (bw.cons rfl (fun K hK=>?_) bw.nil)
     · go_simp;refine hK.out _ _ (fun _=>?_) ?_
       · exact qG.o _ (yK.o.alloc yK.o.size _)
       clear hK K;have rX:=ai (yK.o.alloc yK.o.size (.cells (sB NF) 169));have BL:=ai (br BL.o (.cells (sB NF) 169));have BF:=ai (bE V1 (sB NF) 169);obtain⟨V2,hV2⟩:=ex (V1.alloc (.cells (sB NF) 169));obtain⟨bF,hbF⟩:=ex V1.heap.size;rw[<- hV2] at rX BL BF ⊢;rw[<- hbF] at BF ⊢;clear hV2 hbF
       try simp only[Act.put,dJ,dB,dw]
       refine eI (rs:=[9]) (by kernel_rfl) (by simp) ?_;refine bw.cons rfl (fun K hK=>?_) bw.nil;go_simp;refine hK.out _ _ (fun _=>?_) ?_
       · exact qG.o _ (rX.o.alloc rX.o.size _)
       clear hK K;have sK:=ai (rX.o.alloc rX.o.size (.cells #[.bool true,.slice aa l.length ca,Nl] 99));have BL:=ai (br BL.o (.cells #[.bool true,.slice aa l.length ca,Nl] 99));have BF:=ai (br BF.o (.cells #[.bool true,.slice aa l.length ca,Nl] 99));have BP:=ai (bE V2 #[.bool true,.slice aa l.length ca,Nl] 99);obtain⟨V3,Ym⟩:=ex (V2.alloc (.cells #[.bool true,.slice aa l.length ca,Nl] 99));obtain⟨bP,XM⟩:=ex V2.heap.size;rw[<- Ym] at sK BL BF BP ⊢;rw[<- XM] at BP ⊢;clear Ym XM
       try simp only[Act.put,dJ,dB,dw]
       refine iK 10 (qG.o _ sK.o) ?_ ?_ ?_;rotate_left 1
       · intro V h;obtain⟨k0,k1⟩:=h;go_simp
         try with_reducible rfl
       refine eI (rs:=[11]) (by kernel_rfl) (by simp) ?_;refine bw.cons rfl (fun K hK=>?_) bw.nil;rw[aC (by rfl)];go_simp;go_at_call 79;refine(HNC.o _ _ _ _ sK.o BF.o BL.o BP.o).mono ?_;rintro e w6 ⟨aS,nS,cS,aF,nF,cF,aL,nL,cL,aP,nP,cP,rfl,Yl,Ye,hfin⟩;have Wx:=ai Yl;have R6:=ai Ye;have Ay:=ai hfin;clear Yl Ye hfin;try go_simp;refine hK.out _ _ (fun _=>?_) ?_
       · exact qG.o _ Wx.o
       clear hK K
       try simp only[Act.put,dJ,dB,dw]
       obtain⟨y0,y1,y2,y3,y4⟩:=iH R6.o;have f0:=aR R6.o 0;have f1:=aR R6.o 1;have f2:=aR R6.o 2;have f3:=aR R6.o 3;have f4:=aR R6.o 4;have h5:=ai (fun V=>l6 R6.o (.slice aS nS cS) (.slice aF nF cF) (.slice aL nL cL) (.slice aP nP cP) (I 0) (V:=V));refine eI (rs:=[12]) (by kernel_rfl) (by simp) ?_;refine bw.cons rfl (fun K hK=>?_) bw.nil;go_simp;obtain⟨r1,r2⟩:=h5.out _ rfl;refine hK.out _ _ (fun _=>?_) ?_
       · have:=r2.keep (KB.o _ Wx.o) (show ¬w.heap.size=w.heap.size+1 by omega);exact⟨au this 0 rfl,au this 1 rfl⟩
       clear hK K
       try simp only[Act.put,dJ,dB,dw]
       refine eI (rs:=[13]) (by kernel_rfl) (by simp) ?_;refine bw.cons rfl (fun K hK=>?_) bw.nil;go_simp;refine hK.out _ _ (fun g=>absurd rfl g) ?_;refine q9 (by kernel_rfl) ?_ _;go_wp2;obtain⟨y0,y1,y2,y3,y4⟩:=iH r1;refine bO (v:=.tuple #[.agg #[.slice aS nS cS,.slice aF nF cF,.slice aL nL cL,.slice aP nP cP,I 0],I 0]) (by simp[results,Tryz.results30,go_sem,y0,y1,y2,y3,y4]) rfl ?_;exact Ay.o _ r2
     · go_simp;refine hK.out _ _ (fun _=>?_) ?_
       · exact qG.o _ (yK.o.alloc yK.o.size _)
       clear hK K;have rX:=ai (yK.o.alloc yK.o.size (.cells #[.bool true,.slice aa l.length ca,Nl] 99));have BL:=ai (br BL.o (.cells #[.bool true,.slice aa l.length ca,Nl] 99));have BP:=ai (bE V1 #[.bool true,.slice aa l.length ca,Nl] 99);obtain⟨V2,hV2⟩:=ex (V1.alloc (.cells #[.bool true,.slice aa l.length ca,Nl] 99));obtain⟨bP,XM⟩:=ex V1.heap.size;rw[<- hV2] at rX BL BP ⊢;rw[<- XM] at BP ⊢;clear hV2 XM
       try simp only[Act.put,dJ,dB,dw]
       refine eI (rs:=[3]) (by kernel_rfl) (by simp) ?_;refine bw.cons rfl (fun K hK=>?_) bw.nil;go_simp;refine hK.out _ _ (fun _=>?_) ?_
       · exact qG.o _ (rX.o.alloc rX.o.size _)
       clear hK K;have sK:=ai (rX.o.alloc rX.o.size (.cells (sB NF) 169));have BL:=ai (br BL.o (.cells (sB NF) 169));have BP:=ai (br BP.o (.cells (sB NF) 169));have BF:=ai (bE V2 (sB NF) 169);obtain⟨V3,Ym⟩:=ex (V2.alloc (.cells (sB NF) 169));obtain⟨bF,hbF⟩:=ex V2.heap.size;rw[<- Ym] at sK BL BP BF ⊢;rw[<- hbF] at BF ⊢;clear Ym hbF
       try simp only[Act.put,dJ,dB,dw]
       refine iK 10 (qG.o _ sK.o) ?_ ?_ ?_;rotate_left 1
       · intro V h;obtain⟨k0,k1⟩:=h;go_simp
         try with_reducible rfl
       refine eI (rs:=[11]) (by kernel_rfl) (by simp) ?_;refine bw.cons rfl (fun K hK=>?_) bw.nil;rw[aC (by rfl)];go_simp;go_at_call 79;refine(HNC.o _ _ _ _ sK.o BF.o BL.o BP.o).mono ?_;rintro e w6 ⟨aS,nS,cS,aF,nF,cF,aL,nL,cL,aP,nP,cP,rfl,Yl,Ye,hfin⟩;have Wx:=ai Yl;have R6:=ai Ye;have Ay:=ai hfin;clear Yl Ye hfin;try go_simp;refine hK.out _ _ (fun _=>?_) ?_
       · exact qG.o _ Wx.o
       clear hK K
       try simp only[Act.put,dJ,dB,dw]
       obtain⟨y0,y1,y2,y3,y4⟩:=iH R6.o;have f0:=aR R6.o 0;have f1:=aR R6.o 1;have f2:=aR R6.o 2;have f3:=aR R6.o 3;have f4:=aR R6.o 4;have h5:=ai (fun V=>l6 R6.o (.slice aS nS cS) (.slice aF nF cF) (.slice aL nL cL) (.slice aP nP cP) (I 0) (V:=V));refine eI (rs:=[12]) (by kernel_rfl) (by simp) ?_;refine bw.cons rfl (fun K hK=>?_) bw.nil;go_simp;obtain⟨r1,r2⟩:=h5.out _ rfl;refine hK.out _ _ (fun _=>?_) ?_
       · have:=r2.keep (KB.o _ Wx.o) (show ¬w.heap.size=w.heap.size+1 by omega);exact⟨au this 0 rfl,au this 1 rfl⟩
       clear hK K
       try simp only[Act.put,dJ,dB,dw]
       refine eI (rs:=[13]) (by kernel_rfl) (by simp) ?_;refine bw.cons rfl (fun K hK=>?_) bw.nil;go_simp;refine hK.out _ _ (fun g=>absurd rfl g) ?_;refine q9 (by kernel_rfl) ?_ _;go_wp2;obtain⟨y0,y1,y2,y3,y4⟩:=iH r1;refine bO (v:=.tuple #[.agg #[.slice aS nS cS,.slice aF nF cF,.slice aL nL cL,.slice aP nP cP,I 0],I 0]) (by simp[results,Tryz.results30,go_sem,y0,y1,y2,y3,y4]) rfl ?_;exact Ay.o _ r2
   · go_simp;refine hK.out _ _ (fun _=>?_) ?_
     · exact qG.o _ (ow.o.alloc ow.o.size _)
     clear hK K;have yK:=ai (ow.o.alloc ow.o.size (.cells #[.bool true,.slice aa l.length ca,Nl] 99));have BP:=ai (bE V0 #[.bool true,.slice aa l.length ca,Nl] 99);obtain⟨V1,hV1⟩:=ex (V0.alloc (.cells #[.bool true,.slice aa l.length ca,Nl] 99));obtain⟨bP,XM⟩:=ex V0.heap.size;rw[<- hV1] at yK BP ⊢;rw[<- XM] at BP ⊢;clear hV1 XM
     try simp only[Act.put,dJ,dB,dw]
     refine eI (rs:=[3,5]) (by kernel_rfl) (by simp) ?_;refine bw.cons rfl (fun K hK=>?_) (bw.cons rfl (fun K hK=>?_) bw.nil)
     · go_simp;refine hK.out _ _ (fun _=>?_) ?_
       · exact qG.o _ (yK.o.alloc yK.o.size _)
       clear hK K;have rX:=ai (yK.o.alloc yK.o.size (.cells (sB NF) 169));have BP:=ai (br BP.o (.cells (sB NF) 169));have BF:=ai (bE V1 (sB NF) 169);obtain⟨V2,hV2⟩:=ex (V1.alloc (.cells (sB NF) 169));obtain⟨bF,hbF⟩:=ex V1.heap.size;rw[<- hV2] at rX BP BF ⊢;rw[<- hbF] at BF ⊢;clear hV2 hbF
       try simp only[Act.put,dJ,dB,dw]
       refine eI (rs:=[5]) (by kernel_rfl) (by simp) ?_;refine bw.cons rfl (fun K hK=>?_) bw.nil;go_simp;refine hK.out _ _ (fun _=>?_) ?_
       · exact qG.o _ (rX.o.alloc rX.o.size _)
       clear hK K;have sK:=ai (rX.o.alloc rX.o.size (.cells (sA NS) 171));have BP:=ai (br BP.o (.cells (sA NS) 171));have BF:=ai (br BF.o (.cells (sA NS) 171));have BL:=ai (bE V2 (sA NS) 171);obtain⟨V3,Ym⟩:=ex (V2.alloc (.cells (sA NS) 171));obtain⟨bL,hbL⟩:=ex V2.heap.size;rw[<- Ym] at sK BP BF BL ⊢;rw[<- hbL] at BL ⊢;clear Ym hbL
       try simp only[Act.put,dJ,dB,dw]
       refine iK 10 (qG.o _ sK.o) ?_ ?_ ?_;rotate_left 1
       · intro V h;obtain⟨k0,k1⟩:=h;go_simp
         try with_reducible rfl
       refine eI (rs:=[11]) (by kernel_rfl) (by simp) ?_;refine bw.cons rfl (fun K hK=>?_) bw.nil;rw[aC (by rfl)];go_simp;go_at_call 79;refine(HNC.o _ _ _ _ sK.o BF.o BL.o BP.o).mono ?_;rintro e w6 ⟨aS,nS,cS,aF,nF,cF,aL,nL,cL,aP,nP,cP,rfl,Yl,Ye,hfin⟩;have Wx:=ai Yl;have R6:=ai Ye;have Ay:=ai hfin;clear Yl Ye hfin;try go_simp;refine hK.out _ _ (fun _=>?_) ?_
       · exact qG.o _ Wx.o
       clear hK K
       try simp only[Act.put,dJ,dB,dw]
       obtain⟨y0,y1,y2,y3,y4⟩:=iH R6.o;have f0:=aR R6.o 0;have f1:=aR R6.o 1;have f2:=aR R6.o 2;have f3:=aR R6.o 3;have f4:=aR R6.o 4;have h5:=ai (fun V=>l6 R6.o (.slice aS nS cS) (.slice aF nF cF) (.slice aL nL cL) (.slice aP nP cP) (I 0) (V:=V));refine eI (rs:=[12]) (by kernel_rfl) (by simp) ?_;refine bw.cons rfl (fun K hK=>?_) bw.nil;go_simp;obtain⟨r1,r2⟩:=h5.out _ rfl;refine hK.out _ _ (fun _=>?_) ?_
       · have:=r2.keep (KB.o _ Wx.o) (show ¬w.heap.size=w.heap.size+1 by omega);exact⟨au this 0 rfl,au this 1 rfl⟩
       clear hK K
       try simp only[Act.put,dJ,dB,dw]
       refine eI (rs:=[13]) (by kernel_rfl) (by simp) ?_;refine bw.cons rfl (fun K hK=>?_) bw.nil;go_simp;refine hK.out _ _ (fun g=>absurd rfl g) ?_;refine q9 (by kernel_rfl) ?_ _;go_wp2;obtain⟨y0,y1,y2,y3,y4⟩:=iH r1;refine bO (v:=.tuple #[.agg #[.slice aS nS cS,.slice aF nF cF,.slice aL nL cL,.slice aP nP cP,I 0],I 0]) (by simp[results,Tryz.results30,go_sem,y0,y1,y2,y3,y4]) rfl ?_;exact Ay.o _ r2
     · go_simp;refine hK.out _ _ (fun _=>?_) ?_
       · exact qG.o _ (yK.o.alloc yK.o.size _)
       clear hK K;have rX:=ai (yK.o.alloc yK.o.size (.cells (sA NS) 171));have BP:=ai (br BP.o (.cells (sA NS) 171));have BL:=ai (bE V1 (sA NS) 171);obtain⟨V2,hV2⟩:=ex (V1.alloc (.cells (sA NS) 171));obtain⟨bL,hbL⟩:=ex V1.heap.size;rw[<- hV2] at rX BP BL ⊢;rw[<- hbL] at BL ⊢;clear hV2 hbL
       try simp only[Act.put,dJ,dB,dw]
       refine eI (rs:=[3]) (by kernel_rfl) (by simp) ?_;refine bw.cons rfl (fun K hK=>?_) bw.nil;go_simp;refine hK.out _ _ (fun _=>?_) ?_
       · exact qG.o _ (rX.o.alloc rX.o.size _)
       clear hK K;have sK:=ai (rX.o.alloc rX.o.size (.cells (sB NF) 169));have BP:=ai (br BP.o (.cells (sB NF) 169));have BL:=ai (br BL.o (.cells (sB NF) 169));have BF:=ai (bE V2 (sB NF) 169);obtain⟨V3,Ym⟩:=ex (V2.alloc (.cells (sB NF) 169));obtain⟨bF,hbF⟩:=ex V2.heap.size;rw[<- Ym] at sK BP BL BF ⊢;rw[<- hbF] at BF ⊢;clear Ym hbF
       try simp only[Act.put,dJ,dB,dw]
       refine iK 10 (qG.o _ sK.o) ?_ ?_ ?_;rotate_left 1
       · intro V h;obtain⟨k0,k1⟩:=h;go_simp
         try with_reducible rfl
       refine eI (rs:=[11]) (by kernel_rfl) (by simp) ?_;refine bw.cons rfl (fun K hK=>?_) bw.nil;rw[aC (by rfl)];go_simp;go_at_call 79;refine(HNC.o _ _ _ _ sK.o BF.o BL.o BP.o).mono ?_;rintro e w6 ⟨aS,nS,cS,aF,nF,cF,aL,nL,cL,aP,nP,cP,rfl,Yl,Ye,hfin⟩;have Wx:=ai Yl;have R6:=ai Ye;have Ay:=ai hfin;clear Yl Ye hfin;try go_simp;refine hK.out _ _ (fun _=>?_) ?_
       · exact qG.o _ Wx.o
       clear hK K
       try simp only[Act.put,dJ,dB,dw]
       obtain⟨y0,y1,y2,y3,y4⟩:=iH R6.o;have f0:=aR R6.o 0;have f1:=aR R6.o 1;have f2:=aR R6.o 2;have f3:=aR R6.o 3;have f4:=aR R6.o 4;have h5:=ai (fun V=>l6 R6.o (.slice aS nS cS) (.slice aF nF cF) (.slice aL nL cL) (.slice aP nP cP) (I 0) (V:=V));refine eI (rs:=[12]) (by kernel_rfl) (by simp) ?_;refine bw.cons rfl (fun K hK=>?_) bw.nil;go_simp;obtain⟨r1,r2⟩:=h5.out _ rfl;refine hK.out _ _ (fun _=>?_) ?_
       · have:=r2.keep (KB.o _ Wx.o) (show ¬w.heap.size=w.heap.size+1 by omega);exact⟨au this 0 rfl,au this 1 rfl⟩
       clear hK K
       try simp only[Act.put,dJ,dB,dw]
       refine eI (rs:=[13]) (by kernel_rfl) (by simp) ?_;refine bw.cons rfl (fun K hK=>?_) bw.nil;go_simp;refine hK.out _ _ (fun g=>absurd rfl g) ?_;refine q9 (by kernel_rfl) ?_ _;go_wp2;obtain⟨y0,y1,y2,y3,y4⟩:=iH r1;refine bO (v:=.tuple #[.agg #[.slice aS nS cS,.slice aF nF cF,.slice aL nL cL,.slice aP nP cP,I 0],I 0]) (by simp[results,Tryz.results30,go_sem,y0,y1,y2,y3,y4]) rfl ?_;exact Ay.o _ r2
 · rw[aC c];obtain⟨C,hC⟩:=ex (lu l hs en);rw[<- hC] at E9 c ⊢;have cb:(C != 0)=true:=by grind
   have dz:=ai (fun V (h:Below w.heap.size w V)=>Ef.o V C h);obtain⟨P,hP⟩:=ex (cA w eG [I C]);show Calls _ _ _ _ (cA w eG [I C]);rw[<- hP] at dz ⊢;clear ha hf h PX he hcap hb0 kb rb lO hC c hP Ef HTT;go_enter Tryz.func30,Tryz.ntmps30;go_upto_region 1 with fail;rw[<- se.o];go_upto_region 3 with(go_at_call 69;refine E9.o.mono ?_;rintro e w1 ⟨rfl,hb1⟩;have tC:=ai (gK.o.trans (hb1.mono gK.o.size));have R1:=ai (RB.o _ hb1);clear hb1)
   obtain⟨y0,y1,y2,y3,y4⟩:=iH R1.o;have f0:=aR R1.o 0;have f1:=aR R1.o 1;have f2:=aR R1.o 2;have f3:=aR R1.o 3;have f4:=aR R1.o 4;have h5:=ai (fun V=>l6 R1.o Nl Nl Nl Nl (I 0) (V:=V));go_wp2;obtain⟨r1,r2⟩:=h5.out _ rfl;obtain⟨y0,y1,y2,y3,y4⟩:=iH r1;refine bO (v:=.tuple #[.agg #[Nl,Nl,Nl,Nl,I 0],I C]) (by simp[results,Tryz.results30,go_sem,y0,y1,y2,y3,y4]) rfl ?_;exact dz.o _ (aD.below tC.o r2 tC.o.size (fun b e=>by omega))
open Go.RowKit
theorem Mp {w WA W1:World} {K:aT} {vs:List Value} {e:Ending} {rb:Nat} (h:cA WA K vs e W1) (hb0:Below w.heap.size w WA) (hr:w.heap.size<=rb/\rb<WA.heap.size):∃s1 rE q1 s2 n2 q2 s3 n3 q3 s4 n4 q4 hd,e=.returned (.tuple (Value.agg #[.slice s1 rE q1,.slice s2 n2 q2,.slice s3 n3 q3,.slice s4 n4 q4,I hd]::vs).toArray)/\Below WA.heap.size WA W1/\∀U,aD (fun b=>b=rb) W1 U->cA w K vs (.returned (.tuple (Value.agg #[.slice s1 rE q1,.slice s2 n2 q2,.slice s3 n3 q3,.slice s4 n4 q4,I hd]::vs).toArray)) U:=by
 obtain⟨S,hs,h1,h2,h3,h4⟩:=h;obtain⟨aS,nS,cS,eS⟩:∃b n d,S.vS=.slice b n d:=by obtain⟨b,d,e,_⟩:=bj h3.aM;grind
 obtain⟨aF,nF,cF,eF⟩:∃b n d,S.vF=.slice b n d:=by obtain⟨b,d,e,_⟩:=bj h3.frames;grind
 obtain⟨aL,nL,cL,eL⟩:∃b n d,S.vL=.slice b n d:=by obtain⟨b,d,e,_⟩:=bj h3.slots;grind
 obtain⟨aP,nP,cP,eP⟩:∃b n d,S.vP=.slice b n d:=by obtain⟨b,d,e,_⟩:=bj h3.aj;grind
 rw[eS,eF,eL,eP] at h2;have wY:Below w.heap.size w W1:=hb0.trans (h4.mono hb0.size);refine⟨aS,nS,cS,aF,nF,cF,aL,nL,cL,aP,nP,cP,_,h2,h4,fun U hU=>⟨S,hs,h1,by grind,(h3.kp hU (fun b hb e=>by have:=(h3.yJ b hb).1;omega)).mono hb0.size,aD.below wY hU wY.size (fun b e=>by omega)⟩⟩
theorem abw (E8:rG) (k:aT) (a:jc) (sp pg n q:Int) (w:World) (hK:jd w a k) (hF:nu k) (hsp:cO sp) (Pw:cO pg) (hn:cO n) :
  Calls Tryz.prog 263 #[.agg (bg a k),I sp,I pg,I n,I q] w (cA w (iy k sp (dK (ak k.aj sp.toNat).aU pg n q)).1 [I (iy k sp (dK (ak k.aj sp.toNat).aU pg n q)).2]):=by
 obtain⟨WA,lO⟩:=ex (((((w.alloc (.cells (bg a k) 30)).alloc (.cells #[I pg] 3)).alloc (.cells #[I n] 3)).alloc (.cells #[I q] 3)).alloc (.cells #[Nl,Nl,Nl,Nl,I 0] 30));have hb0:Below w.heap.size w WA:=by rw[lO];exact(((((aK _ _).alloc (aI _) _).alloc (by simp_all) _).alloc (by grind [World.size_alloc]) _).alloc (by grind [World.size_alloc]) _).alloc (by grind [World.size_alloc]) _
 have kb:WA.heap[w.heap.size]?=some (.cells (bg a k) 30 (0,0)):=by grind [br,bE]
 have b0:WA.heap[w.heap.size+1]?=some (.cells #[I pg] 3 (0,0)):=by
  grind [bE,World.size_alloc,br]
 have b1:WA.heap[w.heap.size+2]?=some (.cells #[I n] 3 (0,0)):=by
  grind [bE,World.size_alloc,br]
 have b2:WA.heap[w.heap.size+3]?=some (.cells #[I q] 3 (0,0)):=by
  grind [bE,World.size_alloc,br]
 have rb:WA.heap[w.heap.size+4]?=some (.cells #[Nl,Nl,Nl,Nl,I 0] 30 (0,0)):=by
  grind [bE,World.size_alloc]
 have hrl:=aJ rb;have RB:Hid (∀V,Below WA.heap.size WA V->V.heap[w.heap.size+4]?=some (.cells #[Nl,Nl,Nl,Nl,I 0] 30 (0,0))):=fun V hb=>aO rb hb (aJ rb)
 obtain⟨k0,k1,k2,k3,k4⟩:=iH (show WA.heap[w.heap.size]?=some (.cells #[.slice a.aS k.aM.length a.cS,.slice a.aF k.frames.length a.cF,.slice a.aL k.slots.length a.cL,.slice a.aP k.aj.length a.cP,I k.hand] 30 (0,0)) from kb);have L1:dO (dK (ak k.aj sp.toNat).aU pg n q).1:=RY _ pg n q;obtain⟨K,hKK⟩:=ex ((iy k sp (dK (ak k.aj sp.toNat).aU pg n q)).1);obtain⟨er,her⟩:=ex ((iy k sp (dK (ak k.aj sp.toNat).aU pg n q)).2);rw[<- hKK,<- her];have HWT:Hid (Calls Tryz.prog 274 #[.agg (bg a k),I sp,.func (.func 275) #[] #[.pointer (some (Ad (w.heap.size+1) 0)),.pointer (some (Ad (w.heap.size+2) 0)),.pointer (some (Ad (w.heap.size+3) 0))]] WA fun e w'=>∃s1 rE q1 s2 n2 q2 s3 n3 q3 s4 n4 q4 hd,e=.returned (.tuple #[.agg #[.slice s1 rE q1,.slice s2 n2 q2,.slice s3 n3 q3,.slice s4 n4 q4,I hd],I er])/\Below WA.heap.size WA w'/\∀U,aD (fun b=>b=w.heap.size+4) w' U->cA w K [I er] (.returned (.tuple #[.agg #[.slice s1 rE q1,.slice s2 n2 q2,.slice s3 n3 q3,.slice s4 n4 q4,I hd],I er])) U):=by
  refine(Fu E8 k a sp WA (hK.below hb0) hF hsp (dK (ak k.aj sp.toNat).aU pg n q) L1 275 [.pointer (some (Ad (w.heap.size+1) 0)),.pointer (some (Ad (w.heap.size+2) 0)),.pointer (some (Ad (w.heap.size+3) 0))] (w.heap.size+1) (w.heap.size+2) (w.heap.size+3) (.inl ⟨rfl,rfl⟩) (fun V ao cap hV h1 h2=>?_)).mono fun e w' h=>?_
  · exact YP _ ao _ cap pg n q _ _ _ V h1 h2 Pw hn (au (aO b0 hV (aJ b0)) 0 rfl) (au (aO b1 hV (aJ b1)) 0 rfl) (au (aO b2 hV (aJ b2)) 0 rfl)
  · rw[<- hKK,<- her] at h;exact Mp h hb0 ⟨by omega,hrl⟩
 have se:=ai lO;obtain⟨P,hP⟩:=ex (cA w K [I er]);rw[<- hP] at HWT ⊢;unfold bg at HWT se ⊢;clear hb0 kb b0 b1 b2 rb lO hK hF hsp Pw hn L1 hKK her hP E8;go_enter Tryz.func263,Tryz.ntmps263;go_upto_region 1 with fail
 (try simp only[xL,Nat.reduceAdd])
 rw[<- se.o];go_wp2_with (go_at_call 274;refine HWT.o.mono ?_;rintro e w1 ⟨s1,rE,q1,s2,n2,q2,s3,n3,q3,s4,n4,q4,hd,rfl,hb1,hfin⟩;have Ay:=ai hfin;have R1:=ai (RB.o _ hb1);clear hfin hb1;obtain⟨y0,y1,y2,y3,y4⟩:=iH R1.o;have f0:=aR R1.o 0;have f1:=aR R1.o 1;have f2:=aR R1.o 2;have f3:=aR R1.o 3;have f4:=aR R1.o 4;have h5:=ai (fun V=>l6 R1.o (.slice s1 rE q1) (.slice s2 n2 q2) (.slice s3 n3 q3) (.slice s4 n4 q4) (I hd) (V:=V)))
 obtain⟨r1,r2⟩:=h5.out _ rfl;obtain⟨y0,y1,y2,y3,y4⟩:=iH r1;refine bO (v:=.tuple #[.agg #[.slice s1 rE q1,.slice s2 n2 q2,.slice s3 n3 q3,.slice s4 n4 q4,I hd],I er]) (by simp[results,Tryz.results263,go_sem,y0,y1,y2,y3,y4]) rfl ?_;exact Ay.o _ r2
theorem VF (E8:rG) (k:aT) (a:jc) (sp pg n:Int) (w:World) (hK:jd w a k) (hF:nu k) (hsp:cO sp) (Pw:cO pg) (hn:cO n) :
  Calls Tryz.prog 266 #[.agg (bg a k),I sp,I pg,I n] w (cA w (iy k sp (cR (ak k.aj sp.toNat).aU pg n)).1 [I (iy k sp (cR (ak k.aj sp.toNat).aU pg n)).2]):=by
 obtain⟨WA,lO⟩:=ex ((((w.alloc (.cells (bg a k) 30)).alloc (.cells #[I pg] 3)).alloc (.cells #[I n] 3)).alloc (.cells #[Nl,Nl,Nl,Nl,I 0] 30));have hb0:Below w.heap.size w WA:=by grind [Below.refl,World.size_alloc,Below.alloc]
 have kb:WA.heap[w.heap.size]?=some (.cells (bg a k) 30 (0,0)):=by grind [br,bE]
 have b0:WA.heap[w.heap.size+1]?=some (.cells #[I pg] 3 (0,0)):=by
  grind [bE,World.size_alloc,br]
 have b1:WA.heap[w.heap.size+2]?=some (.cells #[I n] 3 (0,0)):=by
  grind [bE,World.size_alloc,br]
 have rb:WA.heap[w.heap.size+3]?=some (.cells #[Nl,Nl,Nl,Nl,I 0] 30 (0,0)):=by
  grind [bE,World.size_alloc]
 have hrl:=aJ rb;have RB:Hid (∀V,Below WA.heap.size WA V->V.heap[w.heap.size+3]?=some (.cells #[Nl,Nl,Nl,Nl,I 0] 30 (0,0))):=fun V hb=>aO rb hb (aJ rb)
 obtain⟨k0,k1,k2,k3,k4⟩:=iH (show WA.heap[w.heap.size]?=some (.cells #[.slice a.aS k.aM.length a.cS,.slice a.aF k.frames.length a.cF,.slice a.aL k.slots.length a.cL,.slice a.aP k.aj.length a.cP,I k.hand] 30 (0,0)) from kb);have L1:dO (cR (ak k.aj sp.toNat).aU pg n).1:=XI _ pg n;obtain⟨K,hKK⟩:=ex ((iy k sp (cR (ak k.aj sp.toNat).aU pg n)).1);obtain⟨er,her⟩:=ex ((iy k sp (cR (ak k.aj sp.toNat).aU pg n)).2);rw[<- hKK,<- her];have HWT:Hid (Calls Tryz.prog 274 #[.agg (bg a k),I sp,.func (.func 279) #[] #[.pointer (some (Ad (w.heap.size+1) 0)),.pointer (some (Ad (w.heap.size+2) 0))]] WA fun e w'=>∃s1 rE q1 s2 n2 q2 s3 n3 q3 s4 n4 q4 hd,e=.returned (.tuple #[.agg #[.slice s1 rE q1,.slice s2 n2 q2,.slice s3 n3 q3,.slice s4 n4 q4,I hd],I er])/\Below WA.heap.size WA w'/\∀U,aD (fun b=>b=w.heap.size+3) w' U->cA w K [I er] (.returned (.tuple #[.agg #[.slice s1 rE q1,.slice s2 n2 q2,.slice s3 n3 q3,.slice s4 n4 q4,I hd],I er])) U):=by
  refine(Fu E8 k a sp WA (hK.below hb0) hF hsp (cR (ak k.aj sp.toNat).aU pg n) L1 279 [.pointer (some (Ad (w.heap.size+1) 0)),.pointer (some (Ad (w.heap.size+2) 0))] (w.heap.size+1) (w.heap.size+2) (w.heap.size+3) (.inr (.inl ⟨rfl,rfl⟩)) (fun V ao cap hV h1 h2=>?_)).mono fun e w' h=>?_
  · exact SI _ ao _ cap pg n _ _ V h1 h2 Pw hn (au (aO b0 hV (aJ b0)) 0 rfl) (au (aO b1 hV (aJ b1)) 0 rfl)
  · rw[<- hKK,<- her] at h;exact Mp h hb0 ⟨by omega,hrl⟩
 have se:=ai lO;obtain⟨P,hP⟩:=ex (cA w K [I er]);rw[<- hP] at HWT ⊢;unfold bg at HWT se ⊢;clear hb0 kb b0 b1 rb lO hK hF hsp Pw hn L1 hKK her hP E8;go_enter Tryz.func266,Tryz.ntmps266;go_upto_region 1 with fail
 (try simp only[xL,Nat.reduceAdd])
 rw[<- se.o];go_wp2_with (go_at_call 274;refine HWT.o.mono ?_;rintro e w1 ⟨s1,rE,q1,s2,n2,q2,s3,n3,q3,s4,n4,q4,hd,rfl,hb1,hfin⟩;have Ay:=ai hfin;have R1:=ai (RB.o _ hb1);clear hfin hb1;obtain⟨y0,y1,y2,y3,y4⟩:=iH R1.o;have f0:=aR R1.o 0;have f1:=aR R1.o 1;have f2:=aR R1.o 2;have f3:=aR R1.o 3;have f4:=aR R1.o 4;have h5:=ai (fun V=>l6 R1.o (.slice s1 rE q1) (.slice s2 n2 q2) (.slice s3 n3 q3) (.slice s4 n4 q4) (I hd) (V:=V)))
 obtain⟨r1,r2⟩:=h5.out _ rfl;obtain⟨y0,y1,y2,y3,y4⟩:=iH r1;refine bO (v:=.tuple #[.agg #[.slice s1 rE q1,.slice s2 n2 q2,.slice s3 n3 q3,.slice s4 n4 q4,I hd],I er]) (by simp[results,Tryz.results266,go_sem,y0,y1,y2,y3,y4]) rfl ?_;exact Ay.o _ r2
theorem QA (E8:rG) (k:aT) (a:jc) (sp pg n q:Int) (w:World) (hK:jd w a k) (hF:nu k) (hsp:cO sp) (Pw:cO pg) (hn:cO n) :
  Calls Tryz.prog 264 #[.agg (bg a k),I sp,I pg,I n,I q] w (cA w (iy k sp (bV (ak k.aj sp.toNat).aU pg n q)).1 [I (iy k sp (bV (ak k.aj sp.toNat).aU pg n q)).2]):=by
 obtain⟨WA,lO⟩:=ex (((((w.alloc (.cells (bg a k) 30)).alloc (.cells #[I pg] 3)).alloc (.cells #[I n] 3)).alloc (.cells #[I q] 3)).alloc (.cells #[Nl,Nl,Nl,Nl,I 0] 30));have hb0:Below w.heap.size w WA:=by rw[lO];exact(((((aK _ _).alloc (aI _) _).alloc (by simp_all) _).alloc (by grind [World.size_alloc]) _).alloc (by grind [World.size_alloc]) _).alloc (by grind [World.size_alloc]) _
 have kb:WA.heap[w.heap.size]?=some (.cells (bg a k) 30 (0,0)):=by grind [br,bE]
 have b0:WA.heap[w.heap.size+1]?=some (.cells #[I pg] 3 (0,0)):=by
  grind [bE,World.size_alloc,br]
 have b1:WA.heap[w.heap.size+2]?=some (.cells #[I n] 3 (0,0)):=by
  grind [bE,World.size_alloc,br]
 have b2:WA.heap[w.heap.size+3]?=some (.cells #[I q] 3 (0,0)):=by
  grind [bE,World.size_alloc,br]
 have rb:WA.heap[w.heap.size+4]?=some (.cells #[Nl,Nl,Nl,Nl,I 0] 30 (0,0)):=by
  grind [bE,World.size_alloc]
 have hrl:=aJ rb;have RB:Hid (∀V,Below WA.heap.size WA V->V.heap[w.heap.size+4]?=some (.cells #[Nl,Nl,Nl,Nl,I 0] 30 (0,0))):=fun V hb=>aO rb hb (aJ rb)
 obtain⟨k0,k1,k2,k3,k4⟩:=iH (show WA.heap[w.heap.size]?=some (.cells #[.slice a.aS k.aM.length a.cS,.slice a.aF k.frames.length a.cF,.slice a.aL k.slots.length a.cL,.slice a.aP k.aj.length a.cP,I k.hand] 30 (0,0)) from kb);have L1:dO (bV (ak k.aj sp.toNat).aU pg n q).1:=RX _ pg n q;obtain⟨K,hKK⟩:=ex ((iy k sp (bV (ak k.aj sp.toNat).aU pg n q)).1);obtain⟨er,her⟩:=ex ((iy k sp (bV (ak k.aj sp.toNat).aU pg n q)).2);rw[<- hKK,<- her];have HWT:Hid (Calls Tryz.prog 274 #[.agg (bg a k),I sp,.func (.func 276) #[] #[.pointer (some (Ad (w.heap.size+1) 0)),.pointer (some (Ad (w.heap.size+2) 0)),.pointer (some (Ad (w.heap.size+3) 0))]] WA fun e w'=>∃s1 rE q1 s2 n2 q2 s3 n3 q3 s4 n4 q4 hd,e=.returned (.tuple #[.agg #[.slice s1 rE q1,.slice s2 n2 q2,.slice s3 n3 q3,.slice s4 n4 q4,I hd],I er])/\Below WA.heap.size WA w'/\∀U,aD (fun b=>b=w.heap.size+4) w' U->cA w K [I er] (.returned (.tuple #[.agg #[.slice s1 rE q1,.slice s2 n2 q2,.slice s3 n3 q3,.slice s4 n4 q4,I hd],I er])) U):=by
  refine(Fu E8 k a sp WA (hK.below hb0) hF hsp (bV (ak k.aj sp.toNat).aU pg n q) L1 276 [.pointer (some (Ad (w.heap.size+1) 0)),.pointer (some (Ad (w.heap.size+2) 0)),.pointer (some (Ad (w.heap.size+3) 0))] (w.heap.size+1) (w.heap.size+2) (w.heap.size+3) (.inr (.inr ⟨rfl,rfl⟩)) (fun V ao cap hV h1 h2=>?_)).mono fun e w' h=>?_
  · exact Oq _ ao _ cap pg n q _ _ _ V h1 h2 Pw hn (au (aO b0 hV (aJ b0)) 0 rfl) (au (aO b1 hV (aJ b1)) 0 rfl) (au (aO b2 hV (aJ b2)) 0 rfl)
  · rw[<- hKK,<- her] at h;exact Mp h hb0 ⟨by omega,hrl⟩
 have se:=ai lO;obtain⟨P,hP⟩:=ex (cA w K [I er]);rw[<- hP] at HWT ⊢;unfold bg at HWT se ⊢;clear hb0 kb b0 b1 b2 rb lO hK hF hsp Pw hn L1 hKK her hP E8;go_enter Tryz.func264,Tryz.ntmps264;go_upto_region 1 with fail
 (try simp only[xL,Nat.reduceAdd])
 rw[<- se.o];go_wp2_with (go_at_call 274;refine HWT.o.mono ?_;rintro e w1 ⟨s1,rE,q1,s2,n2,q2,s3,n3,q3,s4,n4,q4,hd,rfl,hb1,hfin⟩;have Ay:=ai hfin;have R1:=ai (RB.o _ hb1);clear hfin hb1;obtain⟨y0,y1,y2,y3,y4⟩:=iH R1.o;have f0:=aR R1.o 0;have f1:=aR R1.o 1;have f2:=aR R1.o 2;have f3:=aR R1.o 3;have f4:=aR R1.o 4;have h5:=ai (fun V=>l6 R1.o (.slice s1 rE q1) (.slice s2 n2 q2) (.slice s3 n3 q3) (.slice s4 n4 q4) (I hd) (V:=V)))
 obtain⟨r1,r2⟩:=h5.out _ rfl;obtain⟨y0,y1,y2,y3,y4⟩:=iH r1;refine bO (v:=.tuple #[.agg #[.slice s1 rE q1,.slice s2 n2 q2,.slice s3 n3 q3,.slice s4 n4 q4,I hd],I er]) (by simp[results,Tryz.results264,go_sem,y0,y1,y2,y3,y4]) rfl ?_;exact Ay.o _ r2
end Go.Proofs.YtlgoihmkgaaemaaGreat
