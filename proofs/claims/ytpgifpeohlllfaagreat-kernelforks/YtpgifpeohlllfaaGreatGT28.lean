import Derived.Test.YtpgifpeohlllfaaGreatGT27
set_option maxHeartbeats 20000000
set_option linter.unusedVariables false
set_option maxRecDepth 100000
set_option linter.unusedSimpArgs false
namespace Go.Proofs.YtpgifpeohlllfaaGreat
namespace KZ
open Go.RowKit GK KO
open FW (ai aD)
open KW (fh cK aI eB)
open KY (km vh)
theorem n1 (V:World) (A:Obj) (c:Array Value) (t:TypeId):((V.alloc A).alloc (.cells c t)).heap[V.heap.size+1]?=some (.cells c t (0,0)):=by
 have:=B.new (V.alloc A) c t;rw[World.size_alloc] at this;exact this
theorem n2 (V:World) (A A':Obj) (c:Array Value) (t:TypeId):(((V.alloc A).alloc A').alloc (.cells c t)).heap[V.heap.size+1+1]?=some (.cells c t (0,0)):=by
 have:=B.new ((V.alloc A).alloc A') c t;rw[World.size_alloc,World.size_alloc] at this;exact this
theorem S6 (uW:km) (l:List AM.Ar) (hs:List LM.Sh) (en nf ns:Int) (va:Value) (ao:Option Addr) (cap:Nat) (w:World) (ha:AW.Has w va l) (hf:AW.ft l) (h:LM.jb w ao hs) (Gk:LM.pH hs) (hcap:hs.length<=cap) (he:M.gu en) :
  Calls Tryz.prog 18 #[.agg #[va,.slice ao hs.length cap,I en],I nf,I ns] w (b6 w (He l hs en nf ns).1 [I (He l hs en nf ns).2]):=by
 obtain⟨aa,ca,sI,_⟩:=id ha;subst sI;obtain⟨WA,di⟩:=ex ((w.alloc (.cells #[.slice aa l.length ca,.slice ao hs.length cap,I en] 30)).alloc (.cells #[Nl,Nl,Nl,Nl,I 0] 27));have hb0:Below w.heap.size w WA:=by rw[di];exact((Below.refl _ _).alloc (Nat.le_refl _) _).alloc (by simp) _
 have kb:WA.heap[w.heap.size]?=some (.cells #[.slice aa l.length ca,.slice ao hs.length cap,I en] 30 (0,0)):=by rw[di];exact B.alloc (B.new w _ _) _
 have rb:WA.heap[w.heap.size+1]?=some (.cells #[Nl,Nl,Nl,Nl,I 0] 27 (0,0)):=by rw[di];exact n1 _ _ _ _
 have RB:Hid (∀V,Below WA.heap.size WA V->V.heap[w.heap.size+1]?=some (.cells #[Nl,Nl,Nl,Nl,I 0] 27 (0,0))):=fun V hb=>B.below rb hb (B.isLt rb)
 have KB:Hid (∀V,Below WA.heap.size WA V->V.heap[w.heap.size]?=some (.cells #[.slice aa l.length ca,.slice ao hs.length cap,I en] 30 (0,0))):=fun V hb=>B.below kb hb (B.isLt kb)
 have k0:WA.cell? (Ad w.heap.size 0)=some (.slice aa l.length ca):=B.cell kb 0 rfl;have k1:WA.cell? (Ad w.heap.size 1)=some (.slice ao hs.length cap):=B.cell kb 1 rfl;have k2:WA.cell? (Ad w.heap.size 2)=some (I en):=B.cell kb 2 rfl;have eZ:=ai di;have bR:=ai hb0;have hrl:=B.isLt rb;have uB:=ai (LW.gV l hs en (.slice aa l.length ca) ao cap WA (ha.below hb0) hf (h.below hb0) Gk hcap he);have Xp:Hid (∀V,Below WA.heap.size WA V->Calls Tryz.prog 54 #[.slice aa l.length ca] V fun e w'=>e=.returned (I (AM.b7 l))/\Below V.heap.size V w'):=fun V hV=>AW.uD l _ V (ha.below (hb0.trans (hV.mono hb0.size))) hf
 have vr:Hid (∀(V:World) (C:Int),Below w.heap.size w V->b6 w gK [I C] (.returned (.tuple #[.agg #[Nl,Nl,Nl,Nl,I 0],I C])) V):=fun V C hV=>iD _ hV
 unfold He;by_cases c:LM.mU l hs en=0
 · rw[if_neg (fun x=>x c)];have Ni:LM.mU l hs en=0->3<=nf->nf<=64->0<=ns->ns<=512->Hid (∀(W:World) fb sb pb,Below WA.heap.size WA W->W.heap[fb]?=some (.cells (zf nf.toNat) 40 (0,0))->W.heap[sb]?=some (.cells (zl ns.toNat) 86 (0,0))->W.heap[pb]?=some (.cells #[.bool true,.slice aa l.length ca,Nl] 43 (0,0))->Calls Tryz.prog 55 #[.agg #[.slice ao hs.length cap,.slice (some (Ad fb 0)) nf.toNat nf.toNat,.slice (some (Ad sb 0)) ns.toNat ns.toNat,.slice (some (Ad pb 0)) 1 1,I 0]] W fun e w'=>∃aS nS cS aF nF cF aL nL cL aP nP cP,e=.returned (.agg #[.slice aS nS cS,.slice aF nF cF,.slice aL nL cL,.slice aP nP cP,I 0])/\Below WA.heap.size WA w'/\w'.heap[w.heap.size+1]?=some (.cells #[Nl,Nl,Nl,Nl,I 0] 27 (0,0))/\∀U,Kp (fun b=>b=w.heap.size+1) w' U->b6 w (Hd l hs nf ns) [I 0] (.returned (.tuple #[.agg #[.slice aS nS cS,.slice aF nF cF,.slice aL nL cL,.slice aP nP cP,I 0],I 0])) U):=fun hc h3 h64 h0 akR W fb sb pb hW g1 g2 g3=>by
    have ek:Below w.heap.size w W:=hb0.trans (hW.mono hb0.size);have hk:=Dd (cap:=cap) (ha.below ek) (h.below ek) g1 g2 g3;have hcl:=uW _ _ W hk (uO hc nf.toNat ns.toNat (by omega) (by omega));unfold aI at hcl;simp only[List.length_replicate,List.length_singleton] at hcl;refine hcl.mono fun e w' ⟨S,hs',hsame,e1,hr,hb⟩=>?_
    obtain⟨aS,nS,cS,eS⟩:∃b n d,S.vS=.slice b n d:=by obtain⟨b,d,e,_⟩:=aN hr.ak;exact⟨b,_,d,e⟩
    obtain⟨aF,nF,cF,eF⟩:∃b n d,S.vF=.slice b n d:=by obtain⟨b,d,e,_⟩:=aN hr.frames;exact⟨b,_,d,e⟩
    obtain⟨aL,nL,cL,eL⟩:∃b n d,S.vL=.slice b n d:=by obtain⟨b,d,e,_⟩:=aN hr.slots;exact⟨b,_,d,e⟩
    obtain⟨aP,nP,cP,eP⟩:∃b n d,S.vP=.slice b n d:=by obtain⟨b,d,e,_⟩:=aN hr.aj;exact⟨b,_,d,e⟩
    rw[eS,eF,eL,eP] at e1;have hbl:Below WA.heap.size WA w':=hW.trans (hb.mono hW.size);have Z8:Below w.heap.size w w':=hb0.trans (hbl.mono hb0.size);have hWz:=hW.size;refine⟨aS,nS,cS,aF,nF,cF,aL,nL,cL,aP,nP,cP,e1,hbl,RB.o _ hbl,fun U hU=>⟨S,hs',hsame,by rw[eS,eF,eL,eP];rfl,(hr.kp hU (fun b hb e=>by have:=(hr.iJ b hb).1;omega)).mono ek.size,Kp.below Z8 hU Z8.size (fun b e=>by omega)⟩⟩
   have UR:=Ni c;rw[c] at uB;clear Ni ha hf h Gk he hcap hb0 kb rb di;by_cases c3:nf<3
   · rw[if_pos c3];have bB:=ai (fun V (h:Below w.heap.size w V)=>vr.o V 9 h);obtain⟨P,hP⟩:=ex (b6 w gK [I 9]);show Calls _ _ _ _ (b6 w gK [I 9]);rw[<- hP] at bB ⊢;clear hP vr UR c Xp;go_enter Tryz.func18,Tryz.ntmps18;go_upto_region 1 with fail;rw[<- eZ.o];go_upto_region 5 with(go_at_call 53;refine uB.o.mono ?_;rintro e w1 ⟨rfl,hb1⟩;have bE:=ai hb1;have gw:=ai (bR.o.trans (hb1.mono bR.o.size));have R1:=ai (RB.o _ hb1);obtain⟨j0,j1,j2⟩:=B.c3 (KB.o _ hb1);clear hb1)
     obtain⟨y0,y1,y2,y3,y4⟩:=B.c5 R1.o;have f0:=B.free R1.o 0;have f1:=B.free R1.o 1;have f2:=B.free R1.o 2;have f3:=B.free R1.o 3;have f4:=B.free R1.o 4;have h5:=ai (fun V=>lI R1.o Nl Nl Nl Nl (I 0) (V:=V));go_wp2;obtain⟨r1,r2⟩:=h5.out _ rfl;obtain⟨y0,y1,y2,y3,y4⟩:=B.c5 r1;refine bodyPost_ret (v:=.tuple #[.agg #[Nl,Nl,Nl,Nl,I 0],I 9]) (by simp[results,Tryz.results18,go_sem,y0,y1,y2,y3,y4]) rfl ?_;exact bB.o _ (Kp.below gw.o r2 gw.o.size (fun b e=>by omega))
   rw[if_neg c3];by_cases cr:nf>64∨ns<0∨ns>512
   · rw[if_pos cr];rcases(show 64<nf∨(¬64<nf/\ns<0)∨(¬64<nf/\¬ns<0/\512<ns) by omega) with g1 | ⟨g1,g2⟩ | ⟨g1,g2,g3⟩
     all_goals
      clear cr;have bB:=ai (fun V (h:Below w.heap.size w V)=>vr.o V 3 h);obtain⟨P,hP⟩:=ex (b6 w gK [I 3]);show Calls _ _ _ _ (b6 w gK [I 3]);rw[<- hP] at bB ⊢;clear hP vr UR c Xp;go_enter Tryz.func18,Tryz.ntmps18;go_upto_region 1 with fail;rw[<- eZ.o];go_upto_region 7 with(go_at_call 53;refine uB.o.mono ?_;rintro e w1 ⟨rfl,hb1⟩;have bE:=ai hb1;have gw:=ai (bR.o.trans (hb1.mono bR.o.size));have R1:=ai (RB.o _ hb1);obtain⟨j0,j1,j2⟩:=B.c3 (KB.o _ hb1);clear hb1)
      obtain⟨y0,y1,y2,y3,y4⟩:=B.c5 R1.o;have f0:=B.free R1.o 0;have f1:=B.free R1.o 1;have f2:=B.free R1.o 2;have f3:=B.free R1.o 3;have f4:=B.free R1.o 4;have h5:=ai (fun V=>lI R1.o Nl Nl Nl Nl (I 0) (V:=V));go_wp2;obtain⟨r1,r2⟩:=h5.out _ rfl;obtain⟨y0,y1,y2,y3,y4⟩:=B.c5 r1;refine bodyPost_ret (v:=.tuple #[.agg #[Nl,Nl,Nl,Nl,I 0],I 3]) (by simp[results,Tryz.results18,go_sem,y0,y1,y2,y3,y4]) rfl ?_;exact bB.o _ (Kp.below gw.o r2 gw.o.size (fun b e=>by omega))
   rw[if_neg cr];have g1:¬64<nf:=by omega
   have g2:¬ns<0:=by omega
   have g3:¬512<ns:=by omega
   have I7:=UR (by omega) (by omega) (by omega) (by omega);have e2:=fun V:World=>mkF V nf (by omega) (by omega)
   have e3:=fun V:World=>mkL V ns (by omega) (by omega)
   clear cr UR c;have Zq:=KW.jS l;obtain⟨T1,MV⟩:=ex (AM.b7 l);rw[<- MV] at Xp Zq ⊢;clear MV;by_cases ct:T1>ns
   · rw[if_pos ct];have c2:ns<T1:=ct;have bB:=ai (fun V (h:Below w.heap.size w V)=>vr.o V 8 h);obtain⟨P,hP⟩:=ex (b6 w gK [I 8]);show Calls _ _ _ _ (b6 w gK [I 8]);rw[<- hP] at bB ⊢;clear hP vr I7 e2 e3 ct;go_enter Tryz.func18,Tryz.ntmps18;go_upto_region 1 with fail;rw[<- eZ.o];go_upto_region 9 with(first
      | (go_at_call 53;refine uB.o.mono ?_;rintro e w1 ⟨rfl,hb1⟩;have bE:=ai hb1;have gw:=ai (bR.o.trans (hb1.mono bR.o.size));have R1:=ai (RB.o _ hb1);obtain⟨j0,j1,j2⟩:=B.c3 (KB.o _ hb1);clear hb1)
      | (go_at_call 54;refine(Xp.o _ bE.o).mono ?_;rintro e w2 ⟨rfl,hb2⟩;have hb3:=bE.o.trans (hb2.mono bE.o.size);have gw:=ai (bR.o.trans (hb3.mono bR.o.size));have R1:=ai (RB.o _ hb3);clear hb2 hb3))
     obtain⟨y0,y1,y2,y3,y4⟩:=B.c5 R1.o;have f0:=B.free R1.o 0;have f1:=B.free R1.o 1;have f2:=B.free R1.o 2;have f3:=B.free R1.o 3;have f4:=B.free R1.o 4;have h5:=ai (fun V=>lI R1.o Nl Nl Nl Nl (I 0) (V:=V));go_wp2;obtain⟨r1,r2⟩:=h5.out _ rfl;obtain⟨y0,y1,y2,y3,y4⟩:=B.c5 r1;refine bodyPost_ret (v:=.tuple #[.agg #[Nl,Nl,Nl,Nl,I 0],I 8]) (by simp[results,Tryz.results18,go_sem,y0,y1,y2,y3,y4]) rfl ?_;exact bB.o _ (Kp.below gw.o r2 gw.o.size (fun b e=>by omega))
   rw[if_neg ct];have c2:¬ns<T1:=ct;obtain⟨P,hP⟩:=ex (b6 w (Hd l hs nf ns) [I 0]);show Calls _ _ _ _ (b6 w (Hd l hs nf ns) [I 0]);rw[<- hP] at I7 ⊢;obtain⟨NF,hNF⟩:=ex nf.toNat
   obtain⟨NS,hNS⟩:=ex ns.toNat
   rw[<- hNF] at I7;rw[<- hNS] at I7;simp only[<- hNF] at e2;simp only[<- hNS] at e3;clear hP hNF hNS vr ct;go_enter Tryz.func18,Tryz.ntmps18;go_upto_region 1 with fail;rw[<- eZ.o];go_upto_region 10 with(first
    | (go_at_call 53;refine uB.o.mono ?_;rintro e w1 ⟨rfl,hb1⟩;have bE:=ai hb1;obtain⟨j0,j1,j2⟩:=B.c3 (KB.o _ hb1);clear hb1)
    | (go_at_call 54;refine(Xp.o _ bE.o).mono ?_;rintro e w2 ⟨rfl,hb2⟩;have cM:=ai (bE.o.trans (hb2.mono bE.o.size));clear hb2))
   clear j0 j1 j2 uB Xp;have eQ:Hid (∀V,Below WA.heap.size WA V->V.cell? (Ad w.heap.size 0)=some (.slice aa l.length ca)/\V.cell? (Ad w.heap.size 1)=some (.slice ao hs.length cap)):=fun V hV=>⟨B.cell (KB.o _ hV) 0 rfl,B.cell (KB.o _ hV) 1 rfl⟩
   refine GZ.sW (S:=fun V=>V.cell? (Ad w.heap.size 0)=some (.slice aa l.length ca)/\V.cell? (Ad w.heap.size 1)=some (.slice ao hs.length cap)) (z:=13) (by kernel_rfl) ?_;have gG:=ai (cM.o.drew);obtain⟨V0,hV0⟩:=ex w2.drew;rw[<- hV0] at gG ⊢;clear hV0;refine GZ.tk 0 (eQ.o _ gG.o) ?_ ?_ ?_;rotate_left 1
   · intro V h;obtain⟨k0,k1⟩:=h;go_simp
     try with_reducible rfl
   refine GZ.tk 1 (eQ.o _ gG.o) ?_ ?_ ?_;rotate_left 1
   · intro V h;obtain⟨k0,k1⟩:=h;go_simp
     try with_reducible rfl
   refine GZ.tk 2 (eQ.o _ gG.o) ?_ ?_ ?_;rotate_left 1
   · intro V h;obtain⟨k0,k1⟩:=h;go_simp
     try with_reducible rfl
   refine GZ.tk 4 (eQ.o _ gG.o) ?_ ?_ ?_;rotate_left 1
   · intro V h;obtain⟨k0,k1⟩:=h;go_simp
     try with_reducible rfl
   refine GZ.tk 6 (eQ.o _ gG.o) ?_ ?_ ?_;rotate_left 1
   · intro V h;obtain⟨k0,k1⟩:=h;go_simp
     try with_reducible rfl
   refine GZ.tk 7 (eQ.o _ gG.o) ?_ ?_ ?_;rotate_left 1
   · intro V h;obtain⟨k0,k1⟩:=h;go_simp
     try with_reducible rfl
   refine GZ.tk 8 (eQ.o _ gG.o) ?_ ?_ ?_;rotate_left 1
   · intro V h;obtain⟨k0,k1⟩:=h;go_simp
     try with_reducible rfl
   refine GZ.all (rs:=[3,5,9]) (by kernel_rfl) (by simp) ?_;refine GZ.bl.cons rfl (fun K hK=>?_) (GZ.bl.cons rfl (fun K hK=>?_) (GZ.bl.cons rfl (fun K hK=>?_) GZ.bl.nil))
   · go_simp;refine hK.out _ _ (fun _=>?_) ?_
     · exact eQ.o _ (gG.o.alloc gG.o.size _)
     clear hK K;have kr:=ai (gG.o.alloc gG.o.size (.cells (zf NF) 40));have BF:=ai (B.new V0 (zf NF) 40);obtain⟨V1,hV1⟩:=ex (V0.alloc (.cells (zf NF) 40));obtain⟨bF,JT⟩:=ex V0.heap.size;rw[<- hV1] at kr BF ⊢;rw[<- JT] at BF ⊢;clear hV1 JT
     try simp only[Act.put,List.setIfInBounds_toArray,List.set_cons_zero,List.set_cons_succ]
     refine GZ.all (rs:=[5,9]) (by kernel_rfl) (by simp) ?_;refine GZ.bl.cons rfl (fun K hK=>?_) (GZ.bl.cons rfl (fun K hK=>?_) GZ.bl.nil)
     · go_simp;refine hK.out _ _ (fun _=>?_) ?_
       · exact eQ.o _ (kr.o.alloc kr.o.size _)
       clear hK K;have iM:=ai (kr.o.alloc kr.o.size (.cells (zl NS) 86));have BF:=ai (B.alloc BF.o (.cells (zl NS) 86));have BL:=ai (B.new V1 (zl NS) 86);obtain⟨V2,hV2⟩:=ex (V1.alloc (.cells (zl NS) 86));obtain⟨bL,hbL⟩:=ex V1.heap.size;rw[<- hV2] at iM BF BL ⊢;rw[<- hbL] at BL ⊢;clear hV2 hbL
       try simp only[Act.put,List.setIfInBounds_toArray,List.set_cons_zero,List.set_cons_succ]
       refine GZ.all (rs:=[9]) (by kernel_rfl) (by simp) ?_;refine GZ.bl.cons rfl (fun K hK=>?_) GZ.bl.nil;go_simp;refine hK.out _ _ (fun _=>?_) ?_
       · exact eQ.o _ (iM.o.alloc iM.o.size _)
       clear hK K;have ky:=ai (iM.o.alloc iM.o.size (.cells #[.bool true,.slice aa l.length ca,Nl] 43));have BF:=ai (B.alloc BF.o (.cells #[.bool true,.slice aa l.length ca,Nl] 43));have BL:=ai (B.alloc BL.o (.cells #[.bool true,.slice aa l.length ca,Nl] 43));have BP:=ai (B.new V2 #[.bool true,.slice aa l.length ca,Nl] 43);obtain⟨V3,Fg⟩:=ex (V2.alloc (.cells #[.bool true,.slice aa l.length ca,Nl] 43));obtain⟨bP,JS⟩:=ex V2.heap.size;rw[<- Fg] at ky BF BL BP ⊢;rw[<- JS] at BP ⊢;clear Fg JS
       try simp only[Act.put,List.setIfInBounds_toArray,List.set_cons_zero,List.set_cons_succ]
       refine GZ.tk 10 (eQ.o _ ky.o) ?_ ?_ ?_;rotate_left 1
       · intro V h;obtain⟨k0,k1⟩:=h;go_simp
         try with_reducible rfl
       refine GZ.all (rs:=[11]) (by kernel_rfl) (by simp) ?_;refine GZ.bl.cons rfl (fun K hK=>?_) GZ.bl.nil;rw[if_pos (by rfl)];go_simp;go_at_call 55;refine(I7.o _ _ _ _ ky.o BF.o BL.o BP.o).mono ?_;rintro e w6 ⟨aS,nS,cS,aF,nF,cF,aL,nL,cL,aP,nP,cP,rfl,uw,BG,hfin⟩;have Dv:=ai uw;have R6:=ai BG;have kY:=ai hfin;clear uw BG hfin;try go_simp;refine hK.out _ _ (fun _=>?_) ?_
       · exact eQ.o _ Dv.o
       clear hK K
       try simp only[Act.put,List.setIfInBounds_toArray,List.set_cons_zero,List.set_cons_succ]
       obtain⟨y0,y1,y2,y3,y4⟩:=B.c5 R6.o;have f0:=B.free R6.o 0;have f1:=B.free R6.o 1;have f2:=B.free R6.o 2;have f3:=B.free R6.o 3;have f4:=B.free R6.o 4;have h5:=ai (fun V=>lI R6.o (.slice aS nS cS) (.slice aF nF cF) (.slice aL nL cL) (.slice aP nP cP) (I 0) (V:=V));refine GZ.all (rs:=[12]) (by kernel_rfl) (by simp) ?_;refine GZ.bl.cons rfl (fun K hK=>?_) GZ.bl.nil;go_simp;obtain⟨r1,r2⟩:=h5.out _ rfl;refine hK.out _ _ (fun _=>?_) ?_
       · have:=r2.keep (KB.o _ Dv.o) (show ¬w.heap.size=w.heap.size+1 by omega);exact⟨B.cell this 0 rfl,B.cell this 1 rfl⟩
       clear hK K
       try simp only[Act.put,List.setIfInBounds_toArray,List.set_cons_zero,List.set_cons_succ]
       refine GZ.all (rs:=[13]) (by kernel_rfl) (by simp) ?_;refine GZ.bl.cons rfl (fun K hK=>?_) GZ.bl.nil;go_simp;refine hK.out _ _ (fun g=>absurd rfl g) ?_;refine GZ.done (by kernel_rfl) ?_ _;go_wp2;obtain⟨y0,y1,y2,y3,y4⟩:=B.c5 r1;refine bodyPost_ret (v:=.tuple #[.agg #[.slice aS nS cS,.slice aF nF cF,.slice aL nL cL,.slice aP nP cP,I 0],I 0]) (by simp[results,Tryz.results18,go_sem,y0,y1,y2,y3,y4]) rfl ?_;exact kY.o _ r2
     · go_simp;refine hK.out _ _ (fun _=>?_) ?_
       · exact eQ.o _ (kr.o.alloc kr.o.size _)
       clear hK K;have iM:=ai (kr.o.alloc kr.o.size (.cells #[.bool true,.slice aa l.length ca,Nl] 43));have BF:=ai (B.alloc BF.o (.cells #[.bool true,.slice aa l.length ca,Nl] 43));have BP:=ai (B.new V1 #[.bool true,.slice aa l.length ca,Nl] 43);obtain⟨V2,hV2⟩:=ex (V1.alloc (.cells #[.bool true,.slice aa l.length ca,Nl] 43));obtain⟨bP,JS⟩:=ex V1.heap.size;rw[<- hV2] at iM BF BP ⊢;rw[<- JS] at BP ⊢;clear hV2 JS
       try simp only[Act.put,List.setIfInBounds_toArray,List.set_cons_zero,List.set_cons_succ]
       refine GZ.all (rs:=[5]) (by kernel_rfl) (by simp) ?_;refine GZ.bl.cons rfl (fun K hK=>?_) GZ.bl.nil;go_simp;refine hK.out _ _ (fun _=>?_) ?_
       · exact eQ.o _ (iM.o.alloc iM.o.size _)
       clear hK K;have ky:=ai (iM.o.alloc iM.o.size (.cells (zl NS) 86));have BF:=ai (B.alloc BF.o (.cells (zl NS) 86));have BP:=ai (B.alloc BP.o (.cells (zl NS) 86));have BL:=ai (B.new V2 (zl NS) 86);obtain⟨V3,Fg⟩:=ex (V2.alloc (.cells (zl NS) 86));obtain⟨bL,hbL⟩:=ex V2.heap.size;rw[<- Fg] at ky BF BP BL ⊢;rw[<- hbL] at BL ⊢;clear Fg hbL
       try simp only[Act.put,List.setIfInBounds_toArray,List.set_cons_zero,List.set_cons_succ]
       refine GZ.tk 10 (eQ.o _ ky.o) ?_ ?_ ?_;rotate_left 1
       · intro V h;obtain⟨k0,k1⟩:=h;go_simp
         try with_reducible rfl
       refine GZ.all (rs:=[11]) (by kernel_rfl) (by simp) ?_;refine GZ.bl.cons rfl (fun K hK=>?_) GZ.bl.nil;rw[if_pos (by rfl)];go_simp;go_at_call 55;refine(I7.o _ _ _ _ ky.o BF.o BL.o BP.o).mono ?_;rintro e w6 ⟨aS,nS,cS,aF,nF,cF,aL,nL,cL,aP,nP,cP,rfl,uw,BG,hfin⟩;have Dv:=ai uw;have R6:=ai BG;have kY:=ai hfin;clear uw BG hfin;try go_simp;refine hK.out _ _ (fun _=>?_) ?_
       · exact eQ.o _ Dv.o
       clear hK K
       try simp only[Act.put,List.setIfInBounds_toArray,List.set_cons_zero,List.set_cons_succ]
       obtain⟨y0,y1,y2,y3,y4⟩:=B.c5 R6.o;have f0:=B.free R6.o 0;have f1:=B.free R6.o 1;have f2:=B.free R6.o 2;have f3:=B.free R6.o 3;have f4:=B.free R6.o 4;have h5:=ai (fun V=>lI R6.o (.slice aS nS cS) (.slice aF nF cF) (.slice aL nL cL) (.slice aP nP cP) (I 0) (V:=V));refine GZ.all (rs:=[12]) (by kernel_rfl) (by simp) ?_;refine GZ.bl.cons rfl (fun K hK=>?_) GZ.bl.nil;go_simp;obtain⟨r1,r2⟩:=h5.out _ rfl;refine hK.out _ _ (fun _=>?_) ?_
       · have:=r2.keep (KB.o _ Dv.o) (show ¬w.heap.size=w.heap.size+1 by omega);exact⟨B.cell this 0 rfl,B.cell this 1 rfl⟩
       clear hK K
       try simp only[Act.put,List.setIfInBounds_toArray,List.set_cons_zero,List.set_cons_succ]
       refine GZ.all (rs:=[13]) (by kernel_rfl) (by simp) ?_;refine GZ.bl.cons rfl (fun K hK=>?_) GZ.bl.nil;go_simp;refine hK.out _ _ (fun g=>absurd rfl g) ?_;refine GZ.done (by kernel_rfl) ?_ _;go_wp2;obtain⟨y0,y1,y2,y3,y4⟩:=B.c5 r1;refine bodyPost_ret (v:=.tuple #[.agg #[.slice aS nS cS,.slice aF nF cF,.slice aL nL cL,.slice aP nP cP,I 0],I 0]) (by simp[results,Tryz.results18,go_sem,y0,y1,y2,y3,y4]) rfl ?_;exact kY.o _ r2
   · go_simp;refine hK.out _ _ (fun _=>?_) ?_
     · exact eQ.o _ (gG.o.alloc gG.o.size _)
     clear hK K;have kr:=ai (gG.o.alloc gG.o.size (.cells (zl NS) 86));have BL:=ai (B.new V0 (zl NS) 86);obtain⟨V1,hV1⟩:=ex (V0.alloc (.cells (zl NS) 86));obtain⟨bL,hbL⟩:=ex V0.heap.size;rw[<- hV1] at kr BL ⊢;rw[<- hbL] at BL ⊢;clear hV1 hbL
     try simp only[Act.put,List.setIfInBounds_toArray,List.set_cons_zero,List.set_cons_succ]
     refine GZ.all (rs:=[3,9]) (by kernel_rfl) (by simp) ?_;refine GZ.bl.cons rfl (fun K hK=>?_) (GZ.bl.cons rfl (fun K hK=>?_) GZ.bl.nil)
     · go_simp;refine hK.out _ _ (fun _=>?_) ?_
       · exact eQ.o _ (kr.o.alloc kr.o.size _)
       clear hK K;have iM:=ai (kr.o.alloc kr.o.size (.cells (zf NF) 40));have BL:=ai (B.alloc BL.o (.cells (zf NF) 40));have BF:=ai (B.new V1 (zf NF) 40);obtain⟨V2,hV2⟩:=ex (V1.alloc (.cells (zf NF) 40));obtain⟨bF,JT⟩:=ex V1.heap.size;rw[<- hV2] at iM BL BF ⊢;rw[<- JT] at BF ⊢;clear hV2 JT
       try simp only[Act.put,List.setIfInBounds_toArray,List.set_cons_zero,List.set_cons_succ]
       refine GZ.all (rs:=[9]) (by kernel_rfl) (by simp) ?_;refine GZ.bl.cons rfl (fun K hK=>?_) GZ.bl.nil;go_simp;refine hK.out _ _ (fun _=>?_) ?_
       · exact eQ.o _ (iM.o.alloc iM.o.size _)
       clear hK K;have ky:=ai (iM.o.alloc iM.o.size (.cells #[.bool true,.slice aa l.length ca,Nl] 43));have BL:=ai (B.alloc BL.o (.cells #[.bool true,.slice aa l.length ca,Nl] 43));have BF:=ai (B.alloc BF.o (.cells #[.bool true,.slice aa l.length ca,Nl] 43));have BP:=ai (B.new V2 #[.bool true,.slice aa l.length ca,Nl] 43);obtain⟨V3,Fg⟩:=ex (V2.alloc (.cells #[.bool true,.slice aa l.length ca,Nl] 43));obtain⟨bP,JS⟩:=ex V2.heap.size;rw[<- Fg] at ky BL BF BP ⊢;rw[<- JS] at BP ⊢;clear Fg JS
       try simp only[Act.put,List.setIfInBounds_toArray,List.set_cons_zero,List.set_cons_succ]
       refine GZ.tk 10 (eQ.o _ ky.o) ?_ ?_ ?_;rotate_left 1
       · intro V h;obtain⟨k0,k1⟩:=h;go_simp
         try with_reducible rfl
       refine GZ.all (rs:=[11]) (by kernel_rfl) (by simp) ?_;refine GZ.bl.cons rfl (fun K hK=>?_) GZ.bl.nil;rw[if_pos (by rfl)];go_simp;go_at_call 55;refine(I7.o _ _ _ _ ky.o BF.o BL.o BP.o).mono ?_;rintro e w6 ⟨aS,nS,cS,aF,nF,cF,aL,nL,cL,aP,nP,cP,rfl,uw,BG,hfin⟩;have Dv:=ai uw;have R6:=ai BG;have kY:=ai hfin;clear uw BG hfin;try go_simp;refine hK.out _ _ (fun _=>?_) ?_
       · exact eQ.o _ Dv.o
       clear hK K
       try simp only[Act.put,List.setIfInBounds_toArray,List.set_cons_zero,List.set_cons_succ]
       obtain⟨y0,y1,y2,y3,y4⟩:=B.c5 R6.o;have f0:=B.free R6.o 0;have f1:=B.free R6.o 1;have f2:=B.free R6.o 2;have f3:=B.free R6.o 3;have f4:=B.free R6.o 4;have h5:=ai (fun V=>lI R6.o (.slice aS nS cS) (.slice aF nF cF) (.slice aL nL cL) (.slice aP nP cP) (I 0) (V:=V));refine GZ.all (rs:=[12]) (by kernel_rfl) (by simp) ?_;refine GZ.bl.cons rfl (fun K hK=>?_) GZ.bl.nil;go_simp;obtain⟨r1,r2⟩:=h5.out _ rfl;refine hK.out _ _ (fun _=>?_) ?_
       · have:=r2.keep (KB.o _ Dv.o) (show ¬w.heap.size=w.heap.size+1 by omega);exact⟨B.cell this 0 rfl,B.cell this 1 rfl⟩
       clear hK K
       try simp only[Act.put,List.setIfInBounds_toArray,List.set_cons_zero,List.set_cons_succ]
       refine GZ.all (rs:=[13]) (by kernel_rfl) (by simp) ?_;refine GZ.bl.cons rfl (fun K hK=>?_) GZ.bl.nil;go_simp;refine hK.out _ _ (fun g=>absurd rfl g) ?_;refine GZ.done (by kernel_rfl) ?_ _;go_wp2;obtain⟨y0,y1,y2,y3,y4⟩:=B.c5 r1;refine bodyPost_ret (v:=.tuple #[.agg #[.slice aS nS cS,.slice aF nF cF,.slice aL nL cL,.slice aP nP cP,I 0],I 0]) (by simp[results,Tryz.results18,go_sem,y0,y1,y2,y3,y4]) rfl ?_;exact kY.o _ r2
     · go_simp;refine hK.out _ _ (fun _=>?_) ?_
       · exact eQ.o _ (kr.o.alloc kr.o.size _)
       clear hK K;have iM:=ai (kr.o.alloc kr.o.size (.cells #[.bool true,.slice aa l.length ca,Nl] 43));have BL:=ai (B.alloc BL.o (.cells #[.bool true,.slice aa l.length ca,Nl] 43));have BP:=ai (B.new V1 #[.bool true,.slice aa l.length ca,Nl] 43);obtain⟨V2,hV2⟩:=ex (V1.alloc (.cells #[.bool true,.slice aa l.length ca,Nl] 43));obtain⟨bP,JS⟩:=ex V1.heap.size;rw[<- hV2] at iM BL BP ⊢;rw[<- JS] at BP ⊢;clear hV2 JS
       try simp only[Act.put,List.setIfInBounds_toArray,List.set_cons_zero,List.set_cons_succ]
       refine GZ.all (rs:=[3]) (by kernel_rfl) (by simp) ?_;refine GZ.bl.cons rfl (fun K hK=>?_) GZ.bl.nil;go_simp;refine hK.out _ _ (fun _=>?_) ?_
       · exact eQ.o _ (iM.o.alloc iM.o.size _)
       clear hK K;have ky:=ai (iM.o.alloc iM.o.size (.cells (zf NF) 40));have BL:=ai (B.alloc BL.o (.cells (zf NF) 40));have BP:=ai (B.alloc BP.o (.cells (zf NF) 40));have BF:=ai (B.new V2 (zf NF) 40);obtain⟨V3,Fg⟩:=ex (V2.alloc (.cells (zf NF) 40));obtain⟨bF,JT⟩:=ex V2.heap.size;rw[<- Fg] at ky BL BP BF ⊢;rw[<- JT] at BF ⊢;clear Fg JT
       try simp only[Act.put,List.setIfInBounds_toArray,List.set_cons_zero,List.set_cons_succ]
       refine GZ.tk 10 (eQ.o _ ky.o) ?_ ?_ ?_;rotate_left 1
       · intro V h;obtain⟨k0,k1⟩:=h;go_simp
         try with_reducible rfl
       refine GZ.all (rs:=[11]) (by kernel_rfl) (by simp) ?_;refine GZ.bl.cons rfl (fun K hK=>?_) GZ.bl.nil;rw[if_pos (by rfl)];go_simp;go_at_call 55;refine(I7.o _ _ _ _ ky.o BF.o BL.o BP.o).mono ?_;rintro e w6 ⟨aS,nS,cS,aF,nF,cF,aL,nL,cL,aP,nP,cP,rfl,uw,BG,hfin⟩;have Dv:=ai uw;have R6:=ai BG;have kY:=ai hfin;clear uw BG hfin;try go_simp;refine hK.out _ _ (fun _=>?_) ?_
       · exact eQ.o _ Dv.o
       clear hK K
       try simp only[Act.put,List.setIfInBounds_toArray,List.set_cons_zero,List.set_cons_succ]
       obtain⟨y0,y1,y2,y3,y4⟩:=B.c5 R6.o;have f0:=B.free R6.o 0;have f1:=B.free R6.o 1;have f2:=B.free R6.o 2;have f3:=B.free R6.o 3;have f4:=B.free R6.o 4;have h5:=ai (fun V=>lI R6.o (.slice aS nS cS) (.slice aF nF cF) (.slice aL nL cL) (.slice aP nP cP) (I 0) (V:=V));refine GZ.all (rs:=[12]) (by kernel_rfl) (by simp) ?_;refine GZ.bl.cons rfl (fun K hK=>?_) GZ.bl.nil;go_simp;obtain⟨r1,r2⟩:=h5.out _ rfl;refine hK.out _ _ (fun _=>?_) ?_
       · have:=r2.keep (KB.o _ Dv.o) (show ¬w.heap.size=w.heap.size+1 by omega);exact⟨B.cell this 0 rfl,B.cell this 1 rfl⟩
       clear hK K
       try simp only[Act.put,List.setIfInBounds_toArray,List.set_cons_zero,List.set_cons_succ]
       refine GZ.all (rs:=[13]) (by kernel_rfl) (by simp) ?_;refine GZ.bl.cons rfl (fun K hK=>?_) GZ.bl.nil;go_simp;refine hK.out _ _ (fun g=>absurd rfl g) ?_;refine GZ.done (by kernel_rfl) ?_ _;go_wp2;obtain⟨y0,y1,y2,y3,y4⟩:=B.c5 r1;refine bodyPost_ret (v:=.tuple #[.agg #[.slice aS nS cS,.slice aF nF cF,.slice aL nL cL,.slice aP nP cP,I 0],I 0]) (by simp[results,Tryz.results18,go_sem,y0,y1,y2,y3,y4]) rfl ?_;exact kY.o _ r2
   · go_simp;refine hK.out _ _ (fun _=>?_) ?_
     · exact eQ.o _ (gG.o.alloc gG.o.size _)
     clear hK K;have kr:=ai (gG.o.alloc gG.o.size (.cells #[.bool true,.slice aa l.length ca,Nl] 43));have BP:=ai (B.new V0 #[.bool true,.slice aa l.length ca,Nl] 43);obtain⟨V1,hV1⟩:=ex (V0.alloc (.cells #[.bool true,.slice aa l.length ca,Nl] 43));obtain⟨bP,JS⟩:=ex V0.heap.size;rw[<- hV1] at kr BP ⊢;rw[<- JS] at BP ⊢;clear hV1 JS
     try simp only[Act.put,List.setIfInBounds_toArray,List.set_cons_zero,List.set_cons_succ]
     refine GZ.all (rs:=[3,5]) (by kernel_rfl) (by simp) ?_;refine GZ.bl.cons rfl (fun K hK=>?_) (GZ.bl.cons rfl (fun K hK=>?_) GZ.bl.nil)
     · go_simp;refine hK.out _ _ (fun _=>?_) ?_
       · exact eQ.o _ (kr.o.alloc kr.o.size _)
       clear hK K;have iM:=ai (kr.o.alloc kr.o.size (.cells (zf NF) 40));have BP:=ai (B.alloc BP.o (.cells (zf NF) 40));have BF:=ai (B.new V1 (zf NF) 40);obtain⟨V2,hV2⟩:=ex (V1.alloc (.cells (zf NF) 40));obtain⟨bF,JT⟩:=ex V1.heap.size;rw[<- hV2] at iM BP BF ⊢;rw[<- JT] at BF ⊢;clear hV2 JT
       try simp only[Act.put,List.setIfInBounds_toArray,List.set_cons_zero,List.set_cons_succ]
       refine GZ.all (rs:=[5]) (by kernel_rfl) (by simp) ?_;refine GZ.bl.cons rfl (fun K hK=>?_) GZ.bl.nil;go_simp;refine hK.out _ _ (fun _=>?_) ?_
       · exact eQ.o _ (iM.o.alloc iM.o.size _)
       clear hK K;have ky:=ai (iM.o.alloc iM.o.size (.cells (zl NS) 86));have BP:=ai (B.alloc BP.o (.cells (zl NS) 86));have BF:=ai (B.alloc BF.o (.cells (zl NS) 86));have BL:=ai (B.new V2 (zl NS) 86);obtain⟨V3,Fg⟩:=ex (V2.alloc (.cells (zl NS) 86));obtain⟨bL,hbL⟩:=ex V2.heap.size;rw[<- Fg] at ky BP BF BL ⊢;rw[<- hbL] at BL ⊢;clear Fg hbL
       try simp only[Act.put,List.setIfInBounds_toArray,List.set_cons_zero,List.set_cons_succ]
       refine GZ.tk 10 (eQ.o _ ky.o) ?_ ?_ ?_;rotate_left 1
       · intro V h;obtain⟨k0,k1⟩:=h;go_simp
         try with_reducible rfl
       refine GZ.all (rs:=[11]) (by kernel_rfl) (by simp) ?_;refine GZ.bl.cons rfl (fun K hK=>?_) GZ.bl.nil;rw[if_pos (by rfl)];go_simp;go_at_call 55;refine(I7.o _ _ _ _ ky.o BF.o BL.o BP.o).mono ?_;rintro e w6 ⟨aS,nS,cS,aF,nF,cF,aL,nL,cL,aP,nP,cP,rfl,uw,BG,hfin⟩;have Dv:=ai uw;have R6:=ai BG;have kY:=ai hfin;clear uw BG hfin;try go_simp;refine hK.out _ _ (fun _=>?_) ?_
       · exact eQ.o _ Dv.o
       clear hK K
       try simp only[Act.put,List.setIfInBounds_toArray,List.set_cons_zero,List.set_cons_succ]
       obtain⟨y0,y1,y2,y3,y4⟩:=B.c5 R6.o;have f0:=B.free R6.o 0;have f1:=B.free R6.o 1;have f2:=B.free R6.o 2;have f3:=B.free R6.o 3;have f4:=B.free R6.o 4;have h5:=ai (fun V=>lI R6.o (.slice aS nS cS) (.slice aF nF cF) (.slice aL nL cL) (.slice aP nP cP) (I 0) (V:=V));refine GZ.all (rs:=[12]) (by kernel_rfl) (by simp) ?_;refine GZ.bl.cons rfl (fun K hK=>?_) GZ.bl.nil;go_simp;obtain⟨r1,r2⟩:=h5.out _ rfl;refine hK.out _ _ (fun _=>?_) ?_
       · have:=r2.keep (KB.o _ Dv.o) (show ¬w.heap.size=w.heap.size+1 by omega);exact⟨B.cell this 0 rfl,B.cell this 1 rfl⟩
       clear hK K
       try simp only[Act.put,List.setIfInBounds_toArray,List.set_cons_zero,List.set_cons_succ]
       refine GZ.all (rs:=[13]) (by kernel_rfl) (by simp) ?_;refine GZ.bl.cons rfl (fun K hK=>?_) GZ.bl.nil;go_simp;refine hK.out _ _ (fun g=>absurd rfl g) ?_;refine GZ.done (by kernel_rfl) ?_ _;go_wp2;obtain⟨y0,y1,y2,y3,y4⟩:=B.c5 r1;refine bodyPost_ret (v:=.tuple #[.agg #[.slice aS nS cS,.slice aF nF cF,.slice aL nL cL,.slice aP nP cP,I 0],I 0]) (by simp[results,Tryz.results18,go_sem,y0,y1,y2,y3,y4]) rfl ?_;exact kY.o _ r2
     · go_simp;refine hK.out _ _ (fun _=>?_) ?_
       · exact eQ.o _ (kr.o.alloc kr.o.size _)
       clear hK K;have iM:=ai (kr.o.alloc kr.o.size (.cells (zl NS) 86));have BP:=ai (B.alloc BP.o (.cells (zl NS) 86));have BL:=ai (B.new V1 (zl NS) 86);obtain⟨V2,hV2⟩:=ex (V1.alloc (.cells (zl NS) 86));obtain⟨bL,hbL⟩:=ex V1.heap.size;rw[<- hV2] at iM BP BL ⊢;rw[<- hbL] at BL ⊢;clear hV2 hbL
       try simp only[Act.put,List.setIfInBounds_toArray,List.set_cons_zero,List.set_cons_succ]
       refine GZ.all (rs:=[3]) (by kernel_rfl) (by simp) ?_;refine GZ.bl.cons rfl (fun K hK=>?_) GZ.bl.nil;go_simp;refine hK.out _ _ (fun _=>?_) ?_
       · exact eQ.o _ (iM.o.alloc iM.o.size _)
       clear hK K;have ky:=ai (iM.o.alloc iM.o.size (.cells (zf NF) 40));have BP:=ai (B.alloc BP.o (.cells (zf NF) 40));have BL:=ai (B.alloc BL.o (.cells (zf NF) 40));have BF:=ai (B.new V2 (zf NF) 40);obtain⟨V3,Fg⟩:=ex (V2.alloc (.cells (zf NF) 40));obtain⟨bF,JT⟩:=ex V2.heap.size;rw[<- Fg] at ky BP BL BF ⊢;rw[<- JT] at BF ⊢;clear Fg JT
       try simp only[Act.put,List.setIfInBounds_toArray,List.set_cons_zero,List.set_cons_succ]
       refine GZ.tk 10 (eQ.o _ ky.o) ?_ ?_ ?_;rotate_left 1
       · intro V h;obtain⟨k0,k1⟩:=h;go_simp
         try with_reducible rfl
       refine GZ.all (rs:=[11]) (by kernel_rfl) (by simp) ?_;refine GZ.bl.cons rfl (fun K hK=>?_) GZ.bl.nil;rw[if_pos (by rfl)];go_simp;go_at_call 55;refine(I7.o _ _ _ _ ky.o BF.o BL.o BP.o).mono ?_;rintro e w6 ⟨aS,nS,cS,aF,nF,cF,aL,nL,cL,aP,nP,cP,rfl,uw,BG,hfin⟩;have Dv:=ai uw;have R6:=ai BG;have kY:=ai hfin;clear uw BG hfin;try go_simp;refine hK.out _ _ (fun _=>?_) ?_
       · exact eQ.o _ Dv.o
       clear hK K
       try simp only[Act.put,List.setIfInBounds_toArray,List.set_cons_zero,List.set_cons_succ]
       obtain⟨y0,y1,y2,y3,y4⟩:=B.c5 R6.o;have f0:=B.free R6.o 0;have f1:=B.free R6.o 1;have f2:=B.free R6.o 2;have f3:=B.free R6.o 3;have f4:=B.free R6.o 4;have h5:=ai (fun V=>lI R6.o (.slice aS nS cS) (.slice aF nF cF) (.slice aL nL cL) (.slice aP nP cP) (I 0) (V:=V));refine GZ.all (rs:=[12]) (by kernel_rfl) (by simp) ?_;refine GZ.bl.cons rfl (fun K hK=>?_) GZ.bl.nil;go_simp;obtain⟨r1,r2⟩:=h5.out _ rfl;refine hK.out _ _ (fun _=>?_) ?_
       · have:=r2.keep (KB.o _ Dv.o) (show ¬w.heap.size=w.heap.size+1 by omega);exact⟨B.cell this 0 rfl,B.cell this 1 rfl⟩
       clear hK K
       try simp only[Act.put,List.setIfInBounds_toArray,List.set_cons_zero,List.set_cons_succ]
       refine GZ.all (rs:=[13]) (by kernel_rfl) (by simp) ?_;refine GZ.bl.cons rfl (fun K hK=>?_) GZ.bl.nil;go_simp;refine hK.out _ _ (fun g=>absurd rfl g) ?_;refine GZ.done (by kernel_rfl) ?_ _;go_wp2;obtain⟨y0,y1,y2,y3,y4⟩:=B.c5 r1;refine bodyPost_ret (v:=.tuple #[.agg #[.slice aS nS cS,.slice aF nF cF,.slice aL nL cL,.slice aP nP cP,I 0],I 0]) (by simp[results,Tryz.results18,go_sem,y0,y1,y2,y3,y4]) rfl ?_;exact kY.o _ r2
 · rw[if_pos c];obtain⟨C,hC⟩:=ex (LM.mU l hs en);rw[<- hC] at uB c ⊢;have cb:(C != 0)=true:=by simpa using c
   have bB:=ai (fun V (h:Below w.heap.size w V)=>vr.o V C h);obtain⟨P,hP⟩:=ex (b6 w gK [I C]);show Calls _ _ _ _ (b6 w gK [I C]);rw[<- hP] at bB ⊢;clear ha hf h Gk he hcap hb0 kb rb di hC c hP vr Xp;go_enter Tryz.func18,Tryz.ntmps18;go_upto_region 1 with fail;rw[<- eZ.o];go_upto_region 3 with(go_at_call 53;refine uB.o.mono ?_;rintro e w1 ⟨rfl,hb1⟩;have gw:=ai (bR.o.trans (hb1.mono bR.o.size));have R1:=ai (RB.o _ hb1);clear hb1)
   obtain⟨y0,y1,y2,y3,y4⟩:=B.c5 R1.o;have f0:=B.free R1.o 0;have f1:=B.free R1.o 1;have f2:=B.free R1.o 2;have f3:=B.free R1.o 3;have f4:=B.free R1.o 4;have h5:=ai (fun V=>lI R1.o Nl Nl Nl Nl (I 0) (V:=V));go_wp2;obtain⟨r1,r2⟩:=h5.out _ rfl;obtain⟨y0,y1,y2,y3,y4⟩:=B.c5 r1;refine bodyPost_ret (v:=.tuple #[.agg #[Nl,Nl,Nl,Nl,I 0],I C]) (by simp[results,Tryz.results18,go_sem,y0,y1,y2,y3,y4]) rfl ?_;exact bB.o _ (Kp.below gw.o r2 gw.o.size (fun b e=>by omega))
end KZ
namespace AW
open Go.RowKit
theorem G6 (l:List AM.Ar) (b off cap:Nat) (w:World) (hl:AM.Cs w b off l) (hc:AM.aW l=0) :
  Calls Tryz.prog 61 #[.slice (some (Ad b off)) l.length cap] w fun e w'=>e=.returned (I (AM.sumTo l l.length))/\Below w.heap.size w w':=by
 have hlen:=AM.gP l hc;have HK:Hid (AM.aW l=0):=hc;clear hc;go_enter Tryz.func61,Tryz.ntmps61;go_wp2;go_loopw [3,4] (fun s i wr=>∃k:Nat,k<=l.length/\i=I k/\s=I (AM.sumTo l k)/\Below w.heap.size w wr) (fun _ i _=>l.length-(intOf i).toNat)
 case atStart=>exact⟨0,by omega,rfl,rfl,Below.refl _ _⟩
 case round =>
  obtain⟨k,hk,rfl,rfl,hb⟩:=hrel;have DK:=AM.tv l HK.o k hk;by_cases hlt:k<l.length
  · obtain⟨c0,c1,c2,c3⟩:=(hl.below hb) k hlt;have hsu:Hid (AM.sumTo l (k+1)=AM.sumTo l k+(AM.at_ l k).aJ):=rfl;have hbk:=AM.dg l k (AM.cW l HK.o k hlt);obtain⟨a,ha⟩:=ex (AM.at_ l k);rw[<- ha] at c0 c1 c2 c3 hsu hbk;clear ha;go_wp2;go_roundw
    case rel=>exact⟨k+1,by omega,by go_num,by rw[hsu.out],hb⟩
    case measure=>simp[intOf];omega
  · obtain rfl:k=l.length:=by omega
    go_wp2;go_ret;exact⟨rfl,hb⟩
theorem Ld (ao:Option Addr) (cap:Nat) (w:World) :
  Calls Tryz.prog 61 #[.slice ao 0 cap] w fun e w'=>e=.returned (I 0)/\Below w.heap.size w w':=by
 go_enter Tryz.func61,Tryz.ntmps61;go_wp2;refine wp_loop_rounds 1 ?_;rw[rounds_succ];go_wp2;go_ret;exact⟨rfl,Below.refl _ _⟩
theorem oC (l:List AM.Ar) (v:Value) (w:World) (h:Has w v l) (hc:AM.aW l=0) :
  Calls Tryz.prog 61 #[v] w fun e w'=>e=.returned (I (AM.b7 l))/\Below w.heap.size w w':=by
 have e:AM.b7 l=AM.sumTo l l.length:=by simp[AM.b7,hc]
 rw[e];obtain⟨ao,cap,rfl,h⟩:=h;rcases h with rfl | ⟨b,off,rfl,hl⟩
 · exact Ld ao cap w
 · exact G6 l b off cap w hl hc
theorem FN (l:List AM.Ar) (b off cap:Nat) (p:Int) (w:World) (hl:AM.Cs w b off l) (hc:AM.aW l=0) :
  Calls Tryz.prog 31 #[.slice (some (Ad b off)) l.length cap,I p] w fun e w'=>e=.returned (.tuple #[.agg (cellsOf (AM.aR l p).1),.bool (AM.aR l p).2])/\Below w.heap.size w w':=by
 have hbz:Below w.heap.size w (w.alloc (.cells #[I 0,I 0,I 0,.bool false] 47)):=(Below.refl _ _).alloc (Nat.le_refl _) _;have hlen:=AM.gP l hc;have HC:Hid (AM.aR l p=AM.aU l p):=by show _=_;simp[AM.aR,hc]
 have HK:Hid (AM.aW l=0):=hc;clear hc;go_enter Tryz.func31,Tryz.ntmps31;go_wp2;go_loopw [6] (fun i wr=>∃k:Nat,k<=l.length/\i=I k/\(∀j,j<k->AM.hit (AM.at_ l j) p=false)/\Below (w.heap.size+1) (w.alloc (.cells #[I 0,I 0,I 0,.bool false] 47)) wr) (fun i _=>l.length-(intOf i).toNat)
 case atStart=>exact⟨0,by omega,rfl,fun j hj=>by omega,Below.refl _ _⟩
 case round =>
  obtain⟨k,hk,rfl,hno,hb⟩:=hrel;have HN:Hid (∀j,j<k->AM.hit (AM.at_ l j) p=false):=hno;have ek:Hid (Below w.heap.size w wr):=hbz.trans (hb.mono (Nat.le_succ _));have hsz:w.heap.size+1<=wr.heap.size:=by have:=hb.size;simpa using this
  have hlr:=hl.below ek.out;have hR:wr.heap[w.heap.size]?=some (.cells #[I 0,I 0,I 0,.bool false] 47 (0,0)):=B.below (B.new w _ _) hb (Nat.lt_succ_self _);have HB:Hid (Below (w.heap.size+1) (w.alloc (.cells #[I 0,I 0,I 0,.bool false] 47)) wr):=hb;have t0:=B.cell hR 0 rfl;have t1:=B.cell hR 1 rfl;have t2:=B.cell hR 2 rfl;have t3:=B.cell hR 3 rfl;have u0:=B.free hR;clear hno hR hb;by_cases hlt:k<l.length
  · obtain⟨c0,c1,c2,c3⟩:=hlr k hlt;have hbk:=AM.dg l k (AM.cW l HK.o k hlt);obtain⟨a,ha⟩:=ex (AM.at_ l k);rw[<- ha] at c0 c1 c2 c3 hbk;have HA:Hid (a=AM.at_ l k):=ha;clear ha;have wj:(k:Int)<(l.length:Int):=by omega
    by_cases h1:a.page<=p
    · by_cases h2:p<a.page+a.aJ
      · have hres:Hid (AM.aR l p=(a,true)):=by
         show _=_;rw[HC.o,AM.jL l p k hlt HN.o (by rw[<- HA.o];simp[AM.hit,AM.Ar.eG,h1,h2]),<- HA.o]
        go_wp2
        go_quiet (fail)
        go_wp2;have DK:=Go.below_drewN ek.out nq;exact bodyPost_ret (v:=.tuple #[.agg #[I a.page,I a.aJ,I a.bV,.bool a.zero],.bool true]) (by simp[results,Tryz.results31,go_sem,t0,t1,t2,t3]) rfl ⟨by rw[hres.out];rfl,(((DK.setCell (Nat.le_refl _) _).setCell (Nat.le_refl _) _).setCell (Nat.le_refl _) _).setCell (Nat.le_refl _) _⟩
      · have pD:Hid (AM.hit (AM.at_ l k) p=false):=by show _=_;rw[<- HA.o];unfold AM.hit AM.Ar.eG;exact decide_eq_false (by omega)
        have d2:decide (p<a.page+a.aJ)=false:=decide_eq_false h2;go_wp2
        go_quiet (fail)
        go_wp2;go_roundw
        case rel=>exact⟨k+1,by omega,by go_num,fun j hj=>if e:j=k then by rw[e];exact pD.out else HN.o j (by omega),Go.below_drewN HB.o _⟩
        case measure=>simp[intOf];omega
    · have pD:Hid (AM.hit (AM.at_ l k) p=false):=by show _=_;rw[<- HA.o];unfold AM.hit AM.Ar.eG;exact decide_eq_false (by omega)
      have d1:decide (a.page<=p)=false:=decide_eq_false h1;go_wp2
      go_quiet (fail)
      go_wp2;go_roundw
      case rel=>exact⟨k+1,by omega,by go_num,fun j hj=>if e:j=k then by rw[e];exact pD.out else HN.o j (by omega),Go.below_drewN HB.o _⟩
      case measure=>simp[intOf];omega
  · obtain rfl:k=l.length:=by omega
    have hres:Hid (AM.aR l p=(AM.nil,false)):=by show _=_;rw[HC.o,AM.jo l p HN.o]
    go_wp2;exact bodyPost_ret (v:=.tuple #[.agg #[I 0,I 0,I 0,.bool false],.bool false]) (by simp[results,Tryz.results31,go_sem,t0,t1,t2,t3]) rfl ⟨by rw[hres.out];rfl,(((ek.out.setCell (Nat.le_refl _) _).setCell (Nat.le_refl _) _).setCell (Nat.le_refl _) _).setCell (Nat.le_refl _) _⟩
theorem I0 (ao:Option Addr) (cap:Nat) (p:Int) (w:World) :
  Calls Tryz.prog 31 #[.slice ao 0 cap,I p] w fun e w'=>e=.returned (.tuple #[.agg (cellsOf (AM.aR [] p).1),.bool (AM.aR [] p).2])/\Below w.heap.size w w':=by
 have hbz:Below w.heap.size w (w.alloc (.cells #[I 0,I 0,I 0,.bool false] 47)):=(Below.refl _ _).alloc (Nat.le_refl _) _;go_enter Tryz.func31,Tryz.ntmps31;go_wp2;refine wp_loop_rounds 1 ?_;rw[rounds_succ];go_wp2;exact bodyPost_ret (v:=.tuple #[.agg #[I 0,I 0,I 0,.bool false],.bool false]) (by simp[results,Tryz.results31,go_sem]) rfl ⟨rfl,hbz⟩
theorem zV (l:List AM.Ar) (v:Value) (p:Int) (w:World) (h:Has w v l) (hc:AM.aW l=0) :
  Calls Tryz.prog 31 #[v,I p] w fun e w'=>e=.returned (.tuple #[.agg (cellsOf (AM.aR l p).1),.bool (AM.aR l p).2])/\Below w.heap.size w w':=by
 obtain⟨ao,cap,rfl,h⟩:=h;rcases h with rfl | ⟨b,off,rfl,hl⟩
 · exact I0 ao cap p w
 · exact FN l b off cap p w hl hc
end AW
end Go.Proofs.YtpgifpeohlllfaaGreat
