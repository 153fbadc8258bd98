import Derived.Test.YtlgoihmkgaaemaaGreatGQ27
set_option maxHeartbeats 20000000
set_option linter.unusedVariables false
set_option maxRecDepth 100000
set_option linter.unusedSimpArgs false
namespace Go.Proofs.YtlgoihmkgaaemaaGreat
open Go.RowKit Tryz
theorem BJ (V:World) (A:Obj) (c:Array Value) (t:TypeId):((V.alloc A).alloc (.cells c t)).heap[V.heap.size+1]?=some (.cells c t (0,0)):=by
 grind [bH,World.size_alloc]
theorem ahx (C4:uj) (l:List aX) (hs:List bC) (en nf ns:Int) (va:Value) (ao:Option Addr) (cap:Nat) (w:World) (ha:gD w va l) (hf:dQ l) (h:kq w ao hs) (Lp:uh hs) (hcap:hs.length<=cap) (he:cH en) :
  Calls prog 30 #[.agg #[va,.slice ao hs.length cap,I en],I nf,I ns] w (fL w (px l hs en nf ns).1 [I (px l hs en nf ns).2]):=by
 obtain⟨aa,ca,Ie,_⟩:=id ha;subst Ie;obtain⟨WA,pU⟩:=ex ((w.alloc (.cells #[.slice aa l.length ca,.slice ao hs.length cap,I en] 25)).alloc (.cells #[Nl,Nl,Nl,Nl,I 0] 30));have q:Below w.heap.size w WA:=by simp_all [aN,sI]
 have kb:WA.heap[w.heap.size]?=some (.cells #[.slice aa l.length ca,.slice ao hs.length cap,I en] 25 (0,0)):=by grind [bu,bH]
 have rb:WA.heap[w.heap.size+1]?=some (.cells #[Nl,Nl,Nl,Nl,I 0] 30 (0,0)):=by grind [BJ]
 have RB:Hid (∀V,Below WA.heap.size WA V->V.heap[w.heap.size+1]?=some (.cells #[Nl,Nl,Nl,Nl,I 0] 30 (0,0))):=λV hb=>aU rb hb (aQ rb)
 have KB:Hid (∀V,Below WA.heap.size WA V->V.heap[w.heap.size]?=some (.cells #[.slice aa l.length ca,.slice ao hs.length cap,I en] 25 (0,0))):=λV hb=>aU kb hb (aQ kb)
 have k0:WA.cell? (Ad w.heap.size 0)=some (.slice aa l.length ca):=aA kb 0 rfl;have k1:WA.cell? (Ad w.heap.size 1)=some (.slice ao hs.length cap):=aA kb 1 rfl;have k2:WA.cell? (Ad w.heap.size 2)=some (I en):=aA kb 2 rfl;have Au:=ai pU;have fU:=ai q;have a2:=aQ rb;have ym:=ai (Oe l hs en (.slice aa l.length ca) ao cap WA (ha.below q) hf (h.below q) Lp hcap he);have G:Hid (∀V,Below WA.heap.size WA V->Calls prog 70 #[.slice aa l.length ca] V λe w'=>e=.returned (I (bf l))/\Below V.heap.size V w'):=λV hV=>rW l _ V (ha.below (q.trans (hV.mono q.size))) hf
 have Xy:Hid (∀(V:World) (C:Int),Below w.heap.size w V->fL w kg [I C] (.returned (.tuple #[.agg #[Nl,Nl,Nl,Nl,I 0],I C])) V):=λV C hV=>yg _ hV
 rcases(show(px l hs en nf ns=(pj l hs nf ns,0)/\gU l hs en=0/\¬nf<3/\¬64<nf/\¬ns<0/\¬512<ns/\¬ns<bf l)\/∃C,px l hs en nf ns=(kg,C)/\((gU l hs en=C/\(C != 0)=true)\/(gU l hs en=0/\((nf<3/\C=9)\/(¬nf<3/\((64<nf/\C=3)\/(¬64<nf/\((ns<0/\C=3)\/(¬ns<0/\((512<ns/\C=3)\/(¬512<ns/\ns<bf l/\C=8)))))))))) by unfold px;grind) with⟨e0,c,c3,g1,g2,g3,c2⟩ | ⟨C,e0,hc⟩
 . rw[e0];have F:Hid (∀(W:World) fb sb pb,Below WA.heap.size WA W->W.heap[fb]?=some (.cells (VH nf.toNat) 169 (0,0))->W.heap[sb]?=some (.cells (VG ns.toNat) 171 (0,0))->W.heap[pb]?=some (.cells #[.bool true,.slice aa l.length ca,Nl] 99 (0,0))->Calls prog 79 #[.agg #[.slice ao hs.length cap,.slice (some (Ad fb 0)) nf.toNat nf.toNat,.slice (some (Ad sb 0)) ns.toNat ns.toNat,.slice (some (Ad pb 0)) 1 1,I 0]] W λe w'=>∃aS nS cS aF nF cF aL nL cL aP nP cP,e=.returned (.agg #[.slice aS nS cS,.slice aF nF cF,.slice aL nL cL,.slice aP nP cP,I 0])/\Below WA.heap.size WA w'/\w'.heap[w.heap.size+1]?=some (.cells #[Nl,Nl,Nl,Nl,I 0] 30 (0,0))/\∀U,aH (λb=>b=w.heap.size+1) w' U->fL w (pj l hs nf ns) [I 0] (.returned (.tuple #[.agg #[.slice aS nS cS,.slice aF nF cF,.slice aL nL cL,.slice aP nP cP,I 0],I 0])) U):=λW fb sb pb hW g1 g2 g3=>by
    have zE:Below w.heap.size w W:=q.trans (hW.mono q.size);have hk:=ahA (cap:=cap) (ha.below zE) (h.below zE) g1 g2 g3;have O:=C4 _ _ W hk (abG c nf.toNat ns.toNat ω ω);unfold br at O;simp only[xu,D9] at O;refine O.mono λe w' ⟨S,hs',hsame,e1,hr,hb⟩=>?_
    obtain⟨aS,nS,cS,eS⟩:∃b n d,S.vS=.slice b n d:=by obtain⟨b,d,e,_⟩:=aZ hr.aR;exact⟨b,_,d,e⟩
    obtain⟨aF,nF,cF,eF⟩:∃b n d,S.vF=.slice b n d:=by obtain⟨b,d,e,_⟩:=aZ hr.frames;exact⟨b,_,d,e⟩
    obtain⟨aL,nL,cL,eL⟩:∃b n d,S.vL=.slice b n d:=by obtain⟨b,d,e,_⟩:=aZ hr.slots;exact⟨b,_,d,e⟩
    obtain⟨aP,nP,cP,eP⟩:∃b n d,S.vP=.slice b n d:=by obtain⟨b,d,e,_⟩:=aZ hr.aj;exact⟨b,_,d,e⟩
    rw[eS,eF,eL,eP] at e1;have R:Below WA.heap.size WA w':=hW.trans (hb.mono hW.size);have Z:Below w.heap.size w w':=q.trans (R.mono q.size);have a1:=hW.size;refine⟨aS,nS,cS,aF,nF,cF,aL,nL,cL,aP,nP,cP,e1,R,RB.o _ R,λU hU=>⟨S,hs',hsame,by rw[eS,eF,eL,eP];rfl,(hr.kp hU (λb hb e=>by have:=(hr.CT b hb).1;omega)).mono zE.size,aH.below Z hU Z.size (λb e=>ω)⟩⟩
   have e2:=λV:World=>aq8 V nf ω ω
   have e3:=λV:World=>aq7 V ns ω ω
   have Q:=rA l;rw[c] at ym;generalize bf l=T1 at G Q c2;generalize hP:fL w (pj l hs nf ns) [I 0]=P at F;generalize nf.toNat=NF at F e2;generalize ns.toNat=NS at F e3;clear hP Xy ha hf h Lp he hcap q kb rb pU e0 c;go_enter func30,ntmps30;go_upto_region 1 with fail;rw[<- Au.o];go_upto_region 10 with(first
    | (go_at_call 69;refine ym.o.mono ?_;rintro e w1 ⟨rfl,A⟩;have cD:=ai A;obtain⟨j0,j1,j2⟩:=zn (KB.o _ A);clear A)
    | (go_at_call 70;refine(G.o _ cD.o).mono ?_;rintro e w2 ⟨rfl,B⟩;have iJ:=ai (cD.o.trans (B.mono cD.o.size));clear B))
   clear j0 j1 j2 ym G;have E7:Hid (∀V,Below WA.heap.size WA V->V.cell? (Ad w.heap.size 0)=some (.slice aa l.length ca)/\V.cell? (Ad w.heap.size 1)=some (.slice ao hs.length cap)):=λV hV=>⟨aA (KB.o _ hV) 0 rfl,aA (KB.o _ hV) 1 rfl⟩
   refine zT (S:=λV=>V.cell? (Ad w.heap.size 0)=some (.slice aa l.length ca)/\V.cell? (Ad w.heap.size 1)=some (.slice ao hs.length cap)) (z:=13) κ ?_;have pK:=ai (iJ.o.drew);generalize w2.drew=V0 at pK;have K0:=E7.o _ pK.o;refine rN 0 K0 ?_;refine rN 1 K0 ?_;refine rN 2 K0 ?_;refine rN 4 K0 ?_;refine rN 6 K0 ?_;refine rN 7 K0 ?_;refine rN 8 K0 ?_;clear K0;have NB:∀V,Below WA.heap.size WA V->∀(c:Array Value) (t:TypeId),∃V1 b,V.alloc (.cells c t)=V1/\V.heap.size=b/\Below WA.heap.size WA V1/\V1.heap[b]?=some (.cells c t (0,0))/\∀{i:Nat} {c':Array Value} {t':TypeId},V.heap[i]?=some (.cells c' t' (0,0))->V1.heap[i]?=some (.cells c' t' (0,0)):=λV hV c t=>⟨_,_,rfl,rfl,hV.alloc hV.size _,bH V c t,λh=>bu h _⟩
   apply ak9 (H:=λ(V:World) (bF bL bP:Nat)=>Below WA.heap.size WA V/\V.heap[bF]?=some (.cells (VH NF) 169 (0,0))/\V.heap[bL]?=some (.cells (VG NS) 171 (0,0))/\V.heap[bP]?=some (.cells #[.bool true,.slice aa l.length ca,Nl] 99 (0,0)))
   . intro J;refine oQ (rs:=[3,5,9]) κ ξ ?_;refine dW.cons rfl (λK hK=>?_) (dW.cons rfl (λK hK=>?_) (dW.cons rfl (λK hK=>?_) dW.nil))
     all_goals
      go_simp
      first | (obtain⟨V1,b1,hV,hb,H1,N1,K1⟩:=NB V0 pK.o (VH NF) 169;rw[hV,hb]) | (obtain⟨V1,b1,hV,hb,H1,N1,K1⟩:=NB V0 pK.o (VG NS) 171;rw[hV,hb]) | (obtain⟨V1,b1,hV,hb,H1,N1,K1⟩:=NB V0 pK.o #[.bool true,.slice aa l.length ca,Nl] 99;rw[hV,hb])
      refine hK.out _ _ (λ_=>E7.o _ H1) ?_;clear hK K hV hb
      try simp only[Act.put,uI,sK,q9]
      first | refine oQ (rs:=[5,9]) (by decide +kernel) ξ ?_ | refine oQ (rs:=[3,9]) (by decide +kernel) ξ ?_ | refine oQ (rs:=[3,5]) (by decide +kernel) ξ ?_
      refine dW.cons rfl (λK hK=>?_) (dW.cons rfl (λK hK=>?_) dW.nil)
      all_goals
       go_simp
       first | (obtain⟨V2,b2,hV,hb,H2,N2,K2⟩:=NB V1 H1 (VH NF) 169;rw[hV,hb]) | (obtain⟨V2,b2,hV,hb,H2,N2,K2⟩:=NB V1 H1 (VG NS) 171;rw[hV,hb]) | (obtain⟨V2,b2,hV,hb,H2,N2,K2⟩:=NB V1 H1 #[.bool true,.slice aa l.length ca,Nl] 99;rw[hV,hb])
       refine hK.out _ _ (λ_=>E7.o _ H2) ?_;clear hK K hV hb
       try simp only[Act.put,uI,sK,q9]
       first | refine oQ (rs:=[9]) (by decide +kernel) ξ ?_ | refine oQ (rs:=[5]) (by decide +kernel) ξ ?_ | refine oQ (rs:=[3]) (by decide +kernel) ξ ?_
       refine dW.cons rfl (λK hK=>?_) dW.nil;go_simp
       first | (obtain⟨V3,b3,hV,hb,H3,N3,K3⟩:=NB V2 H2 (VH NF) 169;rw[hV,hb]) | (obtain⟨V3,b3,hV,hb,H3,N3,K3⟩:=NB V2 H2 (VG NS) 171;rw[hV,hb]) | (obtain⟨V3,b3,hV,hb,H3,N3,K3⟩:=NB V2 H2 #[.bool true,.slice aa l.length ca,Nl] 99;rw[hV,hb])
       refine hK.out _ _ (λ_=>E7.o _ H3) ?_;clear hK K hV hb
       try simp only[Act.put,uI,sK,q9]
       have N1:=K3 (K2 N1);have N2:=K3 N2
       first | exact J V3 b1 b2 b3 ⟨H3,N1,N2,N3⟩ | exact J V3 _ _ _ ⟨H3,by assumption,by assumption,by assumption⟩
   clear pK NB;rintro V3 bF bL bP ⟨M,BF,BL,BP⟩;have Gh:=ai M;have a0:=ai (F.o _ _ _ _ M BF BL BP);clear M BF BL BP F;refine rN 10 (E7.o _ Gh.o) ?_;refine oQ (rs:=[11]) κ ξ ?_;refine dW.cons rfl (λK hK=>?_) dW.nil;rw[aC ρ];go_simp;go_at_call 79;refine a0.o.mono ?_;rintro e w6 ⟨aS,nS,cS,aF,nF,cF,aL,nL,cL,aP,nP,cP,rfl,Y,X,L⟩;have T:=ai Y;have R6:=ai X;have Aw:=ai L;clear Y X L;try go_simp;refine hK.out _ _ (λ_=>E7.o _ T.o) ?_;clear hK K
   try simp only[Act.put,uI,sK,q9]
   have y:=o5 R6.o;have f:=bG R6.o;have h5:=ai (λV=>KS R6.o (.slice aS nS cS) (.slice aF nF cF) (.slice aL nL cL) (.slice aP nP cP) (I 0) (V:=V));refine oQ (rs:=[12]) κ ξ ?_;refine dW.cons rfl (λK hK=>?_) dW.nil;go_simp;obtain⟨r1,r2⟩:=h5.out _ rfl;refine hK.out _ _ (λ_=>?_) ?_
   . have:=r2.keep (KB.o _ T.o) (ω:¬w.heap.size=w.heap.size+1);exact⟨aA this 0 rfl,aA this 1 rfl⟩
   clear hK K
   try simp only[Act.put,uI,sK,q9]
   refine oQ (rs:=[13]) κ ξ ?_;refine dW.cons rfl (λK hK=>?_) dW.nil;go_simp;refine hK.out _ _ (λg=>absurd rfl g) ?_;refine Ho κ ?_ _;go_wp2;obtain⟨y0,y1,y2,y3,y4⟩:=o5 r1;refine b9 (v:=.tuple #[.agg #[.slice aS nS cS,.slice aF nF cF,.slice aL nL cL,.slice aP nP cP,I 0],I 0]) (by simp[results,results30,go_sem,y0,y1,y2,y3,y4]) rfl ?_;exact Aw.o _ r2
 rw[e0];have fV:=ai (λV (h:Below w.heap.size w V)=>Xy.o V C h);generalize hP:fL w kg [I C]=P at fV;have Q:=rA l;generalize bf l=T1 at G Q hc;generalize gU l hs en=E at ym hc;clear hP Xy ha hf h Lp he hcap q kb rb pU e0;rcases hc with⟨rfl,c2⟩ | ⟨rfl,⟨c2,rfl⟩ | ⟨c2,⟨c3,rfl⟩ | ⟨c3,⟨c4,rfl⟩ | ⟨c4,⟨c5,rfl⟩ | ⟨c5,c6,rfl⟩⟩⟩⟩⟩
 all_goals
  go_enter func30,ntmps30;go_upto_region 1 with fail;rw[<- Au.o];go_wp2_with (first
   | (go_at_call 69;refine ym.o.mono ?_;rintro e w1 ⟨rfl,A⟩;have cD:=ai A;obtain⟨j0,j1,j2⟩:=zn (KB.o _ A);have Cc:=ai (fU.o.trans (A.mono fU.o.size));have R1:=ai (RB.o _ A);clear A;have y:=o5 R1.o;have f:=bG R1.o;have h5:=ai (λV=>KS R1.o Nl Nl Nl Nl (I 0) (V:=V)))
   | (go_at_call 70;refine(G.o _ cD.o).mono ?_;rintro e w2 ⟨rfl,B⟩;have N:=cD.o.trans (B.mono cD.o.size);have Cc:=ai (fU.o.trans (N.mono fU.o.size));have R1:=ai (RB.o _ N);clear B N;have y:=o5 R1.o;have f:=bG R1.o;have h5:=ai (λV=>KS R1.o Nl Nl Nl Nl (I 0) (V:=V))))
  obtain⟨r1,r2⟩:=h5.out _ rfl;obtain⟨y0,y1,y2,y3,y4⟩:=o5 r1;refine b9 (v:=.tuple #[.agg #[Nl,Nl,Nl,Nl,I 0],I _]) (by simp[results,results30,go_sem,y0,y1,y2,y3,y4];rfl) rfl ?_;exact fV.o _ (aH.below Cc.o r2 Cc.o.size (λb e=>ω))
open Go.RowKit
theorem Z0 {w WA W1:World} {K:aT} {vs:List Value} {e:Ending} {rb:Nat} (h:fL WA K vs e W1) (hb0:Below w.heap.size w WA) (hr:w.heap.size<=rb/\rb<WA.heap.size):∃s1 BJ q1 s2 n2 q2 s3 n3 q3 s4 n4 q4 hd,e=.returned (.tuple (Value.agg #[.slice s1 BJ q1,.slice s2 n2 q2,.slice s3 n3 q3,.slice s4 n4 q4,I hd]::vs).toArray)/\Below WA.heap.size WA W1/\∀U,aH (λb=>b=rb) W1 U->fL w K vs (.returned (.tuple (Value.agg #[.slice s1 BJ q1,.slice s2 n2 q2,.slice s3 n3 q3,.slice s4 n4 q4,I hd]::vs).toArray)) U:=by
 obtain⟨S,hs,h1,h2,h3,h4⟩:=h;obtain⟨aS,nS,cS,eS⟩:∃b n d,S.vS=.slice b n d:=by obtain⟨b,d,e,_⟩:=aZ h3.aR;grind
 obtain⟨aF,nF,cF,eF⟩:∃b n d,S.vF=.slice b n d:=by obtain⟨b,d,e,_⟩:=aZ h3.frames;grind
 obtain⟨aL,nL,cL,eL⟩:∃b n d,S.vL=.slice b n d:=by obtain⟨b,d,e,_⟩:=aZ h3.slots;grind
 obtain⟨aP,nP,cP,eP⟩:∃b n d,S.vP=.slice b n d:=by obtain⟨b,d,e,_⟩:=aZ h3.aj;grind
 rw[eS,eF,eL,eP] at h2;have zE:Below w.heap.size w W1:=hb0.trans (h4.mono hb0.size);refine⟨aS,nS,cS,aF,nF,cF,aL,nL,cL,aP,nP,cP,_,h2,h4,λU hU=>⟨S,hs,h1,Γ,(h3.kp hU (λb hb e=>by have:=(h3.CT b hb).1;omega)).mono hb0.size,aH.below zE hU zE.size (λb e=>ω)⟩⟩
theorem Z1 (N:List aX->Int->Int->Int->List aX×Int) (F F1:FuncId) (hN:(F=263/\F1=275/\N=dZ)\/(F=264/\F1=276/\N=cu)) (C4:uj) (k:aT) (a:jC) (sp pg n q:Int) (w:World) (hK:ju w a k) (hF:pY k) (hsp:cH sp) (Gt:cH pg) (hn:cH n) :
  Calls prog F #[.agg (br a k),I sp,I pg,I n,I q] w (fL w (kF k sp (N (ak k.aj sp.toNat).aJ pg n q)).1 [I (kF k sp (N (ak k.aj sp.toNat).aJ pg n q)).2]):=by
 obtain⟨WA,pU⟩:=ex (((((w.alloc (.cells (br a k) 30)).alloc (.cells #[I pg] 3)).alloc (.cells #[I n] 3)).alloc (.cells #[I q] 3)).alloc (.cells #[Nl,Nl,Nl,Nl,I 0] 30));have A:Below w.heap.size w WA:=by rw[pU];exact(((((aN _ _).alloc (aK _) _).alloc (by simp_all) _).alloc (by grind [World.size_alloc]) _).alloc (by grind [World.size_alloc]) _).alloc (by grind [World.size_alloc]) _
 have kb:WA.heap[w.heap.size]?=some (.cells (br a k) 30 (0,0)):=by grind [bu,bH]
 have b0:WA.heap[w.heap.size+1]?=some (.cells #[I pg] 3 (0,0)):=by
  grind [bH,World.size_alloc,bu]
 have b1:WA.heap[w.heap.size+2]?=some (.cells #[I n] 3 (0,0)):=by
  grind [bH,World.size_alloc,bu]
 have b2:WA.heap[w.heap.size+3]?=some (.cells #[I q] 3 (0,0)):=by
  grind [bH,World.size_alloc,bu]
 have rb:WA.heap[w.heap.size+4]?=some (.cells #[Nl,Nl,Nl,Nl,I 0] 30 (0,0)):=by
  grind [bH,World.size_alloc]
 have M:=aQ rb;have RB:Hid (∀V,Below WA.heap.size WA V->V.heap[w.heap.size+4]?=some (.cells #[Nl,Nl,Nl,Nl,I 0] 30 (0,0))):=λV hb=>aU rb hb (aQ rb)
 obtain⟨k0,k1,k2,k3,k4⟩:=o5 (show WA.heap[w.heap.size]?=some (.cells #[.slice a.aS k.aR.length a.cS,.slice a.aF k.frames.length a.cF,.slice a.aL k.slots.length a.cL,.slice a.aP k.aj.length a.cP,I k.hand] 30 (0,0)) from kb);have Rl:dQ (N (ak k.aj sp.toNat).aJ pg n q).1:=by
  rcases hN with⟨_,_,rfl⟩ | ⟨_,_,rfl⟩
  . exact Xl _ pg n q
  exact Xk _ pg n q
 obtain⟨K,B⟩:=ex ((kF k sp (N (ak k.aj sp.toNat).aJ pg n q)).1);obtain⟨er,G⟩:=ex ((kF k sp (N (ak k.aj sp.toNat).aJ pg n q)).2);rw[<- B,<- G];have J:Hid (Calls prog 274 #[.agg (br a k),I sp,.func (.func F1) #[] #[.pointer (some (Ad (w.heap.size+1) 0)),.pointer (some (Ad (w.heap.size+2) 0)),.pointer (some (Ad (w.heap.size+3) 0))]] WA λe w'=>∃s1 BJ q1 s2 n2 q2 s3 n3 q3 s4 n4 q4 hd,e=.returned (.tuple #[.agg #[.slice s1 BJ q1,.slice s2 n2 q2,.slice s3 n3 q3,.slice s4 n4 q4,I hd],I er])/\Below WA.heap.size WA w'/\∀U,aH (λb=>b=w.heap.size+4) w' U->fL w K [I er] (.returned (.tuple #[.agg #[.slice s1 BJ q1,.slice s2 n2 q2,.slice s3 n3 q3,.slice s4 n4 q4,I hd],I er])) U):=by
  refine(RP C4 k a sp WA (hK.below A) hF hsp (N (ak k.aj sp.toNat).aJ pg n q) Rl F1 [.pointer (some (Ad (w.heap.size+1) 0)),.pointer (some (Ad (w.heap.size+2) 0)),.pointer (some (Ad (w.heap.size+3) 0))] (w.heap.size+1) (w.heap.size+2) (w.heap.size+3) (by rcases hN with⟨_,rfl,_⟩ | ⟨_,rfl,_⟩ <;> simp) (λV ao cap hV h1 h2=>?_)).mono λe w' h=>?_
  . have e0:=aA (aU b0 hV (aQ b0)) 0 rfl;have e1:=aA (aU b1 hV (aQ b1)) 0 rfl;have e2:=aA (aU b2 hV (aQ b2)) 0 rfl;rcases hN with⟨_,rfl,rfl⟩ | ⟨_,rfl,rfl⟩
    . exact aex _ ao _ cap pg n q _ _ _ V h1 h2 Gt hn e0 e1 e2
    exact Tf _ ao _ cap pg n q _ _ _ V h1 h2 Gt hn e0 e1 e2
  rw[<- B,<- G] at h;exact Z0 h A ⟨ω,M⟩
 have Au:=ai pU;generalize fL w K [I er]=P at J ⊢;unfold br at J Au ⊢;clear A kb b0 b1 b2 rb pU hK hF hsp Gt hn Rl B G C4;rcases hN with⟨rfl,rfl,rfl⟩ | ⟨rfl,rfl,rfl⟩
 all_goals
  first | go_enter func263,ntmps263 | go_enter func264,ntmps264
  go_upto_region 1 with fail
  (try simp only[Cg,Nat.reduceAdd])
  rw[<- Au.o];go_wp2_with (go_at_call 274;refine J.o.mono ?_;rintro e w1 ⟨s1,BJ,q1,s2,n2,q2,s3,n3,q3,s4,n4,q4,hd,rfl,L,y⟩;have Aw:=ai y;have R1:=ai (RB.o _ L);clear y L;obtain⟨y0,y1,y2,y3,y4⟩:=o5 R1.o;have f0:=bG R1.o 0;have f1:=bG R1.o 1;have f2:=bG R1.o 2;have f3:=bG R1.o 3;have f4:=bG R1.o 4;have h5:=ai (λV=>KS R1.o (.slice s1 BJ q1) (.slice s2 n2 q2) (.slice s3 n3 q3) (.slice s4 n4 q4) (I hd) (V:=V)));obtain⟨r1,r2⟩:=h5.out _ rfl;obtain⟨y0,y1,y2,y3,y4⟩:=o5 r1;refine b9 (v:=.tuple #[.agg #[.slice s1 BJ q1,.slice s2 n2 q2,.slice s3 n3 q3,.slice s4 n4 q4,I hd],I er]) (by simp[results,results263,results264,go_sem,y0,y1,y2,y3,y4]) rfl ?_;exact Aw.o _ r2
abbrev ahy:=Z1 _ _ _ (.inl ⟨rfl,rfl,rfl⟩)
abbrev VI:=Z1 _ _ _ (.inr ⟨rfl,rfl,rfl⟩)
theorem abE (C4:uj) (k:aT) (a:jC) (sp pg n:Int) (w:World) (hK:ju w a k) (hF:pY k) (hsp:cH sp) (Gt:cH pg) (hn:cH n) :
  Calls prog 266 #[.agg (br a k),I sp,I pg,I n] w (fL w (kF k sp (cU (ak k.aj sp.toNat).aJ pg n)).1 [I (kF k sp (cU (ak k.aj sp.toNat).aJ pg n)).2]):=by
 obtain⟨WA,pU⟩:=ex ((((w.alloc (.cells (br a k) 30)).alloc (.cells #[I pg] 3)).alloc (.cells #[I n] 3)).alloc (.cells #[Nl,Nl,Nl,Nl,I 0] 30));have y:Below w.heap.size w WA:=by grind [Below.refl,World.size_alloc,Below.alloc]
 have kb:WA.heap[w.heap.size]?=some (.cells (br a k) 30 (0,0)):=by grind [bu,bH]
 have b0:WA.heap[w.heap.size+1]?=some (.cells #[I pg] 3 (0,0)):=by
  grind [bH,World.size_alloc,bu]
 have b1:WA.heap[w.heap.size+2]?=some (.cells #[I n] 3 (0,0)):=by
  grind [bH,World.size_alloc,bu]
 have rb:WA.heap[w.heap.size+3]?=some (.cells #[Nl,Nl,Nl,Nl,I 0] 30 (0,0)):=by
  grind [bH,World.size_alloc]
 have J:=aQ rb;have RB:Hid (∀V,Below WA.heap.size WA V->V.heap[w.heap.size+3]?=some (.cells #[Nl,Nl,Nl,Nl,I 0] 30 (0,0))):=λV hb=>aU rb hb (aQ rb)
 obtain⟨k0,k1,k2,k3,k4⟩:=o5 (show WA.heap[w.heap.size]?=some (.cells #[.slice a.aS k.aR.length a.cS,.slice a.aF k.frames.length a.cF,.slice a.aL k.slots.length a.cL,.slice a.aP k.aj.length a.cP,I k.hand] 30 (0,0)) from kb);have Rl:dQ (cU (ak k.aj sp.toNat).aJ pg n).1:=adu _ pg n;obtain⟨K,A⟩:=ex ((kF k sp (cU (ak k.aj sp.toNat).aJ pg n)).1);obtain⟨er,B⟩:=ex ((kF k sp (cU (ak k.aj sp.toNat).aJ pg n)).2);rw[<- A,<- B];have F:Hid (Calls prog 274 #[.agg (br a k),I sp,.func (.func 279) #[] #[.pointer (some (Ad (w.heap.size+1) 0)),.pointer (some (Ad (w.heap.size+2) 0))]] WA λe w'=>∃s1 BJ q1 s2 n2 q2 s3 n3 q3 s4 n4 q4 hd,e=.returned (.tuple #[.agg #[.slice s1 BJ q1,.slice s2 n2 q2,.slice s3 n3 q3,.slice s4 n4 q4,I hd],I er])/\Below WA.heap.size WA w'/\∀U,aH (λb=>b=w.heap.size+3) w' U->fL w K [I er] (.returned (.tuple #[.agg #[.slice s1 BJ q1,.slice s2 n2 q2,.slice s3 n3 q3,.slice s4 n4 q4,I hd],I er])) U):=by
  refine(RP C4 k a sp WA (hK.below y) hF hsp (cU (ak k.aj sp.toNat).aJ pg n) Rl 279 [.pointer (some (Ad (w.heap.size+1) 0)),.pointer (some (Ad (w.heap.size+2) 0))] (w.heap.size+1) (w.heap.size+2) (w.heap.size+3) (.inr (.inl ⟨rfl,rfl⟩)) (λV ao cap hV h1 h2=>?_)).mono λe w' h=>?_
  . exact Yj _ ao _ cap pg n _ _ V h1 h2 Gt hn (aA (aU b0 hV (aQ b0)) 0 rfl) (aA (aU b1 hV (aQ b1)) 0 rfl)
  rw[<- A,<- B] at h;exact Z0 h y ⟨ω,J⟩
 have Au:=ai pU;generalize fL w K [I er]=P at F ⊢;unfold br at F Au ⊢;clear y kb b0 b1 rb pU hK hF hsp Gt hn Rl A B C4;go_enter func266,ntmps266;go_upto_region 1 with fail
 (try simp only[Cg,Nat.reduceAdd])
 rw[<- Au.o];go_wp2_with (go_at_call 274;refine F.o.mono ?_;rintro e w1 ⟨s1,BJ,q1,s2,n2,q2,s3,n3,q3,s4,n4,q4,hd,rfl,G,q⟩;have Aw:=ai q;have R1:=ai (RB.o _ G);clear q G;obtain⟨y0,y1,y2,y3,y4⟩:=o5 R1.o;have f0:=bG R1.o 0;have f1:=bG R1.o 1;have f2:=bG R1.o 2;have f3:=bG R1.o 3;have f4:=bG R1.o 4;have h5:=ai (λV=>KS R1.o (.slice s1 BJ q1) (.slice s2 n2 q2) (.slice s3 n3 q3) (.slice s4 n4 q4) (I hd) (V:=V)));obtain⟨r1,r2⟩:=h5.out _ rfl;obtain⟨y0,y1,y2,y3,y4⟩:=o5 r1;refine b9 (v:=.tuple #[.agg #[.slice s1 BJ q1,.slice s2 n2 q2,.slice s3 n3 q3,.slice s4 n4 q4,I hd],I er]) (by simp[results,results266,go_sem,y0,y1,y2,y3,y4]) rfl ?_;exact Aw.o _ r2
open Go.RowKit
theorem akH:∀(l:List nA),∀u∈l.flatMap jI,u.oneCell'=true:=λl u hu=>by
 obtain⟨y,_,hy⟩:=vO.1 hu;simp[jI] at hy;rcases hy with rfl | rfl | rfl | rfl <;> rfl
theorem akC:∀(l:List qh),∀u∈l.flatMap jH,u.oneCell'=true:=λl u hu=>by
 obtain⟨y,_,hy⟩:=vO.1 hu;simp[jH] at hy;rcases hy with rfl | rfl <;> rfl
theorem akE:∀(l:List bC),∀u∈l.flatMap py,u.oneCell'=true:=λl u hu=>by
 obtain⟨y,_,hy⟩:=vO.1 hu;simp[py] at hy;rcases hy with rfl | rfl | rfl <;> rfl
theorem akG:∀(l:List oa),∀u∈l.flatMap sX,u.oneCell'=true:=λl u hu=>by
 obtain⟨y,_,hy⟩:=vO.1 hu;simp[sX] at hy;rcases hy with rfl | rfl <;> rfl
theorem Ej {α:Type} {f:α->List Value} {n:Nat} (hf:∀x,(f x).length=n) {d:α} {w:World} {ao:Option Addr} {l:List α} (h:eX f n d w ao l):qK w ao l.length (l.flatMap f):=λhm=>by
 obtain⟨b,off,rfl,hb,hl⟩:=h hm;exact yO (w:=w) f n hf d l b off (λi hi j hj=>hl i hi j hj) hm
theorem akD {w:World} {ao:Option Addr} {l:List bC} (h:kq w ao l):eX py 3 GD w ao l:=λhl=>by
 obtain⟨b,off,e,hb,hi⟩:=h hl;refine⟨b,off,e,hb,λi hlt j hj=>?_⟩;obtain⟨c0,c1,c2,_⟩:=hi i hlt
 match j,hj with
 | 0,_=>exact c0
 | 1,_=>exact c1
 | 2,_=>exact c2
theorem akF {w:World} {ao:Option Addr} {l:List oa} (h:xC w ao l):eX sX 2 aby w ao l:=λhl=>by
 obtain⟨b,off,e,hb,hi⟩:=h hl;refine⟨b,off,e,hb,λi hlt j hj=>?_⟩;obtain⟨c0,c1⟩:=hi i hlt
 match j,hj with
 | 0,_=>exact c0
 | 1,_=>exact c1
structure abK (lo:Nat) (WA wx:World) (cb:Nat) (vS vF vL:Value) (hd:Int) (k:aT):Prop where
 head:wx.heap[cb]?=some (.cells #[vS,vF,vL,Nl,I hd] 30 (0,0))
 hlo:lo<=cb
 rS:wx.ownsRow lo 145 3 vS k.aR.length (k.aR.flatMap py)
 rF:wx.ownsRow lo 169 4 vF k.frames.length (k.frames.flatMap jI)
 rL:wx.ownsRow lo 171 2 vL k.slots.length (k.slots.flatMap jH)
 d1:∀b,cA vS b->¬cA vF b/\¬cA vL b/\b≠cb
 d2:∀b,cA vF b->¬cA vL b/\b≠cb
 d3:∀b,cA vL b->b≠cb
 below:Below WA.heap.size WA wx
structure zG (lo cb:Nat) (w:World) (lab:Nat->qP) (vS vF vL:Value) (k:aT) (hs:List bC) (n:Nat):Prop where
 CT:∀b,lab b≠.no->lo<=b/\b<w.heap.size
 head:w.heap[cb]?=some (.cells #[vS,vF,vL,Nl,I k.hand] 30 (0,0))
 lH:lab cb=.head
 aR:w.ownsRow lo 145 3 vS hs.length (hs.flatMap py)
 dR:∀i,i<n->w.ownsRow lo 226 2 (ajC (bk hs i)) (bk hs i).dR.length ((bk hs i).dR.flatMap sX)
 frames:w.ownsRow lo 169 4 vF k.frames.length (k.frames.flatMap jI)
 slots:w.ownsRow lo 171 2 vL k.slots.length (k.slots.flatMap jH)
 lS:∀b,cA vS b->lab b=.aR
 lX:∀i,i<n->∀b,cA (ajC (bk hs i)) b->lab b=.dR i
 lF:∀b,cA vF b->lab b=.frames
 lL:∀b,cA vL b->lab b=.slots
 same:cZ k.aR hs
 rest:∀i,n<=i->bk hs i=bk k.aR i
structure LQ (WA V:World) (L:List (Value×TypeId×Nat×Nat×List Value)) (oc:Option Nat):Prop where
 below:Below WA.heap.size WA V
 rows:∀x∈L,V.ownsRow WA.heap.size x.2.1 x.2.2.1 x.1 x.2.2.2.1 x.2.2.2.2
 cell:∀c,oc=some c->WA.heap.size<=c/\V.heap[c]?=some (.cells #[Nl,Nl,Nl,Nl,I 0] 30 (0,0))/\∀x∈L,¬cA x.1 c
 dis:L.Pairwise (λx y=>∀b,cA y.1 b->¬cA x.1 b)
variable {WA V V':World} {L:List (Value×TypeId×Nat×Nat×List Value)} {oc:Option Nat}
theorem LQ.row (h:LQ WA V L oc) {T:TypeId} {n m:Nat} {v:Value} {xs:List Value} (hr:V'.ownsRow V.heap.size T n v m xs) (hb:Below V.heap.size V V'):LQ WA V' ((v,T,n,m,xs)::L) oc:=by
 have hs:=h.below.size;refine⟨h.below.trans (hb.mono hs),λx hx=>?_,λc hc=>?_,Ag.2 ⟨λy hy b g g'=>?_,h.dis⟩⟩
 . rcases qZ.1 hx with rfl | hx
   . exact m9 hr λg hg=>eJ hs (hr.lt g hg).1
   exact(aH.bQ (D:=λ_=>False) hb).row (h.rows x hx) (λ_ _ g=>g)
 . obtain⟨h1,h2,h3⟩:=h.cell c hc;refine⟨h1,aU h2 hb (aQ h2),λx hx g=>?_⟩;rcases qZ.1 hx with rfl | hx
   . have:=(hr.lt c g).1;have:=aQ h2;omega
   exact h3 x hx g
 have:=((h.rows y hy).lt b g).2;have:=(hr.lt b g').1;omega
theorem LQ.new (h:LQ WA V L none):∃V1 b,V.alloc (.cells #[Nl,Nl,Nl,Nl,I 0] 30)=V1/\V.heap.size=b/\LQ WA V1 L (some b):=by
 refine⟨_,_,rfl,rfl,h.below.alloc h.below.size _,λx hx=>(aH.alloc (λ_=>False) _ _).row (h.rows x hx) (λ_ _ g=>g),λc hc=>?_,h.dis⟩;obtain rfl:V.heap.size=c:=by simpa using hc
 exact⟨h.below.size,bH V _ _,λx hx g=>Nat.lt_irrefl _ ((h.rows x hx).lt _ g).2⟩
theorem LQ.four {cb:Nat} {vS vF vL:Value} {k:aT} (hd:Int) (h:LQ WA V [(vL,171,2,k.slots.length,k.slots.flatMap jH),(vF,169,4,k.frames.length,k.frames.flatMap jI),(vS,145,3,k.aR.length,k.aR.flatMap py)] (some cb)) :
  abK WA.heap.size WA (((((V.setCell (Ad cb 0) vS).setCell (Ad cb 1) vF).setCell (Ad cb 2) vL).setCell (Ad cb 3) Nl).setCell (Ad cb 4) (I hd)) cb vS vF vL hd k:=by
 obtain⟨h1,h2,h3⟩:=h.cell cb rfl;have k1:∀(A:World) (j:Nat) (v:Value),aH (λb=>b=cb) A (A.setCell (Ad cb j) v):=λA j v=>aH.set _ A (Ad cb j) v rfl
 have kp:=((((k1 V 0 vS).trans (k1 _ 1 vF) (λ_ _ g=>g)).trans (k1 _ 2 vL) (λ_ _ g=>g)).trans (k1 _ 3 Nl) (λ_ _ g=>g)).trans (k1 _ 4 (I hd)) (λ_ _ g=>g);have hd:=h.dis;have hw:=λx hx=>kp.row (h.rows x hx) (λb hb e=>by subst e;exact(h.cell _ rfl).2.2 x hx hb)
 simp only[Ag,qZ,Ci,forall_eq_or_imp,forall_eq,Kv] at hd h3 hw;exact⟨gH (gH (gH (gH (gH h2 0 _) 1 _) 2 _) 3 _) 4 _,h1,hw.2.2,hw.2.1,hw.1,Γ,Γ,Γ,aH.below h.below kp h.below.size (λb e=>ω)⟩
theorem ahC {lo:Nat} {WA w:World} {cb:Nat} {vS vF vL:Value} {k:aT} (h:abK lo WA w cb vS vF vL k.hand k):∃lab,zG lo cb w lab vS vF vL k k.aR 0:=by
 refine⟨λb=>if b=cb then .head else if vS.ownBlock=some b then .aR else if vF.ownBlock=some b then .frames else if vL.ownBlock=some b then .slots else .no,⟨λb hb=>?_,h.head,aC rfl,h.rS,λi hi=>absurd hi (iW _),h.rF,h.rL,λb hb=>?_,λi hi=>absurd hi (iW _),λb hb=>?_,λb hb=>?_,rfl,λi hi=>rfl⟩⟩
 . by_cases c0:b=cb
   . rw[c0];exact⟨h.hlo,aQ h.head⟩
   by_cases c1:vS.ownBlock=some b
   . exact h.rS.lt b c1
   by_cases c2:vF.ownBlock=some b
   . exact h.rF.lt b c2
   by_cases c3:vL.ownBlock=some b
   . exact h.rL.lt b c3
   grind
 . have q:vS.ownBlock=some b:=hb;have:=h.d1 b hb
   grind
 . have q:vF.ownBlock=some b:=hb;have:=h.d2 b hb;rw[aB this.2,aB (show ¬vS.ownBlock=some b from λx=>(h.d1 b x).1 hb),aC q]
 have q:vL.ownBlock=some b:=hb;have:=h.d3 b hb;rw[aB this,aB (show ¬vS.ownBlock=some b from λx=>(h.d1 b x).2.1 hb),aB (show ¬vF.ownBlock=some b from λx=>(h.d2 b x).1 hb),aC q]
theorem zG.kp {lo cb:Nat} {w w':World} {lab:Nat->qP} {vS vF vL:Value} {k:aT} {hs:List bC} {n:Nat} (h:zG lo cb w lab vS vF vL k hs n) {E:Nat->Prop} (hk:aH E w w') (he:∀b,lab b≠.no->¬E b):zG lo cb w' lab vS vF vL k hs n:=by
 have z:∀{b:Nat} {c:qP},lab b=c->c≠.no->¬E b:=λe hc=>he _ Γ
 exact⟨λb hb=>⟨(h.CT b hb).1,dV (h.CT b hb).2 hk.size⟩,hk.keep h.head (z h.lH ξ),h.lH,hk.row h.aR (λb hb=>z (h.lS b hb) ξ),λi hi=>hk.row (h.dR i hi) (λb hb=>z (h.lX i hi b hb) ξ),hk.row h.frames (λb hb=>z (h.lF b hb) ξ),hk.row h.slots (λb hb=>z (h.lL b hb) ξ),h.lS,h.lX,h.lF,h.lL,h.same,h.rest⟩
theorem zG.below {lo cb:Nat} {w w':World} {lab:Nat->qP} {vS vF vL:Value} {k:aT} {hs:List bC} {n:Nat} (h:zG lo cb w lab vS vF vL k hs n) (hb:Below w.heap.size w w'):zG lo cb w' lab vS vF vL k hs n:=h.kp (aH.bQ (D:=λ_=>False) hb) (λ_ _ g=>g)
theorem Jb (l:List bC) (i m:Nat) (x:bC) (hi:i<l.length):bk (l.set i x) m=if i=m then x else bk l m:=by
 grind [bk]
theorem OJ:∀(l:List bC) (i:Nat) (x:bC),i<l.length->eZ x=eZ (bk l i)->(l.set i x).map eZ=l.map eZ
 | [],i,x,hi,_=>absurd hi (iW _)
 | a::r,0,x,hi,e=>by
  show eZ x::_=eZ a::_;rw[e];rfl
 | a::r,i+1,x,hi,e=>by
  show eZ a::(r.set i x).map eZ=eZ a::_;rw[OJ r i x (Gq hi) e]
theorem zG.step {lo cb:Nat} {w w1:World} {lab:Nat->qP} {vF vL:Value} {k:aT} {hs:List bC} {n:Nat} {sb m cS:Nat} {ax:Option Addr} {cx:Nat} (h:zG lo cb w lab (.slice (some (Ad sb 0)) m cS) vF vL k hs n) (hn:n<hs.length) (hlo:lo<=w.heap.size) (hb:Below w.heap.size w w1)
  (hr:w1.ownsRow w.heap.size 226 2 (.slice ax (bk hs n).dR.length cx) (bk hs n).dR.length ((bk hs n).dR.flatMap sX)) :
  ∃lab',zG lo cb (w1.setCell (Ad sb (n*3+2)) (.slice ax (bk hs n).dR.length cx)) lab' (.slice (some (Ad sb 0)) m cS) vF vL k (hs.set n ⟨(bk hs n).page,(bk hs n).data,(bk hs n).dR,ax,cx⟩) (n+1)/\∀b,b<w.heap.size->lab' b=lab b:=by
 have h1:=h.below hb;obtain⟨v,hv⟩:∃v:Value,v=.slice ax (bk hs n).dR.length cx:=⟨_,rfl⟩;rw[<- hv] at hr ⊢;have Bl:lab sb=.aR:=h.lS sb rfl;have uQ:aH (λb=>b=sb) w1 (w1.setCell (Ad sb (n*3+2)) v):=aH.set _ _ _ _ rfl;have z:∀{b:Nat} {c:qP},lab b=c->c≠.aR->¬b=sb:=λe hc x=>hc Γ
 have ev:∀b,cA v b->w.heap.size<=b/\b<w1.heap.size:=λb hx=>hr.lt b hx
 have old:∀b,b<w.heap.size->(if v.ownBlock=some b then qP.dR n else lab b)=lab b:=λb hl=>aB λx=>by have:=ev b x;omega
 have o2:∀b c,lab b=c->c≠.no->(if v.ownBlock=some b then qP.dR n else lab b)=c:=λb c e hc=>by
  rw[old b (h.CT b Γ).2,e]
 have hm:m=hs.length:=by
  obtain⟨ao,c,e,_⟩:=aZ h.aR
  grind
 subst hm;have q:(w1.setCell (Ad sb (n*3+2)) v).heap.size=w1.heap.size:=by simp
 refine⟨λb=>if v.ownBlock=some b then .dR n else lab b,⟨λb hx=>?_,uQ.keep h1.head (z h.lH ξ),o2 cb _ h.lH ξ,?_,λi hi=>?_,uQ.row h1.frames (λb hx=>z (h.lF b hx) ξ),uQ.row h1.slots (λb hx=>z (h.lL b hx) ξ),λb hx=>o2 b _ (h.lS b hx) ξ,λi hi b hx=>?_,λb hx=>o2 b _ (h.lF b hx) ξ,λb hx=>o2 b _ (h.lL b hx) ξ,?_,λi hi=>?_⟩,old⟩
 . rw[q];by_cases c:v.ownBlock=some b
   . have:=ev b c;omega
   have hx:(if v.ownBlock=some b then qP.dR n else lab b)≠.no:=hx;rw[aB c] at hx;exact h1.CT b hx
 . have y:=dJ h1.aR (n*3+2) v;rw[<- jf py 3 (λ_=>rfl) GD ⟨(bk hs n).page,(bk hs n).data,(bk hs n).dR,ax,cx⟩ 2 v ω hs n hn (by rw[hv];rfl)] at y
   grind
 . rw[Jb _ _ _ _ hn];by_cases c:n=i
   . rw[aC c];show World.ownsRow _ lo _ 2 (.slice ax (bk hs n).dR.length cx) _ _
     grind [m9,aH.row,CT]
   rw[aB c];exact uQ.row (h1.dR i ω) (λb hx=>z (h.lX i ω b hx) ξ)
 . rw[Jb _ _ _ _ hn] at hx;by_cases c:n=i
   . rw[aC c] at hx;have hx:cA (.slice ax (bk hs n).dR.length cx) b:=hx;rw[<- hv] at hx;show(if v.ownBlock=some b then qP.dR n else lab b)=_;rw[aC (show v.ownBlock=some b from hx),c]
   grind [lX]
 . show List.map eZ _=_;exact(OJ hs n ⟨(bk hs n).page,(bk hs n).data,(bk hs n).dR,ax,cx⟩ hn rfl).trans h.same
 grind [Jb,rest]
theorem zG.done {lo cb:Nat} {w:World} {lab:Nat->qP} {vS vF vL:Value} {k:aT} {hs:List bC} (h:zG lo cb w lab vS vF vL k hs hs.length):bR lo cb 30 [] w ⟨lab,vS,vF,vL,Nl,[]⟩ (aY ⟨k.aR,k.frames,k.slots,k.aj.take 0,k.hand⟩ hs) :=
 ⟨⟨h.CT,h.aR,h.dR,h.frames,h.slots,pT _ _ _ _,rfl,λi hi=>absurd hi (iW _),h.lS,h.lX,h.lF,h.lL,(λb hb=>by cases hb),λi hi=>absurd hi (iW _),λi hi=>absurd hi (iW _)⟩,h.head,h.lH⟩
open Go.RowKit
theorem aav:(prog.info? 99).map (λi=>(i.zero,i.size,i.bytes))=some (some (.agg #[.bool false,Nl,Nl]),3,56):=by rfl
section
variable {P:Program} {T E K B:Nat} {Z:Value} (ht:P.underlying T=some (.slice E)) (hI:(P.info? E).map (λi=>(i.zero,i.size,i.bytes))=some (some Z,K,B)) (hZ:Z.cells.size=K) (hK:0<K)
include ht hI hZ hK
theorem asc {o:Oper} {a:Act} {w:World} {K':Act->World->Prop} {Q:Exit->Act->World->Prop} (s x:Operand)
  (ho:o.op=.call { callee:=.builtin .append,args:=#[s,x],argTypes:=#[T,T] })
  (base:Nat) (v:Value) (n:Nat) (xs:List Value) (hs:a.eval s=v) (hown:w.ownsRow base E K v n xs)
  (ao:Option Addr) (m c:Nat) (news:List Value) (hx:a.eval x=.slice ao m c) (hl:news.length=m*K) (hnews:0<m->∃ad,ao=some ad/\∀j u,news[j]?=some u->w.cell? (ad.add j)=some u) (h1:∀u∈news,u.oneCell'=true)
  (h63:n+m<=maxLen) (hbytes:(n+m)*B<=140737488355328) (hbase:base<=w.heap.size)
  (h:∀v' w',w'.ownsRow base E K v' (n+m) (xs++news)->w.grownBy w' v.ownBlock->(v'.ownBlock=v.ownBlock\/v'.ownBlock=some w.heap.size)->K' (a.put o.dst v') w'):o.wp P a w K' Q:=by
 obtain⟨i,h0,b,h2,h3⟩:=kI hI;exact s8 s x T ho base E i Z K B ht h0 b h2 h3 hZ hK v n xs hs hown ao m c news hx hl hnews h1 h63 hbytes hbase h
end
abbrev apg:=@asc prog 28 99 _ _ _ underlying28 aav rfl Δ
end Go.Proofs.YtlgoihmkgaaemaaGreat
