import Derived.Test.YtlgoihmkgaaemaaGreatGQ26
set_option maxHeartbeats 20000000
set_option linter.unusedVariables false
set_option maxRecDepth 100000
set_option linter.unusedSimpArgs false
namespace Go.Proofs.YtlgoihmkgaaemaaGreat
open Go.RowKit Tryz
def qu (k:aT) (sp a n way:Int):aT×ByteArray×(Int×Int)×Int:=if jl k sp n way [0,2]≠0 then (kg,⟨#[]⟩,(0,0),jl k sp n way [0,2]) else if (bB (ak k.aj sp.toNat).aJ a n way).1≠0 then (kg,⟨#[]⟩,bB (ak k.aj sp.toNat).aJ a n way,0) else ((bg k sp.toNat a n way).2,rG k sp.toNat a n way,(0,0),0)
theorem aey (C4:uj) (k:aT) (a:jC) (sp ad n way:Int) (w:World) (hK:ju w a k) (hF:pY k) (hsp:cH sp) (had:cH ad) :
  Calls prog 262 #[.agg (br a k),I sp,I ad,I n,I way] w (fL w (qu k sp ad n way).1 [.string (qu k sp ad n way).2.1,.agg #[I (qu k sp ad n way).2.2.1.1,I (qu k sp ad n way).2.2.1.2],I (qu k sp ad n way).2.2.2]):=by
 obtain⟨WA,pU,O,kb,a1,rb⟩:=ajz w (br a k) 30;obtain⟨k0,k1,k2,k3,k4⟩:=o5 kb;have B:eX jb 1 0 (WA.alloc (.cells #[I 0,I 2] 3)) (some (Ad WA.heap.size 0)) [0,2]:=RQ WA [0,2];have F:=(aN WA.heap.size WA).alloc (aK _) (.cells #[I 0,I 2] 3);generalize hWB:WA.alloc (.cells #[I 0,I 2] 3)=WB at B F;have G:=O.trans (F.mono O.size);have a0:=dV a1 F.size;have RB:=ai (λV (hV:Below WB.heap.size WB V)=>rb V (F.trans (hV.mono F.size)));have Au:=ai pU;have Y:=ai hWB;have cD:=ai G;generalize hP:fL w (qu k sp ad n way).1 [.string (qu k sp ad n way).2.1,.agg #[I (qu k sp ad n way).2.2.1.1,I (qu k sp ad n way).2.2.1.2],I (qu k sp ad n way).2.2.2]=P;by_cases c:jl k sp n way [0,2]=0
 . obtain⟨j,rfl,hR,hj,hn⟩:=LM c;have Ex:=ai (LP C4 k a (j:Int) n way [0,2] (some (Ad WA.heap.size 0)) 2 WB (hK.below G) hF hsp B ξ c);rw[show([0,2]:List Int).length=2 from rfl] at Ex;have uP:=ai (λV S mb hs (hsame:cZ k.aR hs) (hV:bR WB.heap.size mb 158 (mC k) V S (aY k hs))=>LL hR hj way had hn hsame (RT hR.lq hsame) hV);have K:=ai (λhf=>OI hR hj way (a:=ad) hn hf);have HA:Hid (P=if (bB (ak k.aj j).aJ ad n way).1≠0 then fL w kg [.string ⟨#[]⟩,.agg #[I (bB (ak k.aj j).aJ ad n way).1,I (bB (ak k.aj j).aJ ad n way).2],I 0] else fL w (bg k j ad n way).2 [.string (rG k j ad n way),.agg #[I 0,I 0],I 0]):=by
    rw[<- hP];unfold qu;rw[aB (λg=>g c),jW];split <;> rfl
   have M:Hid ((bB (ak k.aj j).aJ ad n way).1=0->∀V,Calls prog 171 #[.string (jo (bg k j ad n way).2.frames (bg k j ad n way).1 (bg k j ad n way).1.length),I (((ad%16).toNat:Nat):Int),I n] V λe w'=>e=.returned (.tuple #[.string (rG k j ad n way),I 0])/\Below V.heap.size V w'):=λhf V=>by
    obtain⟨_,_,_,_,h5,h6,h7,_⟩:=K.o hf;have:=Bj (jo (bg k j ad n way).2.frames (bg k j ad n way).1 (bg k j ad n way).1.length) (ad%16).toNat n.toNat V (by rw[h7];omega) (by rw[h7];exact h6)
    rwa [show((n.toNat:Nat):Int)=n by omega] at this
   generalize bB (ak k.aj j).aJ ad n way=FA at uP K HA M;obtain⟨f0,f1⟩:=FA;simp only at uP K HA M;unfold br at Ex Au ⊢;clear hK hF hsp had c hP pU hWB O G kb rb B F hR hj hn C4;go_enter func262,ntmps262;go_upto_region 1 with fail;rw[Au.o];go_upto_region 5 with(first
    | (go_at_call 271;rw[Y.o];refine Ex.o.mono ?_;rintro e w1 ⟨mb,S1,a4,rfl,h⟩;have H1:=ai h;clear h)
    | (go_at_call 272;refine(uP.o _ _ _ _ H1.o.1 H1.o.2.1).mono ?_;rintro e w2 ⟨av,nv,cv,S2,rfl,h⟩;have H2:=ai h;have x:=xZ (bH w2 #[I f0,I f1] 75);clear h))
   have Ck:∀b,b<WB.heap.size->S1.lab b=.no:=λb hb=>D7.1 λg=>by have:=(H1.o.2.1.CT b g).1;omega
   have R1:=RB.o _ H1.o.2.2;have A:=(aN w2.heap.size w2).alloc (aK _) (.cells #[I f0,I f1] 75);have W:=H2.o.1.keep R1.1 (Ck _ ω);have N:=H2.o.1.keep R1.2 (Ck _ a0);have EC:Hid (Below WB.heap.size WB w2):=H2.o.1.old H1.o.2.1.toKr H1.o.2.2 H1.o.2.2.size;have R3:=ai (λV (hV:Below (w2.alloc (.cells #[I f0,I f1] 75)).heap.size (w2.alloc (.cells #[I f0,I f1] 75)) V)=>And.intro (And.intro (aU W (A.trans (hV.mono A.size)) (aQ W)) (aU N (A.trans (hV.mono A.size)) (aQ N))) (EC.o.trans ((A.trans (hV.mono A.size)).mono EC.o.size)));have J:=ai A;have a5:=aQ N;clear R1 W N Ck A;generalize w2.alloc (.cells #[I f0,I f1] 75)=W3 at R3 J x ⊢;by_cases hf:f0=0
   case neg =>
    have a6:(f0 != 0)=true:=by simpa using hf
    go_upto_region 6 with fail;have Q3:=ai (R3.o _ (aN _ _));have y:=o5 Q3.out.1.1;have f:=bG Q3.out.1.1;have z:=xZ Q3.out.1.2;have g:=bG Q3.out.1.2;go_region;go_wp2;obtain rfl:=HA.o.trans (aC hf);exact KT Q3.out.1 (λU hU=>yg _ (aH.below (cD.o.trans (Q3.out.2.mono cD.o.size)) hU (eJ cD.o.size Q3.out.2.size) (λb e=>ω))) (hV:=.inr rfl)
   subst hf;obtain⟨h1,_,X,⟨g1,g2,g3,g4⟩,_,_,_,_,a2⟩:=K.o rfl;obtain rfl:f1=0:=dC Prod.snd h1;obtain⟨a3,hh⟩:=H2.o;obtain⟨rfl,C3,T⟩:=hh rfl;have L:=ai (RY _ S2 W3 (bg k j ad n way).1 av cv (T.below J.o) (C3.ch (cO.below J.o)) g3 g2 g4 g1);have R:=ai (M.o rfl);have Z:=ai (λV (hV:Below W3.heap.size W3 V)=>And.intro (R3.o V hV).1 (Dg (D:=λb=>b=w.heap.size+1\/b=w.heap.size+1+1) (T.below (J.o.trans (hV.mono J.o.size))) H1.o.1 X cD.o (R3.o V hV).2 (λb e=>ω)));change Hid (Calls _ _ _ _ λe w'=>e=.returned (.string (jo (bg k j ad n way).2.frames (bg k j ad n way).1 (bg k j ad n way).1.length))/\w'=W3) at L;generalize jo (bg k j ad n way).2.frames (bg k j ad n way).1 (bg k j ad n way).1.length=JD at L R;generalize (bg k j ad n way).1.length=nv at L ⊢;generalize (ad%16).toNat=md at R a2;clear h1 X g1 g2 g3 g4 a3 hh C3 T K uP M;go_wp2_with (first
    | (go_at_call 273;refine L.o.mono ?_;rintro e w4 ⟨rfl,rfl⟩)
    | (go_at_call 171;refine(R.o _).mono ?_;rintro e w5 ⟨rfl,h⟩;have H5:=ai (Z.o _ h);clear h x;obtain⟨aS,nS,cS,aF,nF,cF,aL,nL,cL,aP,cP,hd,q,Q⟩:=H5.o.2;have Aw:=ai Q;clear Q;have y:=o5 H5.o.1.1;have f:=bG H5.o.1.1;have z:=xZ H5.o.1.2;have g:=bG H5.o.1.2))
   obtain rfl:=HA.o.trans (aB (λg=>g rfl));exact KT H5.o.1 (Aw.o _)
 rw[show qu k sp ad n way=(kg,⟨#[]⟩,(0,0),jl k sp n way [0,2]) by unfold qu;grind] at hP;have HP:=ai hP;have Ex:=ai (Jc k a sp n way [0,2] (some (Ad WA.heap.size 0)) 2 WB (hK.below G) hF hsp B ξ c);rw[show([0,2]:List Int).length=2 from rfl] at Ex;generalize jl k sp n way [0,2]=C at Ex HP c;have cb:(C != 0)=true:=by grind
 unfold br at Ex Au ⊢;clear hK hF hsp had c hP pU hWB O G kb rb B F C4;go_enter func262,ntmps262;go_upto_region 1 with fail;rw[Au.o];go_upto_region 3 with(go_at_call 271;rw[Y.o];refine Ex.o.mono ?_;rintro e w1 ⟨rfl,h⟩;have iJ:=ai (cD.o.trans (h.mono cD.o.size));have Q3:=ai (RB.o _ h);clear h);have y:=o5 Q3.out.1;have f:=bG Q3.out.1;have z:=xZ Q3.out.2;have g:=bG Q3.out.2;go_wp2;obtain rfl:=HP.o;exact KT Q3.out (λU hU=>yg _ (aH.below iJ.o hU iJ.o.size (λb e=>ω)))
open Go.RowKit
def qm (k:aT) (sp a:Int) (d:ByteArray):aT×(Int×Int)×Int:=if jl k sp d.size 1 [1]≠0 then (kg,(0,0),jl k sp d.size 1 [1]) else if (bB (ak k.aj sp.toNat).aJ a d.size 1).1≠0 then (kg,bB (ak k.aj sp.toNat).aJ a d.size 1,0) else (nX k sp.toNat a d,(0,0),0)
theorem abF (C4:uj) (k:aT) (a:jC) (sp ad:Int) (d:ByteArray) (w:World) (hK:ju w a k) (hF:pY k) (hsp:cH sp) (had:cH ad) :
  Calls prog 265 #[.agg (br a k),I sp,I ad,.string d] w (fL w (qm k sp ad d).1 [.agg #[I (qm k sp ad d).2.1.1,I (qm k sp ad d).2.1.2],I (qm k sp ad d).2.2]):=by
 obtain⟨WA,pU,O,kb,a5,rb⟩:=ajz w (br a k) 30;obtain⟨k0,k1,k2,k3,k4⟩:=o5 kb;have F:eX jb 1 0 (WA.alloc (.cells #[I 1] 3)) (some (Ad WA.heap.size 0)) [1]:=RQ WA [1];have G:=(aN WA.heap.size WA).alloc (aK _) (.cells #[I 1] 3);generalize hWB:WA.alloc (.cells #[I 1] 3)=WB at F G;have J:=O.trans (G.mono O.size);have a0:=dV a5 G.size;have RB:=ai (λV (hV:Below WB.heap.size WB V)=>rb V (G.trans (hV.mono G.size)));have Au:=ai pU;have a2:=ai hWB;have cD:=ai J;generalize hP:fL w (qm k sp ad d).1 [.agg #[I (qm k sp ad d).2.1.1,I (qm k sp ad d).2.1.2],I (qm k sp ad d).2.2]=P;by_cases c:jl k sp (d.size:Int) 1 [1]=0
 . obtain⟨j,rfl,hR,hj,hn⟩:=LM c;have Ex:=ai (LP C4 k a (j:Int) (d.size:Int) 1 [1] (some (Ad WA.heap.size 0)) 1 WB (hK.below J) hF hsp F ξ c);rw[show([1]:List Int).length=1 from rfl] at Ex;have uP:=ai (λV S mb hs (hsame:cZ k.aR hs) (hV:bR WB.heap.size mb 158 (mC k) V S (aY k hs))=>LL hR hj 1 had hn hsame (RT hR.lq hsame) hV);have K:=ai (λhf=>OI hR hj 1 (a:=ad) hn hf);have HA:Hid (P=if (bB (ak k.aj j).aJ ad (d.size:Int) 1).1≠0 then fL w kg [.agg #[I (bB (ak k.aj j).aJ ad (d.size:Int) 1).1,I (bB (ak k.aj j).aJ ad (d.size:Int) 1).2],I 0] else fL w (nX k j ad d) [.agg #[I 0,I 0],I 0]):=by
    rw[<- hP];unfold qm;rw[aB (λg=>g c),jW];split <;> rfl
   have M:Hid ((bB (ak k.aj j).aJ ad (d.size:Int) 1).1=0->(nX k j ad d).aR=k.aR/\(∀V,Calls prog 124 #[.string (jo (bg k j ad (d.size:Int) 1).2.frames (bg k j ad (d.size:Int) 1).1 (bg k j ad (d.size:Int) 1).1.length),I (((ad%16).toNat:Nat):Int),.string d] V λe w'=>e=.returned (.tuple #[.string (gB (jo (bg k j ad (d.size:Int) 1).2.frames (bg k j ad (d.size:Int) 1).1 (bg k j ad (d.size:Int) 1).1.length) (ad%16).toNat d),I 0])/\Below V.heap.size V w')/\∀(mb:Nat) (hs:List bC) (S:gJ) (V:World) av cv,bR WB.heap.size mb 158 (mC k) V S (aY (bg k j ad (d.size:Int) 1).2 hs)->om V S av (Bt (bg k j ad (d.size:Int) 1).1)->Calls prog 278 #[.pointer (some (Ad mb 0)),.slice av (bg k j ad (d.size:Int) 1).1.length cv,.string (gB (jo (bg k j ad (d.size:Int) 1).2.frames (bg k j ad (d.size:Int) 1).1 (bg k j ad (d.size:Int) 1).1.length) (ad%16).toNat d)] V (nH WB.heap.size mb 158 (mC k) V S (.tuple #[]) (aY (nX k j ad d) hs))):=λhf=>by
    obtain⟨_,⟨yr,a7⟩,_,⟨g1,g2,g3,g4⟩,h5,h6,h7,_⟩:=K.o hf;rw[jW] at h6;have aa:=O9 (oN (b7 k j) ad (d.size:Int)) (ad%16).toNat d h6;refine⟨(yQ hR hj ad d hn.1 hn.2 yr a7).aR,λV=>H9 _ d (ad%16).toNat V (by rw[h7];omega) (by rw[h7];exact h6),λmb hs S V av cv h1 h2=>?_⟩;have:=aeB _ S V (bg k j ad (d.size:Int) 1).1 (gB (jo (bg k j ad (d.size:Int) 1).2.frames (bg k j ad (d.size:Int) 1).1 (bg k j ad (d.size:Int) 1).1.length) (ad%16).toNat d) av cv h1 h2 g3 g2 (by rw[h7];omega) (by rw[h7];omega) g1;rw[E0] at this;exact this
   generalize bB (ak k.aj j).aJ ad (d.size:Int) 1=FA at uP K HA M;obtain⟨f0,f1⟩:=FA;simp only at uP K HA M;unfold br at Ex Au ⊢;clear hK hF hsp had c hP pU hWB O J kb rb F G hR hj hn C4;go_enter func265,ntmps265;go_upto_region 1 with fail;rw[Au.o];go_upto_region 5 with(first
    | (go_at_call 271;rw[a2.o];refine Ex.o.mono ?_;rintro e w1 ⟨mb,S1,Y,rfl,h⟩;have H1:=ai h;clear h)
    | (go_at_call 272;refine(uP.o _ _ _ _ H1.o.1 H1.o.2.1).mono ?_;rintro e w2 ⟨av,nv,cv,S2,rfl,h⟩;have H2:=ai h;have x:=xZ (bH w2 #[I f0,I f1] 75);clear h))
   have Ck:∀b,b<WB.heap.size->S1.lab b=.no:=λb hb=>D7.1 λg=>by have:=(H1.o.2.1.CT b g).1;omega
   have R1:=RB.o _ H1.o.2.2;have B:=(aN w2.heap.size w2).alloc (aK _) (.cells #[I f0,I f1] 75);have X:=H2.o.1.keep R1.1 (Ck _ ω);have N:=H2.o.1.keep R1.2 (Ck _ a0);have HN:Hid (S2.lab (w.heap.size+1)=.no/\S2.lab (w.heap.size+1+1)=.no):=⟨H2.o.1.no _ (aQ R1.1) (Ck _ ω),H2.o.1.no _ (aQ R1.2) (Ck _ a0)⟩;have EC:Hid (Below WB.heap.size WB w2):=H2.o.1.old H1.o.2.1.toKr H1.o.2.2 H1.o.2.2.size;have R3:=ai (λV (hV:Below (w2.alloc (.cells #[I f0,I f1] 75)).heap.size (w2.alloc (.cells #[I f0,I f1] 75)) V)=>And.intro (And.intro (aU X (B.trans (hV.mono B.size)) (aQ X)) (aU N (B.trans (hV.mono B.size)) (aQ N))) (EC.o.trans ((B.trans (hV.mono B.size)).mono EC.o.size)));have A:=ai B;have a9:=aQ N;clear R1 X N Ck B;generalize w2.alloc (.cells #[I f0,I f1] 75)=W3 at R3 A x ⊢;by_cases hf:f0=0
   case neg =>
    have ab:(f0 != 0)=true:=by simpa using hf
    go_upto_region 6 with fail;have Q3:=ai (R3.o _ (aN _ _));have y:=o5 Q3.out.1.1;have f:=bG Q3.out.1.1;have z:=xZ Q3.out.1.2;have g:=bG Q3.out.1.2;go_region;go_wp2;obtain rfl:=HA.o.trans (aC hf);exact KT Q3.out.1 (λU hU=>yg _ (aH.below (cD.o.trans (Q3.out.2.mono cD.o.size)) hU (eJ cD.o.size Q3.out.2.size) (λb e=>ω))) (hV:=.inr rfl)
   subst hf;obtain⟨h1,_,_,⟨g1,g2,g3,g4⟩,_,_,_,_,a6⟩:=K.o rfl;obtain⟨Z,a1,a3⟩:=M.o rfl;obtain rfl:f1=0:=dC Prod.snd h1;obtain⟨a8,hh⟩:=H2.o;obtain⟨rfl,C3,R⟩:=hh rfl;have L:=ai (RY _ S2 W3 (bg k j ad (d.size:Int) 1).1 av cv (R.below A.o) (C3.ch (cO.below A.o)) g3 g2 g4 g1);change Hid (Calls _ _ _ _ λe w'=>e=.returned (.string (jo (bg k j ad (d.size:Int) 1).2.frames (bg k j ad (d.size:Int) 1).1 (bg k j ad (d.size:Int) 1).1.length))/\w'=W3) at L;have W:=ai (λV (hV:Below W3.heap.size W3 V)=>a3 mb Y S2 V av cv (R.below (A.o.trans (hV.mono A.o.size))) (C3.ch (cO.below (A.o.trans (hV.mono A.o.size)))));have a4:=ai (λV U (hV:Below W3.heap.size W3 V) (hk:bR WB.heap.size mb 158 (mC k) U S2 (aY (nX k j ad d) Y)) (hc:cO S2 V S2 U)=>And.intro (And.intro (hc.keep (R3.o V hV).1.1 HN.o.1) (hc.keep (R3.o V hV).1.2 HN.o.2)) (Dg (D:=λb=>b=w.heap.size+1\/b=w.heap.size+1+1) hk H1.o.1 Z cD.o (hc.old (R.below (A.o.trans (hV.mono A.o.size))).toKr (R3.o V hV).2 (R3.o V hV).2.size) (λb e=>ω)));have Q:=ai a1;generalize gB (jo (bg k j ad (d.size:Int) 1).2.frames (bg k j ad (d.size:Int) 1).1 (bg k j ad (d.size:Int) 1).1.length) (ad%16).toNat d=LD at W Q;generalize jo (bg k j ad (d.size:Int) 1).2.frames (bg k j ad (d.size:Int) 1).1 (bg k j ad (d.size:Int) 1).1.length=JD at L Q;generalize (bg k j ad (d.size:Int) 1).1.length=nv at L W ⊢;generalize (ad%16).toNat=md at Q a6;clear h1 Z g1 g2 g3 g4 a8 hh C3 R K uP a1 a3 M;go_wp2_with (first
    | (go_at_call 273;refine L.o.mono ?_;rintro e w4 ⟨rfl,rfl⟩)
    | (go_at_call 124;refine(Q.o _).mono ?_;rintro e w5 ⟨rfl,h⟩;have H5:=ai h;clear h x)
    | (go_at_call 278;refine(W.o _ H5.o).mono ?_;rintro e w6 ⟨rfl,h⟩;have H6:=ai (a4.o _ _ H5.o h.1 h.2);clear h;obtain⟨aS,nS,cS,aF,nF,cF,aL,nL,cL,aP,cP,hd,q,T⟩:=H6.o.2;have Aw:=ai T;clear T;have y:=o5 H6.o.1.1;have f:=bG H6.o.1.1;have z:=xZ H6.o.1.2;have g:=bG H6.o.1.2))
   obtain rfl:=HA.o.trans (aB (λg=>g rfl));exact KT H6.o.1 (Aw.o _)
 rw[show qm k sp ad d=(kg,(0,0),jl k sp (d.size:Int) 1 [1]) by unfold qm;grind] at hP;have HP:=ai hP;have Ex:=ai (Jc k a sp (d.size:Int) 1 [1] (some (Ad WA.heap.size 0)) 1 WB (hK.below J) hF hsp F ξ c);rw[show([1]:List Int).length=1 from rfl] at Ex;generalize jl k sp (d.size:Int) 1 [1]=C at Ex HP c;have cb:(C != 0)=true:=by grind
 unfold br at Ex Au ⊢;clear hK hF hsp had c hP pU hWB O J kb rb F G C4;go_enter func265,ntmps265;go_upto_region 1 with fail;rw[Au.o];go_upto_region 3 with(go_at_call 271;rw[a2.o];refine Ex.o.mono ?_;rintro e w1 ⟨rfl,h⟩;have iJ:=ai (cD.o.trans (h.mono cD.o.size));have Q3:=ai (RB.o _ h);clear h);have y:=o5 Q3.out.1;have f:=bG Q3.out.1;have z:=xZ Q3.out.2;have g:=bG Q3.out.2;go_wp2;obtain rfl:=HP.o;exact KT Q3.out (λU hU=>yg _ (aH.below iJ.o hU iJ.o.size (λb e=>ω)))
open Go.RowKit
theorem ahP {k k':aT} (h:aW k) (h':aW k') (np:k'.aj.length=k.aj.length) (lv:∀j,j<k.aj.length->(ak k'.aj j).live=(ak k.aj j).live) (sp:Int):dw k' sp=dw k sp:=by
 unfold dw;rw[aC ((qa k).2 h),aC ((qa k').2 h'),np];by_cases c:0<=sp/\sp<(k.aj.length:Int)
 . rw[lv sp.toNat ω]
 rw[aB (λg=>c ⟨g.1,g.2.1⟩),aB (λg=>c ⟨g.1,g.2.1⟩)]
theorem aeX {k k':aT} (h:aW k) (h':aW k') (np:k'.aj.length=k.aj.length) (lv:∀j,j<k.aj.length->(ak k'.aj j).live=(ak k.aj j).live) (ar:∀j,j<k.aj.length->(ak k'.aj j).aJ=(ak k.aj j).aJ) (pk:∀j,j<k.aj.length->∀p,b7 k' j p=b7 k j p) (sp p:Int):qw k' sp p=qw k sp p:=by
 unfold qw;rw[ahP h h' np lv];by_cases c:dw k sp=0
 . rw[aC c,aC c];have:=(uy c).2.2.1;rw[ar _ this,pk _ this]
 rw[aB c,aB c]
theorem Wk {k:aT} (h:aW k) {hs:List bC} (s:cZ k.aR hs) (sp p:Int):qw (aY k hs) sp p=qw k sp p:=aeX h (h.CZ s) rfl (λ_ _=>rfl) (λ_ _=>rfl) (λj _ p=>EZ s j p) sp p
theorem Wm {k:aT} (h:aW k) {hs:List bC} (s:cZ k.aR hs):gu (aY k hs)=0:=(qa _).2 (h.CZ s)
open Go.RowKit
def wX (k:aT) (sp:Int):aT×Int:=if dw k sp≠0 then (kg,dw k sp) else (mE k sp.toNat,0)
theorem abI (e:bJ) (w:World):Calls prog 269 #[.agg #[I e.page,I e.kind,I e.loc]] w λr w'=>r=.returned (.bool true)/\Below w.heap.size w w':=by
 go_enter func269,ntmps269;go_wp2;go_ret;simp[aN,sI]
theorem aeA (C4:uj) (k:aT) (a:jC) (sp:Int) (w:World) (hK:ju w a k) (hF:pY k) (hsp:cH sp) :
  Calls prog 260 #[.agg (br a k),I sp] w (fL w (wX k sp).1 [I (wX k sp).2]):=by
 obtain⟨WA,pU,B,kb,Z,rb⟩:=Ur w (br a k) 30;obtain⟨k0,k1,k2,k3,k4⟩:=o5 kb;have Au:=ai pU;have fU:=ai B;have RB:=ai rb;have J:=yh k a sp WA (hK.below B) hF hsp;generalize hP:fL w (wX k sp).1 [I (wX k sp).2]=P;by_cases c:dw k sp=0
 . obtain⟨hR,U,hj,_⟩:=uy c;obtain⟨j,rfl⟩:∃j:Nat,sp=(j:Int):=⟨sp.toNat,ω⟩;rw[show wX k (j:Int)=(mE k j,0) by grind [wX]] at hP;have HP:=ai hP;rw[jW] at hj;have HJ:=ai hj;have Y:Hid ((mE k j).aR=k.aR):=(oO k j (λ_=>true)).1;have X:=ai (VJ C4 hK hF hR B);have Ex:=ai (Dj J c);have W:Hid (∀V S mb hs,cZ k.aR hs->bR WA.heap.size mb 158 (mC k) V S (aY k hs)->Calls prog 268 #[.pointer (some (Ad mb 0)),I (j:Int),.func (.func 269) #[] #[]] V (fZ WA.heap.size mb 158 (mC k) V S (.tuple #[]) (aY (df k j (λ_=>true)) hs))):=λV S mb hs hsame hV=>by
    rw[<- xG];exact ET 269 [] 0 (.inr (.inr ⟨rfl,rfl⟩)) (aY k hs) S V j (λ_=>true) hV (hR.CZ hsame) hj (λV' e _=>abI e V')
   unfold br at Ex Au ⊢;clear hK hF hsp c hP pU B kb rb J hR hj U C4;go_enter func260,ntmps260;go_upto_region 1 with fail;rw[Au.o];go_upto_region 6 with(first
    | (go_at_call 76;refine Ex.o.mono ?_;rintro e w1 ⟨mb,rfl,h⟩;have H1:=ai h;clear h)
    | (go_at_call 267;refine(X.o _ _ H1.o.2.2 H1.o.1 H1.o.2.1).mono ?_;rintro e w2 ⟨rfl,S,hs,h⟩;have H2:=ai h;clear h)
    | (go_at_call 268;refine(W.o _ _ _ _ H2.o.1 H2.o.2.1).mono ?_;rintro e w3 ⟨rfl,S',h⟩;have H3:=ai h;clear h))
   obtain⟨Q,uR,_,_,L⟩:=H2.o;obtain⟨G,R⟩:=H3.o;have F:j<(aY (df k j (λ_=>true)) hs).aj.length:=by
    show j<(df k j (λ_=>true)).aj.length;rw[ij,dE];exact HJ.o
   obtain⟨pb,cP,A⟩:=G.toKr.sp ω;have hz:=G.zero F A.v;have O:Below WA.heap.size WA w3:=aH.below L R.kp L.size (λb hb=>(uR.CT b hb).1);have M:=aH.below O hz.2.kp O.size (λb hb=>(G.CT b hb).1);obtain⟨aS,nS,cS,aF,nF,cF,aL,nL,cL,aP,a0,hd,q,K⟩:=Dg (k':=mE k j) (D:=λb=>b=w.heap.size+1) hz.1 Q Y.o fU.o M (λb e=>ω);have Aw:=ai K;have R3:=ai (RB.o _ M);have HQ:=ai q;have c3:=G.c3;rw[A.v] at c3;have T:(j:Int)<((aY (df k j (λ_=>true)) hs).aj.length:Int):=by omega
   have x0:=A.x0 j F;have x1:=A.x1 j F;have x2:=A.x2 j F;have fz:=A.fz;generalize (aY (df k j (λ_=>true)) hs).aj.length=N at c3 T;clear Q uR L G R F A hz O M K q;go_upto_region 7 with fail;generalize (((w3.setCell (Ad pb (j*3)) (.bool false)).setCell (Ad pb (j*3+1)) Nl).setCell (Ad pb (j*3+2)) Nl)=W3 at R3 Aw HQ ⊢;clear x0 x1 x2 fz c3;have q:=HQ.o;have y:=o5 R3.o;have f:=bG R3.o;go_wp2;obtain rfl:=HP.o;exact Us R3.o (Aw.o _)
 rw[show wX k sp=(kg,dw k sp) by grind [wX]] at hP;have HP:=ai hP;have Ex:=ai (Ek J c);generalize dw k sp=C at Ex HP c;have cb:(C != 0)=true:=by grind
 unfold br at Ex Au ⊢;clear hK hF hsp c hP pU B kb rb J C4;go_enter func260,ntmps260;go_upto_region 1 with fail;rw[Au.o];go_upto_region 3 with(go_at_call 76;refine Ex.o.mono ?_;rintro e w1 ⟨rfl,h⟩;have R1:=ai (RB.o _ h);have Cc:=ai (fU.o.trans (h.mono fU.o.size));clear h);have y:=o5 R1.o;have f:=bG R1.o;go_wp2;obtain rfl:=HP.o;exact Dh R1.o Cc.o
open Go.RowKit
theorem aex (l:List aX) (ao:Option Addr) (n cap:Nat) (page aD q:Int) (x y z:Nat) (w:World) (h:gD w (.slice ao n cap) l) (hf:dQ l) (hp:cH page) (hn:cH aD) (hx:w.cell? (Ad x 0)=some (I page)) (hy:w.cell? (Ad y 0)=some (I aD)) (hz:w.cell? (Ad z 0)=some (I q)) :
  Calls prog 275 #[.slice ao n cap,.pointer (some (Ad x 0)),.pointer (some (Ad y 0)),.pointer (some (Ad z 0))] w λe w'=>∃ar nr cr,e=.returned (.tuple #[.slice ar nr cr,I (dZ l page aD q).2])/\eB w.heap.size w' (.slice ar nr cr) (dZ l page aD q).1/\Below w.heap.size w w':=by
 have HM:Hid (Calls prog 115 #[.slice ao n cap,I page,I aD,I q] w λe w'=>∃ar nr cr,e=.returned (.tuple #[.slice ar nr cr,I (dZ l page aD q).2])/\eB w.heap.size w' (.slice ar nr cr) (dZ l page aD q).1/\Below w.heap.size w w'):=(Np l (.slice ao n cap) page aD q w h hf hp hn).mono λe w' ⟨r,h1,h2,h3⟩=>by
  obtain⟨ar,cr,er,_⟩:=aZ h2
  grind
 clear h hf hp hn;go_enter func275,ntmps275;go_wp2_with (go_at_call 115;refine HM.o.mono ?_;rintro e w1 ⟨ar,nr,cr,rfl,h2,h3⟩;have H2:=ai h2;have H3:=ai h3;clear h2 h3);refine b9 (v:=.tuple #[.slice ar nr cr,I (dZ l page aD q).2]) (by simp[results]) rfl ?_
 grind [Hid.o]
theorem Yj (l:List aX) (ao:Option Addr) (n cap:Nat) (page aD:Int) (x y:Nat) (w:World) (h:gD w (.slice ao n cap) l) (hf:dQ l) (hp:cH page) (hn:cH aD) (hx:w.cell? (Ad x 0)=some (I page)) (hy:w.cell? (Ad y 0)=some (I aD)) :
  Calls prog 279 #[.slice ao n cap,.pointer (some (Ad x 0)),.pointer (some (Ad y 0))] w λe w'=>∃ar nr cr,e=.returned (.tuple #[.slice ar nr cr,I (cU l page aD).2])/\eB w.heap.size w' (.slice ar nr cr) (cU l page aD).1/\Below w.heap.size w w':=by
 have HM:Hid (Calls prog 280 #[.slice ao n cap,I page,I aD] w λe w'=>∃ar nr cr,e=.returned (.tuple #[.slice ar nr cr,I (cU l page aD).2])/\eB w.heap.size w' (.slice ar nr cr) (cU l page aD).1/\Below w.heap.size w w'):=(Qc l (.slice ao n cap) page aD w h hf hp hn).mono λe w' ⟨r,h1,h2,h3⟩=>by
  obtain⟨ar,cr,er,_⟩:=aZ h2
  grind
 clear h hf hp hn;go_enter func279,ntmps279;go_wp2_with (go_at_call 280;refine HM.o.mono ?_;rintro e w1 ⟨ar,nr,cr,rfl,h2,h3⟩;have H2:=ai h2;have H3:=ai h3;clear h2 h3);refine b9 (v:=.tuple #[.slice ar nr cr,I (cU l page aD).2]) (by simp[results]) rfl ?_
 grind [Hid.o]
theorem Tf (l:List aX) (ao:Option Addr) (n cap:Nat) (page aD q:Int) (x y z:Nat) (w:World) (h:gD w (.slice ao n cap) l) (hf:dQ l) (hp:cH page) (hn:cH aD) (hx:w.cell? (Ad x 0)=some (I page)) (hy:w.cell? (Ad y 0)=some (I aD)) (hz:w.cell? (Ad z 0)=some (I q)) :
  Calls prog 276 #[.slice ao n cap,.pointer (some (Ad x 0)),.pointer (some (Ad y 0)),.pointer (some (Ad z 0))] w λe w'=>∃ar nr cr,e=.returned (.tuple #[.slice ar nr cr,I (cu l page aD q).2])/\eB w.heap.size w' (.slice ar nr cr) (cu l page aD q).1/\Below w.heap.size w w':=by
 have HM:Hid (Calls prog 277 #[.slice ao n cap,I page,I aD,I q] w λe w'=>∃ar nr cr,e=.returned (.tuple #[.slice ar nr cr,I (cu l page aD q).2])/\eB w.heap.size w' (.slice ar nr cr) (cu l page aD q).1/\Below w.heap.size w w'):=(Km l (.slice ao n cap) page aD q w h hf hp hn).mono λe w' ⟨r,h1,h2,h3⟩=>by
  obtain⟨ar,cr,er,_⟩:=aZ h2
  grind
 clear h hf hp hn;go_enter func276,ntmps276;go_wp2_with (go_at_call 277;refine HM.o.mono ?_;rintro e w1 ⟨ar,nr,cr,rfl,h2,h3⟩;have H2:=ai h2;have H3:=ai h3;clear h2 h3);refine b9 (v:=.tuple #[.slice ar nr cr,I (cu l page aD q).2]) (by simp[results]) rfl ?_
 grind [Hid.o]
theorem Yk (l:List aX) (ao:Option Addr) (n cap:Nat) (e:bJ) (x:Nat) (w:World) (hx:w.cell? (Ad x 0)=some (.slice ao n cap)) (h:gD w (.slice ao n cap) l) (hf:dQ l) :
  Calls prog 285 #[.agg #[I e.page,I e.kind,I e.loc],.pointer (some (Ad x 0))] w λr w'=>r=.returned (.bool (jg l e))/\Below w.heap.size w w':=by
 obtain⟨WA,pU⟩:=ex (w.alloc (.cells #[I e.page,I e.kind,I e.loc] 174));have hb:Below w.heap.size w WA:=by grind [Below.refl,Below.alloc]
 have q:x<w.heap.size:=jL w _ hx;have xA:WA.cell? (Ad x 0)=some (.slice ao n cap):=(hb.cell (p:=(Ad x 0)) q).trans hx;have BN:WA.heap[w.heap.size]?=some (.cells #[I e.page,I e.kind,I e.loc] 174 (0,0)):=by grind [bH]
 have e0:WA.cell? (Ad w.heap.size 0)=some (I e.page):=aA BN 0 rfl;have HF:=ai (yq l (.slice ao n cap) e.page WA (h.below hb) hf);have HB:=ai hb;have Au:=ai pU;unfold jg;generalize aV l e.page=r at HF ⊢;obtain⟨⟨pg,ps,pr,zr⟩,ok⟩:=r;have y:Hid (Calls prog 77 #[.slice ao n cap,I e.page] WA λe w'=>e=.returned (.tuple #[.agg #[I pg,I ps,I pr,.bool zr],.bool ok])/\Below WA.heap.size WA w'):=HF.o;clear pU hb BN hx h hf HF;go_enter func285,ntmps285;go_upto_region 1 with fail;rw[<- Au.o];go_wp2_with (go_at_call 77;refine y.o.mono ?_;rintro e w1 ⟨rfl,b⟩;have cD:=ai (HB.o.trans (b.mono HB.o.size));clear b);go_ret;exact⟨ξ,cD.o.alloc cD.o.size _⟩
open Go.RowKit
def kF (k:aT) (sp:Int) (r:List aX×Int):aT×Int:=if dw k sp≠0 then (kg,dw k sp) else if r.2≠0 then (kg,r.2) else if eU k.aj-bf (ak k.aj sp.toNat).aJ+bf r.1>(k.slots.length:Int) then (kg,8) else (iN k sp.toNat r.1,0)
theorem RP (C4:uj) (k:aT) (a:jC) (sp:Int) (w:World) (hK:ju w a k) (hF:pY k) (hsp:cH sp) (r:List aX×Int) (Rl:dQ r.1) (F:FuncId) (E:List Value) (x y z:Nat)
  (hFE:(F=275/\E=[.pointer (some (Ad x 0)),.pointer (some (Ad y 0)),.pointer (some (Ad z 0))])\/(F=279/\E=[.pointer (some (Ad x 0)),.pointer (some (Ad y 0))])\/(F=276/\E=[.pointer (some (Ad x 0)),.pointer (some (Ad y 0)),.pointer (some (Ad z 0))]))
  (hC:∀V ao cap,Below w.heap.size w V->gD V (.slice ao (ak k.aj sp.toNat).aJ.length cap) (ak k.aj sp.toNat).aJ->dQ (ak k.aj sp.toNat).aJ->Calls prog F (Value.slice ao (ak k.aj sp.toNat).aJ.length cap::E).toArray V λe w'=>∃ar nr cr,e=.returned (.tuple #[.slice ar nr cr,I r.2])/\eB V.heap.size w' (.slice ar nr cr) r.1/\Below V.heap.size V w') :
  Calls prog 274 #[.agg (br a k),I sp,.func (.func F) #[] E.toArray] w (fL w (kF k sp r).1 [I (kF k sp r).2]):=by
 obtain⟨WA,pU,B,kb,ay,rb⟩:=Ur w (br a k) 30;obtain⟨k0,k1,k2,k3,k4⟩:=o5 kb;have Au:=ai pU;have fU:=ai B;have RB:=ai rb;have O:=yh k a sp WA (hK.below B) hF hsp;obtain⟨r1,C⟩:=r;simp only at Rl hC;generalize hP:fL w (kF k sp (r1,C)).1 [I (kF k sp (r1,C)).2]=P;by_cases c:dw k sp=0
 . obtain⟨hR,af,hj,_⟩:=uy c;obtain⟨j,rfl⟩:∃j:Nat,sp=(j:Int):=⟨sp.toNat,ω⟩;rw[jW] at hj hC;have ae:=ai (VJ C4 hK hF hR B);have Ex:=ai (Dj O c);have zE:∀{V:World},Below WA.heap.size WA V->Below w.heap.size w V:=λhV=>B.trans (hV.mono B.size)
   obtain⟨pb,po,a4,ah,Xv⟩:=hK.aj ω;obtain⟨va,ap,cp,v0,v1,v2,L,a8,_⟩:=Xv j hj;obtain⟨aa,ca,rfl,_⟩:=id L;have ab:=GX k.aj k.aj.length;have ac:=hR.c;have J:=(hF.sp j hj).aJ;have HJ:=ai hj;have aw:(j:Int)<(k.aj.length:Int):=by omega
   have HA:Hid (P=if C≠0 then fL w kg [I C] else if (k.slots.length:Int)<eU k.aj-bf (ak k.aj j).aJ+bf r1 then fL w kg [I 8] else fL w (iN k j r1) [I 0]):=by
    rw[<- hP];unfold kF;rw[aB (λg=>g c),jW];split
    . rfl
    split <;> rfl
   have QT:=ai (λV (hV:Below WA.heap.size WA V)=>hC V aa ca (zE hV) (L.below (zE hV)) J);have M:=ai (λV (hV:Below WA.heap.size WA V)=>rW _ _ V (L.below (zE hV)) J);have a7:=ai (λV (hV:Below WA.heap.size WA V)=>((zE hV).cell (p:=(Ad pb (po+j*3+1))) ah).trans v1);have au:Hid (ak (df k j (jg r1)).aj j=eD (ak k.aj j) (fB (ak k.aj j).bh (jg r1))):=by
    rw[ij];exact fh _ _ _ _ hj
   have ag:=rA (ak k.aj j).aJ;have HM:Hid (∀(V:World) mb,V.heap[mb]?=some (.cells (rB a k) 158 (0,0))->V.cell? (Ad mb 3)=some (.slice (some (Ad pb po)) k.aj.length a.cP)/\V.cell? (Ad mb 2)=some (.slice a.aL k.slots.length a.cL)):=λV mb h=>⟨a4 ▸ aA h 3 rfl,aA h 2 rfl⟩
   have U:=ai (λV mb (hV:Below WA.heap.size WA V) (hm:V.heap[mb]?=some (.cells (rB a k) 158 (0,0)))=>GY k.aj a.aP a.cP mb V (hK.aj.below (zE hV)) (λi hi=>(hF.sp i hi).aJ) ω (aA hm 3 rfl));have al:Hid ((iN k j r1).aR=k.aR):=(sY k hj r1).1;have ad:Hid (∀V S mb hs xb ar nr cr,cZ k.aR hs->bR WA.heap.size mb 158 (mC k) V S (aY k hs)->S.lab xb=.no->V.heap[xb]?=some (.cells #[.slice ar nr cr] 22 (0,0))->eB WA.heap.size V (.slice ar nr cr) r1->(∀b,cA (.slice ar nr cr) b->S.lab b=.no)->Calls prog 268 #[.pointer (some (Ad mb 0)),I (j:Int),.func (.func 285) #[] #[.pointer (some (Ad xb 0))]] V (fZ WA.heap.size mb 158 (mC k) V S (.tuple #[]) (aY (df k j (jg r1)) hs))):=λV S mb hs xb ar nr cr hsame hV lx bx ox lr=>by
    rw[<- xG];exact ET 285 [.pointer (some (Ad xb 0))] xb (.inr (.inl ⟨rfl,rfl⟩)) (aY k hs) S V j (jg r1) hV (hR.CZ hsame) hj (λV' e hV'=>Yk r1 ar nr cr e xb V' (aA (hV'.keep bx (λg=>g lx)) 0 rfl) (eB.has (hV'.row ox (λb hb g=>g (lr b hb)))) Rl)
   have R:Hid (∀V ar nr cr,gD V (.slice ar nr cr) r1->Calls prog 70 #[.slice ar nr cr] V λe w'=>e=.returned (I (bf r1))/\Below V.heap.size V w'):=λV ar nr cr h=>rW _ _ V h Rl
   have a9:=rA r1;have UG:0<=eU k.aj/\eU k.aj<=65025*4:=by
    unfold eU;omega
   generalize (ak k.aj j).aJ.length=na at QT M a7;generalize bf (ak k.aj j).aJ=T1 at M ag HA;generalize bf r1=T2 at R a9 HA;generalize eU k.aj=RM at U UG HA;unfold br at Ex Au ⊢;clear hK hF hsp c hP pU B kb rb O hR af hj Xv v0 v1 v2 L a8 J a4 ac ab zE C4 hC Rl;rcases hFE with⟨rfl,rfl⟩ | ⟨rfl,rfl⟩ | ⟨rfl,rfl⟩
   all_goals
    go_enter func274,ntmps274;go_upto_region 1 with fail;rw[Au.o];go_upto_region 6 with(first
     | (go_at_call 76;refine Ex.o.mono ?_;rintro e w1 ⟨mb,rfl,h⟩;have H1:=ai h;have m:=HM.o _ _ h.2.1;have u:=a7.o _ h.2.2;clear h)
     | ((first | go_at_call 275 | go_at_call 279 | go_at_call 276);refine(QT.o _ H1.o.2.2).mono ?_;rintro e w2 ⟨ar,nr,cr,rfl,h⟩;have H2:=ai h;clear h))
    have M2:=ai (aU H1.o.2.1 H2.o.2 (aQ H1.o.2.1));have ou:=ai ((H1.o.2.2.trans (H2.o.2.mono H1.o.2.2.size)).alloc (eJ H1.o.2.2.size H2.o.2.size) (.cells #[.slice ar nr cr] 22));have B3:=ai (bH w2 #[.slice ar nr cr] 22);have O3:Hid (eB WA.heap.size (w2.alloc (.cells #[.slice ar nr cr] 22)) (.slice ar nr cr) _):=(aH.alloc (λ_=>False) _ _).row (H2.o.1.mono H1.o.2.2.size) (λ_ _ g=>g);have M3:=ai (bu M2.out (.cells #[.slice ar nr cr] 22));have Nb:Hid (w2.heap.size≠mb):=(show w2.heap.size≠mb from λe=>by have:=aQ M2.out;omega);have a2:Hid (∀b,cA (.slice ar nr cr) b->b≠mb):=(show ∀b,cA (.slice ar nr cr) b->b≠mb from λb hb e=>by have:=(H2.o.1.lt b hb).1;have:=aQ H1.o.2.1;omega);generalize w2.alloc (.cells #[.slice ar nr cr] 22)=W3 at ou B3 O3 M3 ⊢;generalize w2.heap.size=xb at B3 Nb ⊢;clear m u;have a5:=ai (λV (hV:Below W3.heap.size W3 V)=>And.intro (RB.o _ (ou.o.trans (hV.mono ou.o.size))) (fU.o.trans ((ou.o.trans (hV.mono ou.o.size)).mono fU.o.size)));by_cases cm:C=0
    case neg =>
     have cb:(C != 0)=true:=by simpa using cm
     have R1:=ai (a5.o _ (aN _ _));have y:=o5 R1.o.1;have f:=bG R1.o.1;go_wp2;obtain rfl:=HA.o.trans (aC cm);exact Dh R1.o.1 R1.o.2
    subst cm;go_upto_region 8 with fail;have Fs:=kf W3;have q1:∀x:ed W3.heap.size W3,x.world.cell? (Ad xb 0)=some (.slice ar nr cr):=λx=>aA (aU B3.o x.keeps (aQ B3.o)) 0 rfl
    have q2:∀x:ed W3.heap.size W3,x.world.cell? (Ad mb 2)=some (.slice a.aL k.slots.length a.cL):=λx=>(HM.o _ _ (aU M3.out x.keeps (aQ M3.out))).2
    have Y:=ai (λV (hV:Below W3.heap.size W3 V)=>U.o V mb (ou.o.trans (hV.mono ou.o.size)) (aU M3.out hV (aQ M3.out)));have a1:=ai (λV (hV:Below W3.heap.size W3 V)=>M.o V (ou.o.trans (hV.mono ou.o.size)));have W:=ai (λV (hV:Below W3.heap.size W3 V)=>R.o V ar nr cr (eB.has ((aH.bQ (D:=λ_=>False) hV).row O3.o (λ_ _ g=>g))));refine eT κ κ ?_
    repeat (first | go_big_quiet_step ((first | (go_at_call 143;exact ma _ Y.o) | (go_at_call 70;with_reducible exact ma _ a1.o) | (go_at_call 70;with_reducible exact ma _ W.o))) | quiet_step ((first | (go_at_call 143;exact ma _ Y.o) | (go_at_call 70;with_reducible exact ma _ a1.o) | (go_at_call 70;with_reducible exact ma _ W.o))))
    refine mM ?_;rintro _ ⟨X,rfl⟩;clear Fs q2 q1 Y a1 W U M R;by_cases cr':(k.slots.length:Int)<RM-T1+T2
    . have R1:=ai (a5.o _ X.keeps);have y:=o5 R1.o.1;have f:=bG R1.o.1;go_wp2;obtain rfl:=HA.o.trans ((aB (λg=>g rfl)).trans (aC cr'));exact Dh R1.o.1 R1.o.2
    have jc:=ai (ou.o.trans (X.keeps.mono ou.o.size));have MX:=ai (aU M3.out X.keeps (aQ M3.out));have BX:=ai (aU B3.o X.keeps (aQ B3.o));have OX:=ai ((aH.bQ (D:=λ_=>False) X.keeps).row O3.o (λ_ _ g=>g));generalize X.world=WX at jc MX BX OX ⊢;go_upto_region 12 with(first
     | (go_at_call 267;refine(ae.o _ _ jc.o H1.o.1 MX.o).mono ?_;rintro e w4 ⟨rfl,S,hs,h⟩;have H4:=ai h;clear h)
     | (go_at_call 268
        have LF:Hid (S.lab xb=.no/\w4.heap[xb]?=some (.cells #[.slice ar nr cr] 22 (0,0))/\eB WA.heap.size w4 (.slice ar nr cr) r1/\∀b,cA (.slice ar nr cr) b->S.lab b=.no):=by
         obtain⟨_,_,a3,yz,_⟩:=H4.o;have Ul:=aQ BX.o;exact⟨D7.1 λg=>(a3 _ g).elim Nb.o ω,yz.keep BX.o Nb.o,yz.row OX.o a2.o,λb hb=>D7.1 λg=>(a3 _ g).elim (a2.o b hb) (by have:=(OX.o.lt b hb).2;omega)⟩
        refine(ad.o _ _ _ _ _ _ _ _ H4.o.1 H4.o.2.1 LF.o.1 LF.o.2.1 LF.o.2.2.1 LF.o.2.2.2).mono ?_;rintro e w5 ⟨rfl,S',h⟩;have H5:=ai h;clear h))
    obtain⟨K,G⟩:=H5.o;obtain⟨lx,bx,ox,lr⟩:=LF.o;have Z:j<(aY (df k j (jg r1)) hs).aj.length:=by
     show j<(df k j (jg r1)).aj.length;rw[ij,dE];exact HJ.o
    obtain⟨an,cP,A⟩:=K.toKr.sp ω;have a6:eB WA.heap.size w5 (.slice ar nr cr) r1:=G.kp.row ox (λb hb g=>g (lr b hb));have hz:=K.alO Z A.v a6 (λb hb=>G.no b (ox.lt b hb).2 (lr b hb));rw[show ak (aY (df k j (jg r1)) hs).aj j=_ from au.o] at hz;have a0:Below WA.heap.size WA w5:=aH.below H4.o.2.2.2.2 G.kp H4.o.2.2.2.2.size (λb hb=>(H4.o.2.1.CT b hb).1);have T:=(aH.below a0 hz.2 a0.size (λb hb=>(K.CT b hb).1)).drew;obtain⟨aS,nS,cS,aF,nF,cF,aL,nL,cL,aP,az,hd,q,Q⟩:=Dg (k':=iN k j r1) (D:=λb=>b=w.heap.size+1) (bR.below hz.1 (aN _ _).drew) H4.o.1 al.o fU.o T (λb e=>ω);have Aw:=ai Q;have R3:=ai (RB.o _ T);have HQ:=ai q;have c3:=K.c3;rw[A.v] at c3;have av:=aA (G.keep bx lx) 0 rfl;have am:(j:Int)<((aY (df k j (jg r1)) hs).aj.length:Int):=by omega
    have x1:=A.x1 j Z;have fz:=A.fz;generalize (aY (df k j (jg r1)) hs).aj.length=N at c3 am;clear K G lx bx ox lr Z A a6 hz a0 T Q q;go_region;go_upto_region 13 with fail;generalize (w5.setCell (Ad an (j*3+1)) (.slice ar nr cr)).drew=W3 at R3 Aw HQ ⊢;have q:=HQ.o;have y:=o5 R3.o;have f:=bG R3.o;go_wp2;obtain rfl:=HA.o.trans ((aB (λg=>g rfl)).trans (aB (Int.not_lt.2 cr')));exact Us R3.o (Aw.o _)
 rw[show kF k sp (r1,C)=(kg,dw k sp) by grind [kF]] at hP;have HP:=ai hP;have Ex:=ai (Ek O c);generalize dw k sp=C at Ex HP c;have cb:(C != 0)=true:=by grind
 unfold br at Ex Au ⊢;clear hK hF hsp c hP pU B kb rb O C4 hC Rl hFE;go_enter func274,ntmps274;go_upto_region 1 with fail;rw[Au.o];go_upto_region 3 with(go_at_call 76;refine Ex.o.mono ?_;rintro e w1 ⟨rfl,h⟩;have R1:=ai (RB.o _ h);have Cc:=ai (fU.o.trans (h.mono fU.o.size));clear h);have y:=o5 R1.o;have f:=bG R1.o;go_wp2;obtain rfl:=HP.o;exact Dh R1.o Cc.o
open Go.RowKit
theorem LN {l:List aX} {hs:List bC} {en:Int} (h:gU l hs en=0):bj l=0/\iG hs=true/\(hs.length:Int)=bf l:=by
 rw[LI] at h;unfold KQ at h;by_cases c:bj l=0
 . rw[aC c] at h;by_cases d:(decide ((hs.length:Int)=mL l l.length)&&(iG hs&&(Cq l hs hs.length&&Ct l en)))=true
   . simp only[cK,fX] at d;refine⟨c,d.2.1,?_⟩;unfold bf;rw[aC c];exact d.1
   rw[aB d] at h;cases h
 rw[aB c] at h;exact absurd h c
def pj (l:List aX) (hs:List bC) (nf ns:Int):aT:=⟨hs,List.replicate nf.toNat fN,List.replicate ns.toNat jm,[⟨true,l,[]⟩],0⟩
def px (l:List aX) (hs:List bC) (en nf ns:Int):aT×Int:=if gU l hs en≠0 then (kg,gU l hs en) else if nf<3 then (kg,9) else if nf>64\/ns<0\/ns>512 then (kg,3) else if bf l>ns then (kg,8) else (pj l hs nf ns,0)
def VH (n:Nat):Array Value:=madeCells #[.string ⟨#[]⟩,I 0,.bool false,.bool false] (n*4)
def VG (n:Nat):Array Value:=madeCells #[.string ⟨#[]⟩,I 0] (n*2)
theorem amA:(prog.info? 169).map (λi=>(i.zero,i.size,i.bytes))=some (some (.agg #[.string ⟨#[]⟩,I 0,.bool false,.bool false]),4,32):=by kernel_rfl
theorem amz:(prog.info? 171).map (λi=>(i.zero,i.size,i.bytes))=some (some (.agg #[.string ⟨#[]⟩,I 0]),2,24):=by kernel_rfl
theorem aq8 (V:World) (n:Int) (h0:0<=n) (hn:n<=1000):(Instr.makeSlice 26 (I n) (I n)).run prog V=.ok (.slice (some (Ad V.heap.size 0)) n.toNat n.toNat) (V.alloc (.cells (VH n.toNat) 169)):=by
 obtain⟨i0,hi,b,y,q⟩:=kI amA;have h:=run_make (P:=prog) V 26 169 i0 _ underlying26 hi b .i64 .i64 n n h0 (vM _) (by rw[q];omega) ω;rw[y] at h;exact h
theorem aq7 (V:World) (n:Int) (h0:0<=n) (hn:n<=1000):(Instr.makeSlice 27 (I n) (I n)).run prog V=.ok (.slice (some (Ad V.heap.size 0)) n.toNat n.toNat) (V.alloc (.cells (VG n.toNat) 171)):=by
 obtain⟨i0,hi,b,y,q⟩:=kI amz;have h:=run_make (P:=prog) V 27 171 i0 _ underlying27 hi b .i64 .i64 n n h0 (vM _) (by rw[q];omega) ω;rw[y] at h;exact h
theorem ZZ {α:Type} (x d:α) (n i:Nat) (hi:i<n):(List.replicate n x).getD i d=x:=by
 rw[cB,List.getElem?_replicate,aC hi];rfl
theorem VK (c:Array Value) (n i j m:Nat) (hc:c.size=m) (hi:i<n) (hj:j<m):(madeCells c (n*m))[i*m+j]?=c[j]?:=by
 have h1:i*m+j<n*m:=by
  have:(i+1)*m<=n*m:=aaW m hi;rw[uG,Nat.one_mul] at this;omega
 have h2:(i*m+j)%m=j:=by rw[Nat.mul_comm,Nat.mul_add_mod,Nat.mod_eq_of_lt hj]
 have h3:j<c.size:=by omega
 unfold madeCells;simp[h1,hc,h2];rw[getElem!_pos c j h3,ai0 h3]
theorem ahA {W:World} {l:List aX} {hs:List bC} {nf ns:Nat} {va:Value} {ao:Option Addr} {cap fb sb pb:Nat} (ha:gD W va l) (hh:kq W ao hs) (hf:W.heap[fb]?=some (.cells (VH nf) 169 (0,0))) (hl:W.heap[sb]?=some (.cells (VG ns) 171 (0,0))) (hp:W.heap[pb]?=some (.cells #[.bool true,va,Nl] 99 (0,0))) :
  ju W ⟨ao,cap,some (Ad fb 0),nf,some (Ad sb 0),ns,some (Ad pb 0),1⟩ ⟨hs,List.replicate nf fN,List.replicate ns jm,[⟨true,l,[]⟩],0⟩:=by
 refine⟨hh,λ_=>⟨fb,0,rfl,aQ hf,λi hi j hj=>?_⟩,λ_=>⟨sb,0,rfl,aQ hl,λi hi j hj=>?_⟩,λ_=>⟨pb,0,rfl,aQ hp,λi hi=>?_⟩⟩
 . rw[xu] at hi;rw[ZZ _ _ _ _ hi];have e:=VK #[.string ⟨#[]⟩,I 0,.bool false,.bool false] nf i j 4 rfl hi hj;rw[nj]
   match j,hj with
   | 0,_=>exact aA hf _ e
   | 1,_=>exact aA hf _ e
   | 2,_=>exact aA hf _ e
   | 3,_=>exact aA hf _ e
   | j+4,h=>exact absurd h ω
 . rw[xu] at hi;rw[ZZ _ _ _ _ hi];have e:=VK #[.string ⟨#[]⟩,I 0] ns i j 2 rfl hi hj;rw[nj]
   match j,hj with
   | 0,_=>exact aA hl _ e
   | 1,_=>exact aA hl _ e
   | j+2,h=>exact absurd h ω
 obtain rfl:i=0:=by
  have:i<1:=hi;omega
 exact⟨va,none,0,aA hp 0 rfl,aA hp 1 rfl,aA hp 2 rfl,ha,λh=>absurd h (iW _),aK _⟩
theorem abG {l:List aX} {hs:List bC} {en:Int} (h:gU l hs en=0) (nf ns:Nat) (hf:nf<=1000) (hn:ns<=1000):Jd ⟨hs,List.replicate nf fN,List.replicate ns jm,[⟨true,l,[]⟩],0⟩:=by
 obtain⟨h1,h2,h3⟩:=LN h;have h4:=rA l;have h5:=jF _ h1;refine⟨by show hs.length<=_;omega,λi hi=>?_,by show(List.replicate nf fN).length<=_;rw[xu];omega,by show(List.replicate ns jm).length<=_;rw[xu];omega,by show 1<=1000000;omega,λi hi=>?_,λi hi=>?_⟩
 . have:=LO h2 i hi;show(bk hs i).dR.length<=_;omega
 . obtain rfl:i=0:=by
    have:i<1:=hi;omega
   show l.length<=_;omega
 obtain rfl:i=0:=by
  have:i<1:=hi;omega
 exact yt _
open Go.RowKit
section
variable {P:Program} {ops:Array Oper} {Q:Exit->Act->World->Prop} {md:Region.Mode} {S:World->Prop} {z:Nat}
theorem ajL (i:Nat) {oi:Oper} {v:Value} {n:Nat} {l:Array Bool} {a:Act} {w:World} (hS:S w) (h:tW P md ops Q S z n (l.setIfInBounds i true) (a.put oi.dst v) w)
  (hi:ops[i]?=some oi:=by rfl) (hy:∀V,(execOp a.eval oi).run P V=.ok (.value v) V:=by(intro V;go_simp;try with_reducible rfl)) (hs:Region.noSelect ops=true:=by kernel_rfl) (hf:Region.free md ops l i=true:=by kernel_rfl) (hr:(Region.ready md ops l).contains i=true:=by kernel_rfl) (hw:FU md ops z i=true:=by kernel_rfl)
  (hwt:Region.wanted oi (yielded ops a.tmps)=true:=by rfl) (hQ:∀c a w,Q (.panic c) (a.put oi.dst v) w->Q (.panic c) a w:=by exact fun _ _ _ h=>h):tW P md ops Q S z (n+1) l a w :=
 acT hi hs hf hr hw hQ (Or.inl ⟨hwt,λV _=>hy V⟩) hS h
theorem xR (i:Nat) {o:Oper} {n:Nat} {l:Array Bool} {a:Act} {w:World} (h:∀K':Act->World->Prop,Shut (∀a w,(i≠z->S w)->tW P md ops Q S z n (l.setIfInBounds i true) a w->K' a w)->if Region.wanted o (yielded ops a.tmps)=true then Oper.wp P o a w K' Q else K' (a.put o.dst undef) w)
  (ho:ops[i]?=some o:=by rfl) (hr:Region.ready md ops l=[i]:=by kernel_rfl):tW P md ops Q S z (n+1) l a w:=oQ hr (by simp) (dW.cons ho h dW.nil)
end
theorem ak9 {α β γ δ:Type} {G:Prop} {T:α->β->γ->δ->Prop} {H:α->β->γ->δ->Prop} (h:(∀a b c d,H a b c d->T a b c d)->G) (t:∀a b c d,H a b c d->T a b c d):G:=h t
theorem ala {α β γ δ ε ζ η θ:Type} {G:Prop} {T H:α->β->γ->δ->ε->ζ->η->θ->Prop} (h:(∀a b c d e f g i,H a b c d e f g i->T a b c d e f g i)->G) (t:∀a b c d e f g i,H a b c d e f g i->T a b c d e f g i):G:=h t
end Go.Proofs.YtlgoihmkgaaemaaGreat
