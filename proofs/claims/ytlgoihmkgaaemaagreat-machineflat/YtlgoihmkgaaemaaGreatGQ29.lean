import Derived.Test.YtlgoihmkgaaemaaGreatGQ28
set_option maxHeartbeats 20000000
set_option linter.unusedVariables false
set_option maxRecDepth 100000
set_option linter.unusedSimpArgs false
namespace Go.Proofs.YtlgoihmkgaaemaaGreat
open Go.RowKit Tryz
theorem zG.at_ {lo cb:Nat} {w:World} {lab:Nat->qP} {aS:Option Addr} {m cS:Nat} {vF vL:Value} {k:aT} {hs:List bC} {n:Nat} (h:zG lo cb w lab (.slice aS m cS) vF vL k hs n) (hn:n<k.aR.length) :
  ∃sb,aS=some (Ad sb 0)/\¬cb=sb/\sb<w.heap.size/\w.cell? (Ad cb 0)=some (.slice aS m cS)/\w.cell? (Ad sb (n*3))=some (I (bk k.aR n).page)/\w.cell? (Ad sb (n*3+1))=some (.string (bk k.aR n).data)/\w.cell? (Ad sb (n*3+2))=some (.slice (bk k.aR n).ao (bk k.aR n).dR.length (bk k.aR n).cap)/\∀j,w.frozen? (Ad sb j)=false:=by
 have hl:=h.same.len;obtain⟨ao,cap,e,hc,hg⟩:=aZ h.aR;injection e with e1 e2 e3;subst e1 e2 e3;obtain⟨g,rfl,q,b⟩:=hg ω;have at_:=λj (hj:j<3)=>gw py (λ_=>rfl) GD h.aR n j ω hj
 have er:hs.getD n GD=bk k.aR n:=h.rest n (aK _);rw[er] at at_;exact⟨g,rfl,λe=>by have:=h.lS g rfl;grind [lH],b,aA h.head 0 rfl,at_ 0 ω,at_ 1 ω,at_ 2 ω,ie h.aR⟩
theorem Z2 (w:World) (xs:List Value) (e:TypeId):∀j u,xs[j]?=some u->(w.alloc (.cells xs.toArray e)).cell? (((Ad w.heap.size 0):Addr).add j)=some u:=λj u hu=>by
 grind [Addr.add_lit,aA,bH]
theorem ahB (l:List dA) (m:Nat) (h:m<l.length):l.take (m+1)=l.take m++[ak l m]:=by
 grind [List.take_add_one,ak]
theorem VM (k:aT) (a:jC) (w:World) (hK:ju w a k) (hs:Jd k) :
  Calls prog 79 #[.agg (br a k)] w (abJ w k):=by
 obtain⟨P,hP⟩:=ex (abJ w k);rw[<- hP];have HP:=ai hP;clear hP;have XF:=ai hK.aj;have Tu:=ai (Ej (f:=py) (n:=3) (λ_=>rfl) (akD hK.aR));have K5:=ai (Ej (f:=jI) (n:=4) (λ_=>rfl) hK.frames);have bp:=ai (Ej (f:=jH) (n:=2) (λ_=>rfl) hK.slots);obtain⟨WA,pU⟩:=ex ((w.alloc (.cells (br a k) 30)).alloc (.cells #[Nl,Nl,Nl,Nl,I 0] 30));have iQ:Hid (Below w.heap.size w WA):=by rw[pU];exact((aN _ _).alloc (aK _) _).alloc ξ _
 have KB:Hid (WA.heap[w.heap.size]?=some (.cells (br a k) 30 (0,0))):=by rw[pU];exact bu (bH w _ _) _
 have RB:Hid (WA.heap[w.heap.size+1]?=some (.cells #[Nl,Nl,Nl,Nl,I 0] 30 (0,0))):=by
  grind [World.alloc]
 have HS:Hid (∀V,Below WA.heap.size WA V->V.cell? (Ad w.heap.size 0)=some (.slice a.aS k.aR.length a.cS)/\V.cell? (Ad w.heap.size 1)=some (.slice a.aF k.frames.length a.cF)/\V.cell? (Ad w.heap.size 2)=some (.slice a.aL k.slots.length a.cL)/\V.cell? (Ad w.heap.size 4)=some (I k.hand)):=λV hb=>by
  have h1:=aU KB.o hb (aQ KB.o);exact⟨aA h1 0 rfl,aA h1 1 rfl,aA h1 2 rfl,aA h1 4 rfl⟩
 have bn:Hid (∀V,Below WA.heap.size WA V->Calls prog 131 #[.slice a.aS k.aR.length a.cS] V λe w'=>∃ad c,e=.returned (.slice ad k.aR.length c)/\w'.ownsRow V.heap.size 145 3 (.slice ad k.aR.length c) k.aR.length (k.aR.flatMap py)/\Below V.heap.size V w'):=λV hV=>(ait _ _ _ _ V (fp py 3 (λ_=>rfl) k.aR) (Tu.o.below (iQ.o.trans (hV.mono iQ.o.size))) (akE _) hs.aR).mono λe w' ⟨v,h1,h2,h3⟩=>by
  grind [aZ]
 have bb:Hid (∀V,Below WA.heap.size WA V->Calls prog 132 #[.slice a.aF k.frames.length a.cF] V λe w'=>∃ad c,e=.returned (.slice ad k.frames.length c)/\w'.ownsRow V.heap.size 169 4 (.slice ad k.frames.length c) k.frames.length (k.frames.flatMap jI)/\Below V.heap.size V w'):=λV hV=>(aiy _ _ _ _ V (fp jI 4 (λ_=>rfl) k.frames) (K5.o.below (iQ.o.trans (hV.mono iQ.o.size))) (akH _) hs.frames).mono λe w' ⟨v,h1,h2,h3⟩=>by
  grind [aZ]
 have WI:Hid (∀V,Below WA.heap.size WA V->Calls prog 133 #[.slice a.aL k.slots.length a.cL] V λe w'=>∃ad c,e=.returned (.slice ad k.slots.length c)/\w'.ownsRow V.heap.size 171 2 (.slice ad k.slots.length c) k.slots.length (k.slots.flatMap jH)/\Below V.heap.size V w'):=λV hV=>(ais _ _ _ _ V (fp jH 2 (λ_=>rfl) k.slots) (bp.o.below (iQ.o.trans (hV.mono iQ.o.size))) (akC _) hs.slots).mono λe w' ⟨v,h1,h2,h3⟩=>by
  grind [aZ]
 have c7:Hid (∀V n,Below w.heap.size w V->n<k.aR.length->qK V (bk k.aR n).ao (bk k.aR n).dR.length ((bk k.aR n).dR.flatMap sX)/\(bk k.aR n).dR.length<=1000000):=λV n hb hn=>by
  obtain⟨b,off,_,_,hi⟩:=hK.aR ω;have h4:xC w (bk k.aR n).ao (bk k.aR n).dR:=(hi n hn).2.2.2;exact⟨Ej (f:=sX) (n:=2) (λ_=>rfl) (akF (h4.below hb)),hs.dR n hn⟩
 have Au:=ai pU;unfold br at Au ⊢;clear pU hK;go_enter func79,ntmps79;go_upto_region 1 with fail;rw[<- Au.o];go_cut [3] (λx3 wx=>∃cb aS cS aF cF aL cL,x3=.pointer (some (Ad cb 0))/\abK WA.heap.size WA wx cb (.slice aS k.aR.length cS) (.slice aF k.frames.length cF) (.slice aL k.slots.length cL) k.hand k)
 case first =>
  refine zT (S:=λV=>V.cell? (Ad w.heap.size 0)=some (.slice a.aS k.aR.length a.cS)/\V.cell? (Ad w.heap.size 1)=some (.slice a.aF k.frames.length a.cF)/\V.cell? (Ad w.heap.size 2)=some (.slice a.aL k.slots.length a.cL)/\V.cell? (Ad w.heap.size 4)=some (I k.hand)) (z:=13) ρ ?_;have tV:=ai (aN WA.heap.size WA).drew;generalize WA.drew=WD at tV ⊢;have pK:=ai (HS.o _ tV.o);refine ajL 0 pK.o ?_;refine rN 1 pK.o ?_;refine ajL 3 pK.o ?_;refine rN 4 pK.o ?_;refine rN 6 pK.o ?_;refine rN 7 pK.o ?_;refine rN 9 pK.o ?_;refine rN 10 pK.o ?_;have G:Hid (LQ WA WD [] none):=⟨tV.o,ξ,ξ,.nil⟩;clear pK;apply ala (H:=λ(V:World) (cb:Nat) (a1:Option Addr) (c1:Nat) (a2:Option Addr) (c2:Nat) (a3:Option Addr) (c3:Nat)=>LQ WA V [(.slice a3 k.slots.length c3,171,2,k.slots.length,k.slots.flatMap jH),(.slice a2 k.frames.length c2,169,4,k.frames.length,k.frames.flatMap jI),(.slice a1 k.aR.length c1,145,3,k.aR.length,k.aR.flatMap py)] (some cb))
  . intro az
    repeat' (first
     | refine oQ (rs:=[2,12]) (by decide +kernel) ξ (dW.cons rfl (λK hK=>?_) (dW.cons rfl (λK hK=>?_) dW.nil))
     | refine oQ (rs:=[5,12]) (by decide +kernel) ξ (dW.cons rfl (λK hK=>?_) (dW.cons rfl (λK hK=>?_) dW.nil))
     | refine oQ (rs:=[8,12]) (by decide +kernel) ξ (dW.cons rfl (λK hK=>?_) (dW.cons rfl (λK hK=>?_) dW.nil))
     | refine xR 2 (λK hK=>?_) (hr:=by decide +kernel)
     | refine xR 5 (λK hK=>?_) (hr:=by decide +kernel)
     | refine xR 8 (λK hK=>?_) (hr:=by decide +kernel)
     | refine xR 12 (λK hK=>?_) (hr:=by decide +kernel)
     | refine rN 11 (HS.o _ G.o.below) ?_ (hr:=by decide +kernel)
     | (rw[aC ρ];go_simp;(first | (go_at_call 131;refine(bn.o _ G.o.below).mono ?_) | (go_at_call 132;refine(bb.o _ G.o.below).mono ?_) | (go_at_call 133;refine(WI.o _ G.o.below).mono ?_));rintro e w1 ⟨a1,c1,rfl,h1,h2⟩;have G:=ai (G.o.row h1 h2);clear h1 h2;try go_simp
        refine hK.out _ _ (λ_=>HS.o _ G.o.below) ?_;clear hK K)
     | (go_simp;obtain⟨V1,b1,hV,hb,g⟩:=G.o.new;rw[hV,hb];have G:=ai g;clear hV hb g;refine hK.out _ _ (λ_=>HS.o _ G.o.below) ?_;clear hK K))
    all_goals (have:=az _ _ _ _ _ _ _ _ G.o;exact this)
  rintro V cb a1 c1 a2 c2 a3 c3 g;have G:=ai g;have HZ:=ai (g.cell cb rfl).2.1;clear g;have z:=o5 HZ.o;have f:=bG HZ.o;refine xR 13 λK hK=>?_
  go_simp;refine hK.out _ _ (λg=>absurd rfl g) ?_;refine Ho ρ ?_ _;go_wp2_with fail;go_meet
  case rel=>exact⟨_,a1,c1,a2,c2,a3,c3,rfl,G.o.four _⟩
 case rest =>
  obtain⟨cb,aS,cS,aF,cF,aL,cL,rfl,a0⟩:=hcut;have cD:=ai a0.below;have ag:Hid (∃lab,zG WA.heap.size cb wc lab (.slice aS k.aR.length cS) (.slice aF k.frames.length cF) (.slice aL k.slots.length cL) k k.aR 0):=ahC a0;have c0:wc.cell? (Ad cb 0)=some (.slice aS k.aR.length cS):=aA a0.head 0 rfl;clear a0;have co:=hs.aR;go_wp2;go_loopw [23] (λiv wq=>∃n:Nat,∃lab hs',n<=k.aR.length/\iv=I (n:Int)/\zG WA.heap.size cb wq lab (.slice aS k.aR.length cS) (.slice aF k.frames.length cF) (.slice aL k.slots.length cL) k hs' n/\Below WA.heap.size WA wq) (λiv _=>k.aR.length-(intOf iv).toNat)
  case atStart =>
   grind [Hid.o]
  case round =>
   obtain⟨n,lab,hs',hn,rfl,y,zE⟩:=hrel;by_cases hlt:n<k.aR.length
   . have ck:(n:Int)<(k.aR.length:Int):=by omega
     obtain⟨sb,rfl,b5,cr,d0,x0,x1,x2,fz⟩:=y.at_ hlt;have bv:=y.same.len;have hlo:WA.heap.size<=wr.heap.size:=zE.size;have bm:WA.heap.size<=sb:=(y.CT sb (by rw[y.lS sb rfl];simp)).1;have er:bk hs' n=bk k.aR n:=y.rest n (aK _);have b3:cb<wr.heap.size:=aQ y.head;have a7:=c7.o wr n (iQ.o.trans (zE.mono iQ.o.size)) hlt;obtain⟨sh,a9⟩:=ex (bk k.aR n);rw[<- a9] at x0 x1 x2 a7 er;obtain⟨pg,dt,fx,ao,cp⟩:=sh;simp only at x0 x1 x2 a7;obtain⟨Rl,ah⟩:=a7;obtain⟨WL,T⟩:=ex (wr.alloc (.cells #[I pg,.string dt,.slice ao fx.length cp] 145));have A:Below wr.heap.size wr WL:=by grind [Below.refl,Below.alloc]
     have BL:WL.heap[wr.heap.size]?=some (.cells #[I pg,.string dt,.slice ao fx.length cp] 145 (0,0)):=by grind [bH]
     have al:Hid (∀V,Below WL.heap.size WL V->Calls prog 134 #[.slice ao fx.length cp] V λe w'=>∃ax cx,e=.returned (.slice ax fx.length cx)/\(w'.cell? (Ad cb 0)=some (.slice (some (Ad sb 0)) k.aR.length cS)/\w'.cell? (Ad wr.heap.size 2)=some (.slice ao fx.length cp))/\((w'.setCell (Ad sb (n*3+2)) (.slice ax fx.length cx)).cell? (Ad cb 0)=some (.slice (some (Ad sb 0)) k.aR.length cS)/\(w'.setCell (Ad sb (n*3+2)) (.slice ax fx.length cx)).cell? (Ad wr.heap.size 2)=some (.slice ao fx.length cp))/\w'.cell? (Ad sb (n*3+2))=some (.slice ao fx.length cp)/\w'.frozen? (Ad sb (n*3+2))=false/\(∃lab' aw9,zG WA.heap.size cb (w'.setCell (Ad sb (n*3+2)) (.slice ax fx.length cx)) lab' (.slice (some (Ad sb 0)) k.aR.length cS) (.slice aF k.frames.length cF) (.slice aL k.slots.length cL) k aw9 (n+1))/\Below WA.heap.size WA (w'.setCell (Ad sb (n*3+2)) (.slice ax fx.length cx))):=λV hV=>(aix ao fx.length cp (fx.flatMap sX) V (fp sX 2 (λ_=>rfl) fx) (Rl.below (A.trans (hV.mono A.size))) (akG _) ah).mono λe w' ⟨v,h1,h2,h3⟩=>by
      obtain⟨ax,cx,rfl,_⟩:=aZ h2;have Z:Below WL.heap.size WL w':=hV.trans (h3.mono hV.size);have MC:=y.below A;have cd:=MC.below Z;have cg:=m9 (base':=WL.heap.size) h2 (λg hg=>eJ hV.size (h2.lt g hg).1);obtain⟨cm,e2,_,ci,d2,_,_,y2,c8⟩:=cd.at_ hlt;injection e2 with e2;injection e2 with e2 _ _;subst e2;rw[<- a9] at y2;obtain⟨lab',R,_⟩:=MC.step (n:=n) (ax:=ax) (cx:=cx) ω (eJ hlo A.size) Z Γ;rw[er] at R;have xl:w'.cell? (Ad wr.heap.size 2)=some (.slice ao fx.length cp):=aA (aU BL Z (aQ BL)) 2 rfl;have J:=(zE.trans (A.mono hlo)).trans (Z.mono (eJ hlo A.size));have S6:¬wr.heap.size=sb:=λe=>by omega
      exact⟨ax,cx,h1,⟨d2,xl⟩,⟨(dH _ _ _ _ _ _ b5).trans d2,(dH _ _ _ _ _ _ S6).trans xl⟩,y2,c8 _,⟨lab',_,R⟩,aH.below J (aH.set (λb=>b=sb) w' (Ad sb (n*3+2)) _ rfl) J.size (λb e=>ω)⟩
     have a5:=ai T;have Xx:Hid (WL.drew.cell? (Ad cb 0)=some (.slice (some (Ad sb 0)) k.aR.length cS)/\WL.drew.cell? (Ad wr.heap.size 2)=some (.slice ao fx.length cp)):=⟨(A.drew.cell (p:=(Ad cb 0)) b3).trans d0,aA (aU BL (aN _ _).drew (aQ BL)) 2 rfl⟩;have bx:=ai (aN WL.heap.size WL).drew;clear y zE Rl ah er a9 T A BL bv hlo bm ag cD fz b3;go_upto_region 5 with fail;rw[<- a5.o]
     go_region_held3 (λV=>V.cell? (Ad cb 0)=some (.slice (some (Ad sb 0)) k.aR.length cS)/\V.cell? (Ad wr.heap.size 2)=some (.slice ao fx.length cp)) (first | exact Gh.o | exact Xx.o | exact an.o)
      ((go_at_call 134;refine(al.o _ bx.o).mono ?_;rintro e w5 ⟨ax,cx,rfl,s3,s4,y2,f2,R,J⟩;have Gh:=ai s3;have an:=ai s4;have cl:=ai R;have ce:=ai J;clear s3 s4 R J))
     all_goals clear Xx Gh an al
     all_goals go_wp2
     grind [intOf,Hid.o]
   obtain rfl:n=k.aR.length:=by omega
   have aE:Hid (bR WA.heap.size cb 30 [] wr ⟨lab,.slice aS k.aR.length cS,.slice aF k.frames.length cF,.slice aL k.slots.length cL,Nl,[]⟩ (aY ⟨k.aR,k.frames,k.slots,k.aj.take 0,k.hand⟩ hs')):=zG.done (by rw[y.same.len];exact y);have b0:=ai y.same;have iJ:=ai zE;have q3:wr.cell? (Ad w.heap.size 3)=some (.slice a.aP k.aj.length a.cP):=aA (aU KB.o zE (aQ KB.o)) 3 rfl;have yz:=hs.aj;clear y zE ag cD;go_wp2;go_loopw [40] (λiv wq=>∃m:Nat,∃S N,m<=k.aj.length/\iv=I (m:Int)/\cZ k.aR N/\bR WA.heap.size cb 30 [] wq S (aY ⟨k.aR,k.frames,k.slots,k.aj.take m,k.hand⟩ N)/\Below WA.heap.size WA wq) (λiv _=>k.aj.length-(intOf iv).toNat)
   case atStart=>grind [Hid.o]
   case round =>
    obtain⟨m,S,N,hm,rfl,F,uR,zE⟩:=hrel;by_cases IG:m<k.aj.length
    . have cq:(m:Int)<(k.aj.length:Int):=by omega
      obtain⟨pb,po,bz,ab,Xv⟩:=XF.o ω;obtain⟨va,ap,cp,v0,v1,v2,aw,U,_⟩:=Xv m IG;have W:=aw;obtain⟨aa,ca,Ie,_⟩:=aw;subst Ie;have B:Below w.heap.size w wr:=iQ.o.trans (zE.mono iQ.o.size);have z0:=(B.cell (p:=(Ad pb (po+m*3))) ab).trans v0;have z1:=(B.cell (p:=(Ad pb (po+m*3+1))) ab).trans v1;have z2:=(B.cell (p:=(Ad pb (po+m*3+2))) ab).trans v2;have X:=hs.aJ m IG;have Y:=hs.bh m IG;have ae:=ahB k.aj m IG;generalize ak k.aj m=sp at z0 z1 z2 X Y ae W U;obtain⟨lv,KJ,C5⟩:=sp;simp only at z0 z1 z2 X Y W U;obtain⟨bP,dP,eP,_⟩:=aZ uR.aj;have cn:S.L.length<=1000000:=by have:=uR.len;grind [aY]
      obtain⟨WL,T⟩:=ex (wr.alloc (.cells #[.bool lv,.slice aa KJ.length ca,.slice ap C5.length cp] 99));have A:Below wr.heap.size wr WL:=by grind [Below.refl,Below.alloc]
      have BL:WL.heap[wr.heap.size]?=some (.cells #[.bool lv,.slice aa KJ.length ca,.slice ap C5.length cp] 99 (0,0)):=by grind [bH]
      have M:Below wr.heap.size wr WL.drew:=A.drew;have BD:WL.drew.heap[wr.heap.size]?=some (.cells #[.bool lv,.slice aa KJ.length ca,.slice ap C5.length cp] 99 (0,0)):=aU BL (aN _ _).drew (aQ BL);have a5:=ai T;obtain⟨WD,a8⟩:=ex WL.drew;rw[<- a8] at M BD;have b8:=ai a8;have Q:=uR.below M;have c6:WA.heap.size<=WD.heap.size:=eJ zE.size M.size;have cc:Hid (Calls prog 135 #[.agg #[.bool lv,.slice aa KJ.length ca,.slice ap C5.length cp]] WD λe w'=>∃xa nx cx ya ny cy,e=.returned (.agg #[.bool lv,.slice xa nx cx,.slice ya ny cy])/\qx WD.heap.size w' ⟨lv,.slice xa nx cx,.slice ya ny cy⟩ ⟨lv,KJ,C5⟩/\(∀b,cA (.slice ya ny cy) b->¬cA (.slice xa nx cx) b)/\Below WD.heap.size WD w'):=(LV ⟨lv,KJ,C5⟩ aa ap KJ.length ca cp WD (W.below (B.trans (M.mono B.size))) (U.below (B.trans (M.mono B.size))) X Y).mono λe w' ⟨va,vp,h1,h2,h3,h4⟩=>by
       obtain⟨xa,cx,xe,_⟩:=aZ h2.aJ;obtain⟨ya,cy,ey,_⟩:=aZ h2.aD
       grind
      have b6:Hid (∀V,aH (λb=>cA S.vP b) WD V->V.cell? (Ad cb 3)=some (.slice bP S.L.length dP)/\V.cell? (Ad wr.heap.size 0)=some (.bool lv)/\V.cell? (Ad wr.heap.size 1)=some (.slice aa KJ.length ca)/\V.cell? (Ad wr.heap.size 2)=some (.slice ap C5.length cp)/\V.frozen? (Ad cb 3)=false):=λV hV=>by
       have b1:=hV.keep Q.head (λg=>by have:=uR.lP _ g;grind [bR.lH]);have b2:=hV.keep BD (λg=>by have:=(uR.aj.lt _ g).2;omega);refine⟨?_,aA b2 0 rfl,aA b2 1 rfl,aA b2 2 rfl,bG b1 3⟩;rw[<- eP];exact aA b1 3 rfl
      have bd:Hid (∀w2 o,Below WD.heap.size WD w2->(w2.alloc o).ownsRow WA.heap.size 99 3 (.slice bP S.L.length dP) S.L.length (S.L.flatMap iY)):=λw2 o hb=>by
       have:=((aH.bQ (D:=λ_=>False) hb).trans (aH.alloc _ w2 o) (λ_ _ g=>g)).row Q.aj (λ_ _ g=>g)
       grind
      have ba:Hid (∀w2 w4 O v' l,Below WD.heap.size WD w2->qx WD.heap.size w2 l ⟨lv,KJ,C5⟩->(∀b,cA l.vp b->¬cA l.va b)->(w2.alloc O).grownBy w4 S.vP.ownBlock->w4.ownsRow WA.heap.size 99 3 v' (S.L.length+1) (S.L.flatMap iY++iY l)->(v'.ownBlock=S.vP.ownBlock\/v'.ownBlock=some (w2.alloc O).heap.size)->∃S',bR WA.heap.size cb 30 [] (w4.setCell (Ad cb 3) v') S' (aY ⟨k.aR,k.frames,k.slots,k.aj.take (m+1),k.hand⟩ N)/\Below WA.heap.size WA (w4.setCell (Ad cb 3) v')):=λw2 w4 O v' l h1 h2 h3 h4 h5 h6=>by
       have m1:=Q.push c6 h1 h2 h3 h4 h5 h6;have m2:=m1.1;rw[ae];have J:=zE.trans (M.mono zE.size);exact⟨_,m2,aH.below J m1.2.2 J.size (λb hb=>(Q.CT b hb).1)⟩
      have cj:=ai F;have Ir:Hid (∀w2,Below WD.heap.size WD w2->aH (λb=>cA S.vP b) WD w2):=λw2 h=>aH.bQ h
      have bs:=ai eP;obtain⟨i0,am,b4,av,au⟩:=kI aav;have Mk:=ai am;have Tn:=ai b4;have Nr:=ai av;have DY:=ai au;clear uR Q zE B v0 v1 v2 W U X Y ae T a8 A BL M BD Xv aE b0 iJ F eP am b4 av au;rw[bz];go_upto_region 10 with fail;rw[<- a5.o];refine zT (S:=λV=>aH (λb=>cA S.vP b) WD V) (z:=7) ρ ?_;rw[<- b8.o];have E7:=b6;have pK:Hid (aH (λb=>cA S.vP b) WD WD):=aH.refl _ _;refine ajL 0 pK.o ?_;refine rN 1 pK.o ?_ (hc:=E7.o);refine rN 2 pK.o ?_ (hc:=E7.o);refine oQ (rs:=[3]) κ ξ ?_;refine dW.cons rfl (λK hK=>?_) dW.nil;rw[aC ρ];go_simp;go_at_call 135;refine cc.o.mono ?_;rintro e w2 ⟨xa,nx,cx,ya,ny,cy,rfl,ay,aB,a6⟩;have bi:=ai ay;have c9:=ai aB;have iJ:=ai a6;have Mf:=ai (Ir.o _ a6);clear ay aB a6;try go_simp;refine hK.out _ _ (λ_=>?_) ?_
      . exact Mf.o
      clear hK K
      try simp only[Act.put,uI,sK,q9]
      refine oQ (rs:=[4]) κ ξ ?_;refine dW.cons rfl (λK hK=>?_) dW.nil;go_simp;refine hK.out _ _ (λ_=>?_) ?_
      . exact Mf.o.trans (aH.alloc _ _ _) (λ_ _ g=>g)
      clear hK K
      try simp only[Act.put,uI,sK,q9]
      have cf:=iJ.o.size;refine oQ (rs:=[5]) κ ξ ?_;refine dW.cons rfl (λK hK=>?_) dW.nil;rw[aC ρ];refine s8 (P:=prog) _ _ 28 rfl WA.heap.size 99 i0 (.agg #[.bool false,Nl,Nl]) 3 56 underlying28 Mk.o Tn.o Nr.o DY.o rfl Δ (.slice bP S.L.length dP) S.L.length (S.L.flatMap iY) rfl (bd.o _ _ iJ.o) (some (Ad w2.heap.size 0)) 1 1 (iY ⟨lv,.slice xa nx cx,.slice ya ny cy⟩) rfl rfl (λ_=>⟨_,rfl,Z2 w2 _ _⟩) (by intro u hu;simp[iY] at hu;rcases hu with rfl | rfl | rfl <;> rfl) (by grind [maxLen]) ω (by grind [World.size_alloc]) ?_;intro vG wG af a4 ac;obtain⟨aG,cG,bt,_,_⟩:=aZ af;subst bt;rw[<- bs.o] at a4 ac;have QR:Hid (aH (λb=>cA S.vP b) WD wG):=(Mf.o.trans (aH.alloc _ _ _) (λ_ _ g=>g)).trans (aH.grown a4 (λq hq=>hq)) (λ_ _ g=>g);have c5:=ai (ba.o w2 wG _ _ ⟨lv,.slice xa nx cx,.slice ya ny cy⟩ iJ.o bi.o c9.o a4 af ac);clear af a4 ac;refine hK.out _ _ (λ_=>?_) ?_
      . exact QR.o
      clear hK K
      try simp only[Act.put,uI,sK,q9]
      refine ajL 6 QR.o ?_;obtain⟨k0,k1,k2,k3,k4⟩:=E7.o _ QR.o;refine oQ (rs:=[7]) κ ξ ?_;refine dW.cons rfl (λK hK=>?_) dW.nil;go_simp;refine hK.out _ _ (λg=>absurd rfl g) ?_;refine Ho ρ ?_ _;go_wp2;go_roundw
      case rel =>
       obtain⟨S',h1,h2⟩:=c5.o
       grind [Hid.o]
      grind [intOf]
    obtain rfl:m=k.aj.length:=by omega
    rw[qJ] at uR;obtain⟨bS,nS,dS,eS⟩:∃b n d,S.vS=.slice b n d:=by obtain⟨b,d,e,_⟩:=aZ uR.aR;grind
    obtain⟨bF,nF,dF,eF⟩:∃b n d,S.vF=.slice b n d:=by obtain⟨b,d,e,_⟩:=aZ uR.frames;grind
    obtain⟨bL,nL,dL,eL⟩:∃b n d,S.vL=.slice b n d:=by obtain⟨b,d,e,_⟩:=aZ uR.slots;grind
    obtain⟨bP,nP,dP,eP⟩:∃b n d,S.vP=.slice b n d:=by obtain⟨b,d,e,_⟩:=aZ uR.aj;grind
    have c0:=uR.c0;have c1:=uR.c1;have c2:=uR.c2;have c3:=uR.c3;have c4:wr.cell? (Ad cb 4)=some (I k.hand):=uR.c4;rw[eS] at c0;rw[eF] at c1;rw[eL] at c2;rw[eP] at c3;have R1:=aU RB.o zE (aQ RB.o);obtain⟨y0,y1,y2,y3,y4⟩:=o5 R1;have f0:=bG R1 0;have f1:=bG R1 1;have f2:=bG R1 2;have f3:=bG R1 3;have f4:=bG R1 4;have bA:w.heap.size+1<WA.heap.size:=aQ RB.o;have B:Below w.heap.size w wr:=iQ.o.trans (zE.mono iQ.o.size);have fV:Hid (∀V,aH (λb=>b=w.heap.size+1) wr V->P (.returned (.agg #[.slice bS nS dS,.slice bF nF dF,.slice bL nL dL,.slice bP nP dP,I k.hand])) V):=λV hV=>by
     rw[HP.o];refine⟨S,N,F,Γ,(uR.toKr.kp hV (λb hb e=>by have:=(uR.CT b hb).1;omega)).mono ω,?_⟩
     grind [aH.below]
    have h5:Hid (∀s f l p h,(((((wr.setCell (Ad (w.heap.size+1) 0) s).setCell (Ad (w.heap.size+1) 1) f).setCell (Ad (w.heap.size+1) 2) l).setCell (Ad (w.heap.size+1) 3) p).setCell (Ad (w.heap.size+1) 4) h).heap[w.heap.size+1]?=some (.cells #[s,f,l,p,h] 30 (0,0))/\aH (λb=>b=w.heap.size+1) wr (((((wr.setCell (Ad (w.heap.size+1) 0) s).setCell (Ad (w.heap.size+1) 1) f).setCell (Ad (w.heap.size+1) 2) l).setCell (Ad (w.heap.size+1) 3) p).setCell (Ad (w.heap.size+1) 4) h)):=λs f l p h=>⟨gH (gH (gH (gH (gH R1 0 s) 1 f) 2 l) 3 p) 4 h,((((aH.set (λb=>b=w.heap.size+1) wr (Ad (w.heap.size+1) 0) s rfl).trans (aH.set (λb=>b=w.heap.size+1) _ (Ad (w.heap.size+1) 1) f rfl) (λ_ _ g=>g)).trans (aH.set (λb=>b=w.heap.size+1) _ (Ad (w.heap.size+1) 2) l rfl) (λ_ _ g=>g)).trans (aH.set (λb=>b=w.heap.size+1) _ (Ad (w.heap.size+1) 3) p rfl) (λ_ _ g=>g)).trans (aH.set (λb=>b=w.heap.size+1) _ (Ad (w.heap.size+1) 4) h rfl) (λ_ _ g=>g)⟩
    clear uR zE F eS eF eL eP bA B aE b0 iJ R1;go_wp2;obtain⟨q1,q2⟩:=h5.out (.slice bS nS dS) (.slice bF nF dF) (.slice bL nL dL) (.slice bP nP dP) (I k.hand);obtain⟨y0,y1,y2,y3,y4⟩:=o5 q1;refine b9 (v:=.agg #[.slice bS nS dS,.slice bF nF dF,.slice bL nL dL,.slice bP nP dP,I k.hand]) (by simp[results,results79,go_sem,y0,y1,y2,y3,y4]) rfl ?_;exact fV.o _ q2
open Go.RowKit
def ui (k:aT) (sp:Int):aT×Int×Int:=if dw k sp≠0 then (kg,0,dw k sp) else if k.aj.length=4 then (kg,0,2) else if eU k.aj+bf (ak k.aj sp.toNat).aJ>(k.slots.length:Int) then (kg,0,8) else (jq k sp.toNat,(k.aj.length:Int),0)
theorem aew {k:aT} (hR:aW k) {j:Nat} (hj:j<k.aj.length) {s:dA} (hs:s=ak k.aj j) (n:Nat) (hn:n<=s.bh.length):(∀i,i<k.frames.length->-1000000<=(aM (fM k s.bh n).frames i).refs/\(aM (fM k s.bh n).frames i).refs<=1000000)/\(∀i,i<k.slots.length->-1000000<=(bI (fM k s.bh n).slots i).refs/\(bI (fM k s.bh n).slots i).refs<=1000000):=by
 subst hs;obtain⟨_,_,_,_,_,h6,h7⟩:=yR hR hj n hn;obtain⟨r1,r2⟩:=AV hR;have b:=qg hR hj;have hl:∀(kd i:Int),(kR (ak k.aj j).aJ kd i ((ak k.aj j).bh.take n)).length<=512:=λkd i=>by
  grind [kR]
 refine⟨λi hi=>?_,λi hi=>?_⟩
 . rw[h6 i hi];have:=r1 i hi;have:=hl 1 i;show _<=(aM k.frames i).refs+_/\(aM k.frames i).refs+_<=_;omega
 rw[h7 i hi];have:=r2 i hi;have:=hl 2 i;show _<=(bI k.slots i).refs+_/\(bI k.slots i).refs+_<=_;omega
theorem aez (C4:uj) (k:aT) (a:jC) (sp:Int) (w:World) (hK:ju w a k) (hF:pY k) (hsp:cH sp) :
  Calls prog 261 #[.agg (br a k),I sp] w (fL w (ui k sp).1 [I (ui k sp).2.1,I (ui k sp).2.2]):=by
 obtain⟨WA,pU,A,kb,bv,rb⟩:=Ur w (br a k) 30;obtain⟨k0,k1,k2,k3,k4⟩:=o5 kb;have Au:=ai pU;have fU:=ai A;have RB:=ai rb;have Z:=yh k a sp WA (hK.below A) hF hsp;generalize hP:fL w (ui k sp).1 [I (ui k sp).2.1,I (ui k sp).2.2]=P;by_cases c:dw k sp=0
 . obtain⟨hR,b0,hj,_⟩:=uy c;obtain⟨j,rfl⟩:∃j:Nat,sp=(j:Int):=⟨sp.toNat,ω⟩;rw[jW] at hj;have az:=ai (VJ C4 hK hF hR A);have Ex:=ai (Dj Z c);obtain⟨pb,po,af,a2,Xv⟩:=hK.aj ω;obtain⟨va,ap,cp,v0,v1,v2,G,J,_⟩:=Xv j hj;obtain⟨aa,ca,rfl,_⟩:=id G;have av:=GX k.aj k.aj.length;have aw:=hR.c;have B:=(hF.sp j hj).aJ;have zE:∀{V:World},Below WA.heap.size WA V->Below w.heap.size w V:=λhV=>A.trans (hV.mono A.size)
   have bs:(j:Int)<(k.aj.length:Int):=by omega
   have R:∀e∈(ak k.aj j).bh,(e.kind=1->0<=e.loc/\e.loc<(k.frames.length:Int))/\(e.kind≠1->0<=e.loc/\e.loc<(k.slots.length:Int)):=λe he=>by
    obtain⟨_,e2⟩:=(hR.sp hj).Qs _ he;omega
   have ac:=qg hR hj;have ab:=jF _ (hR.sp hj).aJ;have F:=λn hn=>yR hR hj n hn
   have XM:=λn hn=>aew hR hj rfl n hn
   have HA:Hid (P=if k.aj.length=4 then fL w kg [I 0,I 2] else if (k.slots.length:Int)<eU k.aj+bf (ak k.aj j).aJ then fL w kg [I 0,I 8] else fL w (jq k j) [I (k.aj.length:Int),I 0]):=by
    rw[<- hP];unfold ui;rw[aB (λg=>g c),jW];split
    . rfl
    split <;> rfl
   have XG:Hid (∀hs,aY (jq k j) hs={ aY (fM k (ak k.aj j).bh (ak k.aj j).bh.length) hs with aj:=(aY (fM k (ak k.aj j).bh (ak k.aj j).bh.length) hs).aj++[ak k.aj j] }):=λhs=>rfl
   have ae:Hid ((jq k j).aR=k.aR/\(jq k j).aj.length=k.aj.length+1):=by
    have hp:=F _ (aK _);refine⟨hp.1,?_⟩;show((fM k _ _).aj++[_]).length=_;rw[ft,hp.2.2.1];rfl
   generalize ak k.aj j=sj at v0 v1 v2 G J B R ac ab F XM HA XG;obtain⟨lv,KJ,C5⟩:=sj;simp only at v0 v1 v2 G J B R ac ab F XM HA XG;have HV:Hid (∀V,Below WA.heap.size WA V->V.cell? (Ad pb (po+j*3))=some (.bool lv)/\V.cell? (Ad pb (po+j*3+1))=some (.slice aa KJ.length ca)/\V.cell? (Ad pb (po+j*3+2))=some (.slice ap C5.length cp)):=λV hV=>⟨((zE hV).cell (p:=(Ad pb _)) a2).trans v0,((zE hV).cell (p:=(Ad pb _)) a2).trans v1,((zE hV).cell (p:=(Ad pb _)) a2).trans v2⟩
   have HM:Hid (∀(V:World) mb,V.heap[mb]?=some (.cells (rB a k) 158 (0,0))->V.cell? (Ad mb 3)=some (.slice (some (Ad pb po)) k.aj.length a.cP)/\V.cell? (Ad mb 2)=some (.slice a.aL k.slots.length a.cL)):=λV mb h=>⟨af ▸ aA h 3 rfl,aA h 2 rfl⟩
   have a3:=ai (λV mb (hV:Below WA.heap.size WA V) (hm:V.heap[mb]?=some (.cells (rB a k) 158 (0,0)))=>GY k.aj a.aP a.cP mb V (hK.aj.below (zE hV)) (λi hi=>(hF.sp i hi).aJ) ω (aA hm 3 rfl));have a8:=ai (λV (hV:Below WA.heap.size WA V)=>rW KJ _ V (G.below (zE hV)) B);have b4:=rA KJ;have B6:Hid (∀V n,Below WA.heap.size WA V->n<C5.length->∃eb eo,ap=some (Ad eb eo)/\V.cell? (Ad eb (eo+n*3))=some (I (bc C5 n).page)/\V.cell? (Ad eb (eo+n*3+1))=some (I (bc C5 n).kind)/\V.cell? (Ad eb (eo+n*3+2))=some (I (bc C5 n).loc)):=λV n hV hn=>by
    obtain⟨eb,eo,e1,e2,e3⟩:=(J.below (zE hV)) ω;exact⟨eb,eo,e1,e3 n hn 0 ω,e3 n hn 1 ω,e3 n hn 2 ω⟩
   have XH:Hid (∀V S mb hs n,n<C5.length->bR WA.heap.size mb 158 (mC k) V S (aY (fM k C5 n) hs)->Calls prog 270 #[.pointer (some (Ad mb 0)),.agg #[I (bc C5 n).page,I (bc C5 n).kind,I (bc C5 n).loc],I 1] V (nH WA.heap.size mb 158 (mC k) V S (.tuple #[]) (aY (fM k C5 (n+1)) hs))):=λV S mb hs n hn hV=>by
    have hp:=F n ω;have XM:=XM n (Nw hn);obtain⟨q1,q2⟩:=R (bc C5 n) (kT (d:=iD) hn);have hc:=GV (aY (fM k C5 n) hs) S V (bc C5 n) 1 hV (λg=>?_) (λg=>?_) (.inl rfl) ⟨λg=>XM.1 _ (by have:=q1 g;omega),λg=>XM.2 _ (by have:=q2 g;omega)⟩
    . rw[JC] at hc;exact hc
    . show _/\_<((fM k C5 n).frames.length:Int);rw[hp.2.2.2.1];exact q1 g
    show _/\_<((fM k C5 n).slots.length:Int);rw[hp.2.2.2.2.1];exact q2 g
   have ay:Hid (∀n,n<=C5.length->(fM k C5 n).aj.length=k.aj.length):=λn hn=>by rw[(F n hn).2.2.1]
   have b6:Hid (∀V,Below WA.heap.size WA V->gD V (.slice aa KJ.length ca) KJ/\eX bZ 3 iD V ap C5):=λV hV=>⟨G.below (zE hV),J.below (zE hV)⟩
   have bm:k.aj.length<=4:=by omega
   have UG:0<=eU k.aj/\eU k.aj<=65025*4:=by
    unfold eU;omega
   generalize bf KJ=T1 at a8 b4 HA;generalize eU k.aj=RM at a3 UG HA;unfold br at Ex Au ⊢;clear hK hF hsp c hP pU A kb rb Z hR b0 hj Xv v0 v1 v2 G J B af aw av R F XM zE C4;go_enter func261,ntmps261;go_upto_region 1 with fail;rw[Au.o];go_upto_region 5 with(go_at_call 76;refine Ex.o.mono ?_;rintro e w1 ⟨mb,rfl,h⟩;have H1:=ai h;have m:=HM.o _ _ h.2.1;have u:=HV.o _ h.2.2;clear h);have Nb:Hid (w1.heap.size≠mb):=(show w1.heap.size≠mb from λe=>by have:=aQ H1.o.2.1;omega);have ou:=ai (H1.o.2.2.alloc H1.o.2.2.size (.cells #[.bool lv,.slice aa KJ.length ca,.slice ap C5.length cp] 99));have B3:=ai (bH w1 #[.bool lv,.slice aa KJ.length ca,.slice ap C5.length cp] 99);have M3:=ai (bu H1.o.2.1 (.cells #[.bool lv,.slice aa KJ.length ca,.slice ap C5.length cp] 99));generalize w1.alloc (.cells #[.bool lv,.slice aa KJ.length ca,.slice ap C5.length cp] 99)=W3 at ou B3 M3 ⊢;generalize w1.heap.size=fb at B3 Nb ⊢;clear m u;have m:=HM.o _ _ M3.out;have an:=ai (λV (hV:Below W3.heap.size W3 V)=>And.intro (RB.o _ (ou.o.trans (hV.mono ou.o.size))) (fU.o.trans ((ou.o.trans (hV.mono ou.o.size)).mono fU.o.size)));by_cases c4:k.aj.length=4
   . have bb:(k.aj.length:Int)=4:=by omega
     have R1:=ai (an.o _ (aN _ _));have y:=o5 R1.o.1;have f:=bG R1.o.1;go_wp2;obtain rfl:=HA.o.trans (aC c4);exact Dh R1.o.1 R1.o.2
   have bb:¬(k.aj.length:Int)=4:=by omega
   go_upto_region 7 with fail;have Fs:=kf W3;have q1:∀x:ed W3.heap.size W3,x.world.cell? (Ad fb 1)=some (.slice aa KJ.length ca):=λx=>aA (aU B3.o x.keeps (aQ B3.o)) 1 rfl
   have q2:∀x:ed W3.heap.size W3,x.world.cell? (Ad mb 2)=some (.slice a.aL k.slots.length a.cL):=λx=>(HM.o _ _ (aU M3.out x.keeps (aQ M3.out))).2
   have a4:=ai (λV (hV:Below W3.heap.size W3 V)=>a3.o V mb (ou.o.trans (hV.mono ou.o.size)) (aU M3.out hV (aQ M3.out)));have a9:=ai (λV (hV:Below W3.heap.size W3 V)=>a8.o V (ou.o.trans (hV.mono ou.o.size)));clear m;refine eT κ κ ?_
   repeat (first | go_big_quiet_step ((first | (go_at_call 143;exact ma _ a4.o) | (go_at_call 70;exact ma _ a9.o))) | quiet_step ((first | (go_at_call 143;exact ma _ a4.o) | (go_at_call 70;exact ma _ a9.o))))
   refine mM ?_;rintro _ ⟨X,rfl⟩;clear Fs q2 q1 a4 a9 a3 a8;by_cases cr:(k.slots.length:Int)<RM+T1
   . have R1:=ai (an.o _ X.keeps);have y:=o5 R1.o.1;have f:=bG R1.o.1;go_wp2;obtain rfl:=HA.o.trans ((aB c4).trans (aC cr));exact Dh R1.o.1 R1.o.2
   have jc:=ai (ou.o.trans (X.keeps.mono ou.o.size));have MX:=ai (aU M3.out X.keeps (aQ M3.out));have BX:=ai (aU B3.o X.keeps (aQ B3.o));generalize X.world=WX at jc MX BX ⊢;go_upto_region 10 with(go_at_call 267;refine(az.o _ _ jc.o H1.o.1 MX.o).mono ?_;rintro e w4 ⟨rfl,S,hs,h⟩;have H2:=ai h;clear h);obtain⟨_,ba,ad,yz,b8⟩:=H2.o;have ah:Hid (S.lab fb=.no):=D7.1 λg=>by
    rcases ad fb g with e | e
    . exact Nb.o e
    have:=aQ BX.o;omega
   have B4:=ai (yz.keep BX.o Nb.o);have x2:w4.cell? (Ad fb 2)=some (.slice ap C5.length cp):=aA B4.o 2 rfl;have bd:Hid (∀V,aH (λb=>S.lab b≠.no) w4 V->V.heap[fb]?=some (.cells #[.bool lv,.slice aa KJ.length ca,.slice ap C5.length cp] 99 (0,0))/\Below WA.heap.size WA V):=λV hV=>⟨hV.keep B4.o (λg=>g ah.o),aH.below H2.o.2.2.2.2 hV H2.o.2.2.2.2.size (λb hb=>(H2.o.2.1.CT b hb).1)⟩
   clear ba ad yz b8;go_wp2;go_loopw [59] (λiv wq=>∃n:Nat,n<=C5.length/\iv=I (n:Int)/\bR WA.heap.size mb 158 (mC k) wq S (aY (fM k C5 n) hs)/\aH (λb=>S.lab b≠.no) w4 wq) (λiv _=>C5.length-(intOf iv).toNat)
   case atStart=>exact⟨0,ω,rfl,H2.o.2.1,aH.refl _ _⟩
   case round =>
    obtain⟨n,hn,rfl,uR,W⟩:=hrel;obtain⟨U,M⟩:=bd.o wr W;by_cases hlt:n<C5.length
    . have bp:(n:Int)<(C5.length:Int):=by omega
      obtain⟨eb,eo,b9,z0,z1,z2⟩:=B6.o wr n M hlt;have uM:=ai (XH.o _ S mb hs n hlt (uR.below ((aN _ _).alloc (aK _) (.cells #[I (bc C5 n).page,I (bc C5 n).kind,I (bc C5 n).loc] 174))));have b3:=ai W;generalize bc C5 n=en at z0 z1 z2 uM;obtain⟨g1,g2,g3⟩:=en;simp only at z0 z1 z2 uM;subst b9;clear uR W U M XH B6;go_wp2_with (go_at_call 270;refine uM.o.mono ?_;rintro e w5 ⟨rfl,h⟩;have H5:=ai h;clear h);go_roundw
      case rel=>exact⟨n+1,ω,by go_num,H5.o.1,(b3.o.trans (aH.alloc _ _ _) (λ_ _ g=>g)).trans H5.o.2.kp (λ_ _ g=>g)⟩
      case measure=>simp[intOf];omega
    obtain rfl:n=C5.length:=by omega
    obtain⟨bP,dP,eP,_⟩:=aZ uR.aj;have K8:Hid (S.L.length=k.aj.length):=uR.len.trans (ay.o _ (aK _));have bt:S.L.length<=1000000:=by
     have:=K8.o;omega
    have Q:Below wr.heap.size wr wr.drew:=(aN _ _).drew;have BD:=aU U Q (aQ U);have N:=uR.below Q;have Y:=M.trans (Q.mono M.size);obtain⟨WD,a1⟩:∃WD,wr.drew=WD:=⟨_,rfl⟩;rw[a1] at Q BD N Y;have ao:=ai a1;obtain⟨ag,al⟩:=b6.o WD Y;have bi:=ai (LV ⟨lv,KJ,C5⟩ aa ap KJ.length ca cp WD ag al (by show KJ.length<=_;omega) (by show C5.length<=_;omega));have E7:Hid (∀V,aH (λb=>cA S.vP b) WD V->V.cell? (Ad mb 3)=some (.slice bP S.L.length dP)/\V.cell? (Ad fb 0)=some (.bool lv)/\V.cell? (Ad fb 1)=some (.slice aa KJ.length ca)/\V.cell? (Ad fb 2)=some (.slice ap C5.length cp)/\V.frozen? (Ad mb 3)=false):=λV hV=>by
     have b1:=hV.keep N.head (λg=>by have:=uR.lP _ g;rw[uR.lH] at this;simp at this);have b2:=hV.keep BD (λg=>by have:=uR.lP _ g;rw[ah.o] at this;simp at this);exact⟨eP ▸ aA b1 3 rfl,aA b2 0 rfl,aA b2 1 rfl,aA b2 2 rfl,bG b1 3⟩
    have aE:Hid (∀w2 o,Below WD.heap.size WD w2->(w2.alloc o).ownsRow WA.heap.size 99 3 (.slice bP S.L.length dP) S.L.length (S.L.flatMap iY)):=λw2 o hb=>by
     have:=((aH.bQ (D:=λ_=>False) hb).trans (aH.alloc _ w2 o) (λ_ _ g=>g)).row N.aj (λ_ _ g=>g);rw[eP] at this;exact this
    have am:=ai N;have EC:=ai Y;have Gh:Hid (∀w2,Below WD.heap.size WD w2->aH (λb=>cA S.vP b) WD w2):=λw2 h=>aH.bQ h
    have b5:=ai eP;clear uR N W M U ag al a1 Q BD eP Y XH B6;go_upto_region 15 with fail;refine zT (S:=λV=>aH (λb=>cA S.vP b) WD V) (z:=13) κ ?_;rw[ao.o];have pK:Hid (aH (λb=>cA S.vP b) WD WD):=aH.refl _ _;refine rN 0 pK.o ?_ (hc:=E7.o);refine rN 1 pK.o ?_ (hc:=E7.o);refine rN 2 pK.o ?_ (hc:=E7.o);refine rN 3 pK.o ?_ (hc:=E7.o);refine rN 4 pK.o ?_ (hc:=E7.o);refine rN 5 pK.o ?_ (hc:=E7.o);refine rN 6 pK.o ?_ (hc:=E7.o);refine xR 7 λK hK=>?_
    rw[aC ρ];go_simp;go_at_call 135;refine bi.o.mono ?_;rintro e w6 ⟨va,vp,rfl,h⟩;have H6:=ai h;have a0:=ai (Gh.o _ h.2.2);clear h;obtain⟨xa,cx,xe,_⟩:=aZ H6.o.1.aJ;obtain⟨ya,cy,ey,_⟩:=aZ H6.o.1.aD;obtain rfl:va=_:=xe;obtain rfl:vp=_:=ey
    try go_simp
    refine hK.out _ _ (λ_=>a0.o) ?_;clear hK K;refine xR 8 λK hK=>?_
    go_simp;refine hK.out _ _ (λ_=>a0.o.trans (aH.alloc _ _ _) (λ_ _ g=>g)) ?_;clear hK K;have bn:=H6.o.2.2.size;refine xR 9 λK hK=>?_
    rw[aC ρ];refine apg _ _ rfl WA.heap.size (.slice bP S.L.length dP) S.L.length (S.L.flatMap iY) rfl (aE.o _ _ H6.o.2.2) (some (Ad w6.heap.size 0)) 1 1 (iY ⟨lv,.slice xa _ cx,.slice ya _ cy⟩) rfl rfl (λ_=>⟨_,rfl,Z2 w6 _ _⟩) (by intro u hu;simp[iY] at hu;rcases hu with rfl | rfl | rfl <;> rfl) (by unfold maxLen;omega) ω (by rw[fY];have:=EC.o.size;omega) ?_;intro vG wG a6 T a5;obtain⟨aG,cG,rfl,_,_⟩:=aZ a6;rw[<- b5.o] at T a5;have QR:Hid (aH (λb=>cA S.vP b) WD wG):=(a0.o.trans (aH.alloc _ _ _) (λ_ _ g=>g)).trans (aH.grown T (λq hq=>hq)) (λ_ _ g=>g);have au:=ai (am.o.push EC.o.size H6.o.2.2 H6.o.1 H6.o.2.1 T a6 a5);clear a6 T a5;refine hK.out _ _ (λ_=>QR.o) ?_;clear hK K;refine xR 10 λK hK=>?_
    go_simp;refine hK.out _ _ (λ_=>QR.o) ?_;clear hK K;refine xR 11 λK hK=>?_
    go_simp;refine hK.out _ _ (λ_=>QR.o) ?_;clear hK K;refine rN 12 QR.o ?_ (hc:=E7.o);have k:=E7.o _ QR.o;refine xR 13 λK hK=>?_
    go_simp;refine hK.out _ _ (λg=>absurd rfl g) ?_;refine Ho κ ?_ _;clear k;obtain⟨m1,_,m3⟩:=au.o;have a7:=aH.below EC.o m3 EC.o.size (λb hb=>(am.o.CT b hb).1);rw[<- XG.o hs] at m1;obtain⟨aS,nS,cS,aF,nF,cF,aL,nL,cL,aP,bx,hd,q,O⟩:=Dg (D:=λb=>b=w.heap.size+1) m1 H2.o.1 ae.o.1 fU.o a7 (λb e=>ω);rw[ae.o.2] at q O;have Aw:=ai O;have HQ:=ai q;have R3:=ai (RB.o _ a7);clear m1 m3 a7 O q;generalize wG.setCell (Ad mb 3) (.slice aG (S.L.length+1) cG)=W5 at HQ R3 Aw ⊢;have q:=HQ.o;have y:=o5 R3.o;have f:=bG R3.o;have bz:¬mb=w.heap.size+1:=by have:=H1.o.1;omega
    have S6:¬w.heap.size+1=mb:=by omega
    go_upto_region 16 with fail;go_region;go_wp2;obtain rfl:=HA.o.trans ((aB c4).trans (aB (Int.not_lt.2 cr)));exact Us R3.o (Aw.o _) (hV:=.inr rfl)
 rw[show ui k sp=(kg,0,dw k sp) by grind [ui]] at hP;have HP:=ai hP;have Ex:=ai (Ek Z c);generalize dw k sp=C at Ex HP c;have cb:(C != 0)=true:=by grind
 unfold br at Ex Au ⊢;clear hK hF hsp c hP pU A kb rb Z C4;go_enter func261,ntmps261;go_upto_region 1 with fail;rw[Au.o];go_upto_region 3 with(go_at_call 76;refine Ex.o.mono ?_;rintro e w1 ⟨rfl,h⟩;have R1:=ai (RB.o _ h);have Cc:=ai (fU.o.trans (h.mono fU.o.size));clear h);have y:=o5 R1.o;have f:=bG R1.o;go_wp2;obtain rfl:=HP.o;exact Dh R1.o Cc.o
variable {k:aT} {fl:List Bool} {j:Nat} {hs:List bC}
theorem Pt (h:fO k fl) (hk:fl.getD j false=true) (s:cZ k.aR hs):dw (aY k hs) (j:Int)=0:=by
 obtain⟨hj,hl⟩:=h.at_ hk;unfold dw;rw[aC (Wm h.right s),aC];exact⟨ω,by show(j:Int)<(k.aj.length:Int);omega,hl⟩
theorem ajE (h:fO k fl) (hk:fl.getD j false=true) (s:cZ k.aR hs) {n way:Int} {ways:List Int} (h1:1<=n) (h8:n<=8) (hw:way∈ways):jl (aY k hs) (j:Int) n way ways=0:=by
 unfold jl;rw[aB (λg=>g (Pt h hk s)),aB (λg=>g ⟨h1,h8⟩),aC hw]
def QO (k K k':aT) (hs:List bC) (ok:Prop):Prop:=(ok->K=aY k' hs/\k'.aR=k.aR)/\(¬ok->k'=k)
theorem aff (h:fO k fl) (hk:fl.getD j false=true) (s:cZ k.aR hs) (a n way:Int) (h1:1<=n) (h8:n<=8) (hw:way=0\/way=2) :
  ∃K,qu (aY k hs) (j:Int) a n way=(K,(iu k j a n way).1.1,(iu k j a n way).1.2,0)/\QO k K (iu k j a n way).2 hs ((iu k j a n way).1.2.1=0):=by
 obtain⟨hj,hl⟩:=h.at_ hk;unfold qu;rw[aB (λg=>g (ajE h hk s h1 h8 (by simpa using hw)))];show ∃K,(if (bB (dX k j) a n way).1≠0 then _ else _)=_/\_;by_cases g:(bB (dX k j) a n way).1=0
 . rw[aB (λx=>x g),tC h1 h8 g];obtain⟨m1,m2,_⟩:=nO h1 h8 g;have R:=rD h.right hj a n way m1 m2;have e:rG (aY k hs) j a n way=rG k j a n way:=by
    rw[zR h.right hj a n way m1 m2,zR (h.right.CZ s) hj a n way m1 m2];congr 1;funext p;exact EZ s j p
   refine⟨(bg (aY k hs) j a n way).2,?_,λ_=>⟨?_,R.kept.aR⟩,λx=>absurd rfl x⟩
   . show(_,rG (aY k hs) j a n way,_,_)=_;rw[e];rfl
   rw[yS h.right hj m1 s]
 rw[aC g,vB h1 h8 g];exact⟨_,rfl,λx=>absurd x g,λ_=>rfl⟩
theorem acn (h:fO k fl) (hk:fl.getD j false=true) (s:cZ k.aR hs) (a:Int) (d:ByteArray) (h1:1<=d.size) (h8:d.size<=8) :
  ∃K,qm (aY k hs) (j:Int) a d=(K,(jJ k j a d).1,0)/\QO k K (jJ k j a d).2 hs ((jJ k j a d).1.1=0):=by
 obtain⟨hj,hl⟩:=h.at_ hk;unfold qm;rw[aB (λg=>g (ajE h hk s ω ω ξ))];show ∃K,(if (bB (dX k j) a d.size 1).1≠0 then _ else _)=_/\_;by_cases g:(bB (dX k j) a d.size 1).1=0
 . rw[aB (λx=>x g),tU g];obtain⟨m1,m2,_⟩:=nO ω ω g;have R:=yQ h.right hj a d ω ω m1 m2;exact⟨nX (aY k hs) j a d,rfl,λ_=>⟨Jo h.right hj m1 s,R.aR⟩,λx=>absurd rfl x⟩
 rw[aC g,vw g];exact⟨_,rfl,λx=>absurd x g,λ_=>rfl⟩
theorem afd (h:fO k fl) (hk:fl.getD j false=true) (s:cZ k.aR hs) (r:List aX×Int) :
  ∃K,kF (aY k hs) (j:Int) r=(K,(gL k j r).1)/\QO k K (gL k j r).2 hs ((gL k j r).1=0):=by
 obtain⟨hj,hl⟩:=h.at_ hk;have eA:kF (aY k hs) (j:Int) r=if r.2≠0 then (kg,r.2) else if eU k.aj-bf (dX k j)+bf r.1>(k.slots.length:Int) then (kg,8) else (iN (aY k hs) j r.1,0):=by
  unfold kF;rw[aB (λg=>g (Pt h hk s))];rfl
 rw[eA];by_cases c:r.2=0
 . rw[aB (λg=>g c)];by_cases c2:eU k.aj-bf (dX k j)+bf r.1>(k.slots.length:Int)
   . have eM:gL k j r=(8,k):=by unfold gL;rw[aB (λg=>g c),aC c2]
     rw[aC c2,eM];exact⟨_,rfl,(λx=>by cases x),λ_=>rfl⟩
   have eM:gL k j r=(0,iN k j r.1):=by unfold gL;rw[aB (λg=>g c),aB c2]
   rw[aB c2,eM];exact⟨_,rfl,λ_=>⟨JG k hs j r.1,(sY k hj r.1).1⟩,λx=>absurd rfl x⟩
 have eM:gL k j r=(r.2,k):=by unfold gL;rw[aC c]
 rw[aC c,eM];exact⟨_,rfl,λx=>absurd x c,λ_=>rfl⟩
theorem afh (h:fO k fl) (hk:fl.getD j false=true) (s:cZ k.aR hs) :
  ∃K x,ui (aY k hs) (j:Int)=(K,x,(gM k j).1)/\QO k K (gM k j).2 hs ((gM k j).1=0):=by
 obtain⟨hj,hl⟩:=h.at_ hk;have eA:ui (aY k hs) (j:Int)=if k.aj.length=4 then (kg,0,2) else if eU k.aj+bf (dX k j)>(k.slots.length:Int) then (kg,0,8) else (jq (aY k hs) j,(k.aj.length:Int),0):=by
  unfold ui;rw[aB (λg=>g (Pt h hk s))];rfl
 rw[eA];by_cases c:k.aj.length=4
 . have eM:gM k j=(2,k):=by unfold gM;rw[aC c]
   rw[aC c,eM];exact⟨_,_,rfl,(λx=>by cases x),λ_=>rfl⟩
 rw[aB c];by_cases c2:eU k.aj+bf (dX k j)>(k.slots.length:Int)
 . have eM:gM k j=(8,k):=by unfold gM;rw[aB c,aC c2]
   rw[aC c2,eM];exact⟨_,_,rfl,(λx=>by cases x),λ_=>rfl⟩
 have eM:gM k j=(0,jq k j):=by unfold gM;rw[aB c,aB c2]
 rw[aB c2,eM];exact⟨_,_,rfl,λ_=>⟨L8 k hs j,(yl h.right hj).aR⟩,λx=>absurd rfl x⟩
theorem afj (h:fO k fl) (hk:fl.getD j false=true) (s:cZ k.aR hs) :
  wX (aY k hs) (j:Int)=(aY (mE k j) hs,0)/\(mE k j).aR=k.aR:=by
 unfold wX;rw[aB (λg=>g (Pt h hk s))];refine⟨by rw[show((j:Int).toNat)=j from rfl,Ma],?_⟩;exact(oO k j (λ_=>true)).1
theorem yN:uj:=λk a w hK hs=>VM k a w hK hs
end Go.Proofs.YtlgoihmkgaaemaaGreat
