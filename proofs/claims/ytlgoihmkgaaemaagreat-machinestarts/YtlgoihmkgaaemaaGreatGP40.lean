import Derived.Test.YtlgoihmkgaaemaaGreatGP39
set_option maxHeartbeats 20000000
set_option linter.unusedVariables false
set_option maxRecDepth 100000
set_option linter.unusedSimpArgs false
namespace Go.Proofs.YtlgoihmkgaaemaaGreat
open Go.RowKit Tryz
abbrev CZ (m:iM) (k:Nat):Bool:=(ak m.fA.aj k).live
variable {m:iM} {w:World} {lo:Nat} {w':World} {v:Value} (l:List aU) (hs:List bD) (en nf ns:Int)
theorem H7 (hk:dD m.fA=0) (ho:¬2000<m.out.length):eu m=if m.procs.length=m.fA.aj.length/\iK m.procs m.out (CZ m)=true then 0 else 1:=by
 unfold eu;rw[aH (λg=>g hk),aH ho]
theorem Yv (hk:dD m.fA=0) (ho:¬2000<m.out.length) {n:Nat} (hn:n<=m.procs.length) (h:gT m.procs (CZ m) n=false):eu m=1:=by
 rw[H7 hk ho,aH];intro g;have:=g.2;unfold iK at this;rw[Bi h _ hn] at this;cases this
theorem Yu (hk:dD m.fA=0) (ho:¬2000<m.out.length) (h:fK m.out m.procs.length m.out.length=false):eu m=1:=by
 rw[H7 hk ho,aH];intro g;have:=g.2;unfold iK at this;rw[h,Hh] at this;cases this
theorem ad4 (hk:dD m.fA=0) (ho:¬2000<m.out.length) (h:¬m.procs.length=m.fA.aj.length):eu m=1:=by
 rw[H7 hk ho,aH (λg=>h g.1)]
theorem ad5 (hk:dD m.fA=0) (ho:¬2000<m.out.length) (h:m.procs.length=m.fA.aj.length) (h1:gT m.procs (CZ m) m.procs.length=true) (h2:fK m.out m.procs.length m.out.length=true):eu m=0:=by
 rw[H7 hk ho,aQ ⟨h,by unfold iK;rw[h1,h2];rfl⟩]
theorem Us (m:iM) (a:gN) (ar ao:Option Addr) (cr co:Nat) (w:World) (h:rR w a ar ao m) (hf:Ct m) :
  Calls prog 16 #[.agg (eU m a ar ao cr co)] w λe w'=>e=.returned (I (eu m))/\Below w.heap.size w w':=by
 have Q:=hf.out;have FC:=hf.procs;have a8:=hf.fA.np;unfold bM at Q FC a8;have zh:Hid (∀V,Below w.heap.size w V->Calls prog 42 #[.agg (bj a m.fA)] V λe w'=>e=.returned (I (dD m.fA))/\Below V.heap.size V w'):=λV hV=>by
  have:=XJ m.fA a V (h.fA.below hV) hf.fA;rw[Ub] at this;exact this
 have K:Hid (∀V,Below w.heap.size w V->Calls prog 43 #[.slice ao m.out.length co,I (m.procs.length:Int)] V λe w'=>e=.returned (.bool (fK m.out m.procs.length m.out.length))/\Below V.heap.size V w'):=λV hV=>Nz m.out m.procs.length ao co V (h.out.below hV) Q FC
 have Ke:Hid (∀V,Below w.heap.size w V->sZ V ar m.procs/\su V a.aP m.fA.aj):=λV hV=>⟨h.procs.below hV,h.fA.aj.below hV⟩
 have eB:=ai ((aN w.heap.size w).alloc (aJ _) (.cells (eU m a ar ao cr co) 34));have X0:=ai (bG w (eU m a ar ao cr co) 34);have Sv:Hid (¬dD m.fA=0->eu m=dD m.fA):=λc=>by unfold eu;rw[aQ c]
 have vd:Hid (dD m.fA=0->2000<m.out.length->eu m=2):=λc d=>by unfold eu;rw[aH (λg=>g c),aQ d]
 have DY:Hid (dD m.fA=0->¬2000<m.out.length->¬m.procs.length=m.fA.aj.length->eu m=1):=λc d=>ad4 c d
 have ZH:Hid (dD m.fA=0->¬2000<m.out.length->fK m.out m.procs.length m.out.length=false->eu m=1):=λc d=>Yu c d
 have J:Hid (dD m.fA=0->¬2000<m.out.length->∀n,n<=m.procs.length->gT m.procs (CZ m) n=false->eu m=1):=λc d n=>Yv c d
 have G:Hid (dD m.fA=0->¬2000<m.out.length->m.procs.length=m.fA.aj.length->gT m.procs (CZ m) m.procs.length=true->fK m.out m.procs.length m.out.length=true->eu m=0):=λc d=>ad5 c d
 have ad:Hid (∀k,gT m.procs (CZ m) (k+1)=(gT m.procs (CZ m) k&&qu (aR m.procs k) (CZ m k))):=λk=>by
  rw[Zf];rfl
 obtain⟨A,hA⟩:=ex (eu m);obtain⟨wf,a7⟩:=ex (fK m.out m.procs.length m.out.length);generalize dD m.fA=ck at zh Sv vd DY ZH J G;rw[<- hA] at Sv vd DY ZH J G;rw[<- a7] at K ZH G;rw[<- hA];unfold eU at eB X0 ⊢;unfold bj at zh;obtain⟨ns,Ic⟩:=ex m.fA.aj.length;obtain⟨np,Ie⟩:=ex m.procs.length;obtain⟨no,QH⟩:=ex m.out.length;obtain⟨n0,X⟩:∃n,n=m.fA.aD.length:=⟨_,rfl⟩;obtain⟨n1,MO⟩:∃n,n=m.fA.frames.length:=⟨_,rfl⟩;obtain⟨n2,Br⟩:∃n,n=m.fA.slots.length:=⟨_,rfl⟩;obtain⟨n4,Ho⟩:∃n,n=m.fA.hand:=⟨_,rfl⟩;rw[<- Ic,<- Ie,<- QH,<- X,<- MO,<- Br,<- Ho] at eB X0 ⊢;rw[<- Ic,<- X,<- MO,<- Br,<- Ho] at zh;rw[<- QH] at K vd DY ZH J G Q;rw[<- Ie] at K DY J G FC;rw[<- Ic] at DY G a8;have aa:=ai Ic;have ab:=ai Ie;clear h hf hA a7 Ic Ie QH X MO Br Ho;go_enter func16,ntmps16;go_upto_region 1 with fail;obtain⟨x0,hx⟩:=ex w.heap.size;generalize w.alloc (.cells #[.slice a.aS n0 a.cS,.slice a.aF n1 a.cF,.slice a.aL n2 a.cL,.slice a.aP ns a.cP,I n4,.slice ar np cr,.slice ao no co] 34)=W0 at eB X0 ⊢;rw[<- hx] at X0 ⊢;clear hx;obtain⟨k0,k1,k2,k3,k4,k5,k6⟩:=lD X0.o;go_upto_region 2 with(go_at_call 42;refine(zh.o _ eB.o).mono ?_;rintro e w1 ⟨rfl,hb⟩;have L1:=ai hb;clear hb);have X1:=ai (aO X0.o L1.o (aM X0.o));have B1:=ai (eB.o.trans (L1.o.mono eB.o.size));obtain⟨y0,y1,y2,y3,y4,y5,y6⟩:=lD X1.o;clear k0 k1 k2 k3 k4 k5 k6 X0 L1 eB zh;by_cases c:ck=0
 . subst c;by_cases c2:2000<no
   . have HA:=ai (vd.o rfl c2);clear Sv vd DY ZH J G;go_wp2;go_ret;exact⟨by rw[HA.o];rfl,B1.o⟩
   have Z:=ai (DY.o rfl c2);have a0:=ai (ZH.o rfl c2);have a4:=ai (J.o rfl c2);have a6:=ai (G.o rfl c2);clear Sv vd DY ZH J G;by_cases c3:np=ns
   . subst c3;cases wf with
     | false =>
      have HA:=ai (a0.o rfl);go_wp2_with (go_at_call 43;refine(K.o _ B1.o).mono ?_;rintro e w2 ⟨rfl,hb⟩;have L2:=ai (B1.o.trans (hb.mono B1.o.size));clear hb);go_ret;exact⟨by rw[HA.o];rfl,L2.o⟩
     | true =>
      go_wp2_with (go_at_call 43;refine(K.o _ B1.o).mono ?_;rintro e w2 ⟨rfl,hb⟩;have L2:=ai (B1.o.trans (hb.mono B1.o.size));have X2:=ai (aO X1.o hb (aM X1.o));clear hb)
      have ae:Hid (∀V,Below w2.heap.size w2 V->V.heap[x0]?=some (.cells #[.slice a.aS n0 a.cS,.slice a.aF n1 a.cF,.slice a.aL n2 a.cL,.slice a.aP np a.cP,I n4,.slice ar np cr,.slice ao no co] 34 (0,0))/\Below w.heap.size w V):=λV hV=>⟨aO X2.o hV (aM X2.o),L2.o.trans (hV.mono L2.o.size)⟩
      clear Z a0 K B1 X1 X2 L2 y0 y1 y2 y3 y4 y5 y6;go_loopw [4] (λiv wq=>∃k:Nat,k<=np/\iv=I (k:Int)/\gT m.procs (CZ m) k=true/\Below w2.heap.size w2 wq) (λiv _=>np-(intOf iv).toNat)
      case atStart=>exact⟨0,ω,rfl,rfl,aN _ _⟩
      case round =>
       obtain⟨k,hk,rfl,M,hb⟩:=hrel;have UG:=ai M;have HB:=ai hb;obtain⟨U,a1⟩:=ae.o _ hb;obtain⟨p1,p2⟩:=Ke.o _ a1;have XB:=ai U;have BB:=ai a1;obtain⟨y0,y1,y2,y3,y4,y5,y6⟩:=lD U;clear M hb U a1;by_cases ck:k<np
       . obtain⟨b,off,ac,F,dZ⟩:=p1 (by rw[<- ab.o];omega);subst ac;obtain⟨c0,c1,a3,c3,c4,c5,c6,N,c8,c9,a2,W,O⟩:=dZ k (by rw[<- ab.o];omega);obtain⟨sb,so,a9,a5,Td⟩:=p2 (by rw[<- aa.o];omega);obtain⟨va,ap,ag,v0,v1,v2,_⟩:=Td k (by rw[<- aa.o];omega);rw[a9] at y3;obtain⟨q,hq⟩:=ex (aR m.procs k);obtain⟨lv,T⟩:=ex ((ak m.fA.aj k).live);have VH:Hid (gT m.procs (CZ m) (k+1)=qu q lv):=by
          show _=_;rw[ad.o,UG.o,ju,hq,T]
         have Y:=ai (a4.o (k+1) ω);rw[<- hq] at c0 c1 a3 c3 c4 c5 c6 N c8 c9 a2 W O;rw[<- T] at v0;have yL:=iH wr;have B:=@fG wr;have xl:=aM XB.o;have f5:∀x:cM wr.heap.size wr,x.world.cell? (Ad x0 5)=some (.slice (some (Ad b off)) np cr):=λx=>(B x _ _ xl).trans y5
         have f3:∀x:cM wr.heap.size wr,x.world.cell? (Ad x0 3)=some (.slice (some (Ad sb so)) np a.cP):=λx=>(B x _ _ xl).trans y3
         have fl:∀x:cM wr.heap.size wr,x.world.cell? (Ad sb (so+k*3))=some (.bool lv):=λx=>(B x _ _ a5).trans v0
         have e0:∀x:cM wr.heap.size wr,x.world.cell? (Ad b (off+k*13))=some (I (q.r 0)):=λx=>(B x _ _ F).trans c0
         have e1:∀x:cM wr.heap.size wr,x.world.cell? (Ad b (off+k*13+1))=some (I (q.r 1)):=λx=>(B x _ _ F).trans c1
         have e2:∀x:cM wr.heap.size wr,x.world.cell? (Ad b (off+k*13+2))=some (I (q.r 2)):=λx=>(B x _ _ F).trans a3
         have e3:∀x:cM wr.heap.size wr,x.world.cell? (Ad b (off+k*13+3))=some (I (q.r 3)):=λx=>(B x _ _ F).trans c3
         have e4:∀x:cM wr.heap.size wr,x.world.cell? (Ad b (off+k*13+4))=some (I (q.r 4)):=λx=>(B x _ _ F).trans c4
         have e5:∀x:cM wr.heap.size wr,x.world.cell? (Ad b (off+k*13+5))=some (I (q.r 5)):=λx=>(B x _ _ F).trans c5
         have e6:∀x:cM wr.heap.size wr,x.world.cell? (Ad b (off+k*13+6))=some (I (q.r 6)):=λx=>(B x _ _ F).trans c6
         have e7:∀x:cM wr.heap.size wr,x.world.cell? (Ad b (off+k*13+7))=some (I (q.r 7)):=λx=>(B x _ _ F).trans N
         have e8:∀x:cM wr.heap.size wr,x.world.cell? (Ad b (off+k*13+8))=some (I q.pc):=λx=>(B x _ _ F).trans c8
         have e9:∀x:cM wr.heap.size wr,x.world.cell? (Ad b (off+k*13+9))=some (I q.st):=λx=>(B x _ _ F).trans c9
         have an:∀x:cM wr.heap.size wr,x.world.cell? (Ad b (off+k*13+10))=some (I q.cd):=λx=>(B x _ _ F).trans a2
         have am:∀x:cM wr.heap.size wr,x.world.cell? (Ad b (off+k*13+11))=some (I q.fk):=λx=>(B x _ _ F).trans W
         have al:∀x:cM wr.heap.size wr,x.world.cell? (Ad b (off+k*13+12))=some (I q.fa):=λx=>(B x _ _ F).trans O
         have Cv:Hid (∀x:cM wr.heap.size wr,Calls prog 44 #[.agg #[I (q.r 0),I (q.r 1),I (q.r 2),I (q.r 3),I (q.r 4),I (q.r 5),I (q.r 6),I (q.r 7),I q.pc,I q.st,I q.cd,I q.fk,I q.fa],.bool lv] x.world λe w'=>e=.returned (.bool (qu q lv))/\∃y:cM wr.heap.size wr,w'=y.world):=λx=>ig (λV=>PK q lv V) x
         generalize qu q lv=pf at Cv VH;have ah:(k:Int)<(np:Int):=by omega
         clear hq T B xl dZ Td a9 v1 v2 c0 c1 a3 c3 c4 c5 c6 N c8 c9 a2 W O v0 p1 p2 F a5;cases pf with
         | false =>
          have HA:=ai (Y.o VH.o);clear VH Y;go_wp2_with fail;refine cB κ κ ?_
          repeat (first | go_big_quiet_step ((go_at_call 44;exact Cv.o _)) | quiet_step ((go_at_call 44;exact Cv.o _)))
          refine fL ?_;intro _ R;obtain⟨x,L⟩:=R;subst L;go_wp2;go_ret;exact⟨by rw[HA.o];rfl,BB.o.trans (x.keeps.mono BB.o.size)⟩
         | true =>
          clear Y;go_wp2_with fail;refine cB κ κ ?_
          repeat (first | go_big_quiet_step ((go_at_call 44;exact Cv.o _)) | quiet_step ((go_at_call 44;exact Cv.o _)))
          refine fL ?_;intro _ R;obtain⟨x,L⟩:=R;subst L;go_wp2;go_roundw
          case rel=>exact⟨k+1,ω,by go_num,VH.o,HB.o.trans (x.keeps.mono HB.o.size)⟩
          case measure=>simp[intOf];omega
       obtain rfl:k=np:=by omega
       have HA:=ai (a6.o (by first | rfl | trivial) UG.o (by first | rfl | trivial));clear p1 p2;go_wp2;go_ret;exact⟨by rw[HA.o];rfl,BB.o⟩
   have HA:=ai (Z.o c3);have cb:((np:Int)==(ns:Int))=false:=by rw[jx];omega
   have af:((np:Int) != (ns:Int))=true:=by rw[Kj];omega
   clear c3 Z a0 a4 a6;go_wp2;go_ret;exact⟨by rw[HA.o];rfl,B1.o⟩
 have HA:=ai (Sv.o c);have cb:(ck==0)=false:=by rw[jx];exact c
 have af:(ck != 0)=true:=by rw[Kj];exact c
 clear c Sv vd DY ZH J G;go_wp2;go_ret;exact⟨by rw[HA.o];rfl,B1.o⟩
theorem I8 (he:cR en):(¬(kz l hs en nf ns).2=0/\(kz l hs en nf ns).1=wY)\/((kz l hs en nf ns).2=0/\(kz l hs en nf ns).1=⟨lK l hs nf ns,[lq en],[]⟩/\iF l hs en=0/\3<=nf/\nf<=64/\0<=ns/\ns<=512):=by
 rcases Mg l hs en nf ns he with c | ⟨c1,c2,c3,c4,c5,_,lD,_⟩
 . refine .inl ⟨c,?_⟩;unfold kz at c ⊢;by_cases d:(nz l hs en nf ns).2=0
   . rw[aQ d] at c;exact absurd rfl c
   rw[aH d]
 rw[lD];exact .inr ⟨rfl,rfl,c1,c2,c3,c4,c5⟩
theorem aed (he:cR en):(∀h,cD (kz l hs en nf ns).1.fA.aD h->kN (aV (kz l hs en nf ns).1.fA h))/\(kz l hs en nf ns).1.procs.length<=140737488351232/\(kz l hs en nf ns).1.out.length<=140737488351232:=by
 rcases I8 l hs en nf ns he with⟨_,c⟩ | ⟨_,c,d1,_,d3,_,d5⟩
 . rw[c];exact⟨λh s=>aby s,rB _,rB _⟩
 rw[c];exact⟨λh s=>adz d1 d3 d5 s,(by show(1:Nat)<=140737488351232;decide),rB _⟩
theorem aef (N:Nat) (w:World):ic N wY #[Nl,Nl,Nl,Nl,I 0,Nl,Nl] w:=⟨[],Sk,none,0,none,0,rfl,rfl,λU _=>VD U⟩
theorem aee:(kz l hs en nf ns).2=(nz l hs en nf ns).2:=by
 unfold kz;by_cases d:(nz l hs en nf ns).2=0
 . rw[aQ d,d]
 rw[aH d]
theorem UA (aa ao:Option Addr) (na ca cap:Nat) (m:iM) (a:gN) (ar au:Option Addr) (cr cu:Nat) (w:World) (ha:eN w (.slice aa na ca) l) (hf:dG l) (h:gz w ao hs) (Jv:m6 hs) (hcap:hs.length<=cap) (he:cR en) (hM:rR w a ar au m) (hFM:Ct m)
  (hbg:∀V,Calls prog 13 #[] V λe w'=>e=.returned (.bool true)/\Below V.heap.size V w') :
  Calls prog 3 #[.agg #[.slice aa na ca,.slice ao hs.length cap,I en],I nf,I ns,.agg (eU m a ar au cr cu)] w λe w'=>e=.returned (.bool true)/\Below w.heap.size w w':=by
 have ap:=ai (I8 l hs en nf ns he);have OI:=ai (aed l hs en nf ns he);have Th:Hid (∀V,Below w.heap.size w V->Calls prog 10 #[.agg #[.slice aa na ca,.slice ao hs.length cap,I en],I nf,I ns] V (afx V (kz l hs en nf ns).1 (kz l hs en nf ns).2)):=λV hV=>(OG l hs en nf ns _ ao cap V (ha.below hV) hf (h.below hV) Jv hcap he).mono λe w' ho=>aiQ ho
 have an:Hid (∀V,Below w.heap.size w V->Calls prog 11 #[.agg #[.slice aa na ca,.slice ao hs.length cap,I en],I nf,I ns] V λe w'=>e=.returned (I (kz l hs en nf ns).2)/\Below V.heap.size V w'):=λV hV=>by
  rw[aee];exact Pr l hs en nf ns _ ao cap V (ha.below hV) hf (h.below hV) Jv he
 have Sr:Hid ((kz l hs en nf ns).1=⟨lK l hs nf ns,[lq en],[]⟩->iF l hs en=0->3<=nf->nf<=64->0<=ns->ns<=512->∀V,Below w.heap.size w V->Calls prog 12 #[.agg #[.slice aa na ca,.slice ao hs.length cap,I en],I nf,I ns] V λe w'=>∃T O L F q Q M Z X A G J a1 r a0 Y U B W,e=.returned (.agg #[.slice T O L,.slice F q Q,.slice M Z X,.slice A G J,I a1,.slice r a0 Y,.slice U B W])/\ic V.heap.size (kz l hs en nf ns).1 #[.slice T O L,.slice F q Q,.slice M Z X,.slice A G J,I a1,.slice r a0 Y,.slice U B W] w'/\Below V.heap.size V w'):=λg1 g2 g3 g4 g5 g6 V hV=>by
  rw[g1];refine(Md l hs en nf ns aa ao na ca cap V (ha.below hV) (h.below hV) g2 g3 g4 g5 g6).mono ?_;rintro e w' ⟨s0,n0,q0,s1,n1,q1,s2,n2,q2,s3,n3,q3,hd,pb,e1,e2,e3⟩;exact⟨_,_,_,_,_,_,_,_,_,_,_,_,_,_,_,_,_,_,_,e1,e2,e3⟩
 have Sv:Hid (∀V,Below w.heap.size w V->Calls prog 15 #[.agg (eU m a ar au cr cu)] V λe w'=>e=.returned (I (eu m))/\Below V.heap.size V w'):=λV hV=>L5 m a ar au cr cu V (hM.below hV) hFM
 have vd:Hid (∀V,Below w.heap.size w V->Calls prog 16 #[.agg (eU m a ar au cr cu)] V λe w'=>e=.returned (I (eu m))/\Below V.heap.size V w'):=λV hV=>Us m a ar au cr cu V (hM.below hV) hFM
 obtain⟨CV,b1⟩:=ex (eu m);rw[<- b1] at Sv vd;obtain⟨g0,h0,i0,g1,h1,i1,g2,h2,i2,g3,h3,i3,h4,g5,h5,i5,g6,h6,i6,b2⟩:∃(g0:Option Addr) (h0 i0:Nat) (g1:Option Addr) (h1 i1:Nat) (g2:Option Addr) (h2 i2:Nat) (g3:Option Addr) (h3 i3:Nat) (h4:Int) (g5:Option Addr) (h5 i5:Nat) (g6:Option Addr) (h6 i6:Nat),eU m a ar au cr cu=#[.slice g0 h0 i0,.slice g1 h1 i1,.slice g2 h2 i2,.slice g3 h3 i3,I h4,.slice g5 h5 i5,.slice g6 h6 i6]:=⟨_,_,_,_,_,_,_,_,_,_,_,_,_,_,_,_,_,_,_,rfl⟩;rw[b2] at Sv vd ⊢;obtain⟨R1,Kb⟩:∃R,R=kz l hs en nf ns:=⟨_,rfl⟩;rw[<- Kb] at ap OI Th an Sr;obtain⟨M1,er⟩:=R1;simp only at ap OI Th an Sr;have b3:=ai hbg;obtain⟨nh,aS⟩:=ex hs.length;rw[<- aS] at Th an Sr ⊢;obtain⟨W0,hW⟩:=ex ((w.alloc (.cells #[.slice aa na ca,.slice ao nh cap,I en] 25)).alloc (.cells #[.slice g0 h0 i0,.slice g1 h1 i1,.slice g2 h2 i2,.slice g3 h3 i3,I h4,.slice g5 h5 i5,.slice g6 h6 i6] 34));have aD:(w.alloc (.cells #[.slice aa na ca,.slice ao nh cap,I en] 25)).heap.size=w.heap.size+1:=by simp
 have eB:Hid (Below w.heap.size w W0):=by rw[hW];exact((aN w.heap.size w).alloc (aJ _) _).alloc ξ _
 have X0:Hid (W0.heap[w.heap.size]?=some (.cells #[.slice aa na ca,.slice ao nh cap,I en] 25 (0,0))):=by rw[hW];exact bB (bG w #[.slice aa na ca,.slice ao nh cap,I en] 25) (.cells #[.slice g0 h0 i0,.slice g1 h1 i1,.slice g2 h2 i2,.slice g3 h3 i3,I h4,.slice g5 h5 i5,.slice g6 h6 i6] 34)
 have Y0:Hid (W0.heap[w.heap.size+1]?=some (.cells #[.slice g0 h0 i0,.slice g1 h1 i1,.slice g2 h2 i2,.slice g3 h3 i3,I h4,.slice g5 h5 i5,.slice g6 h6 i6] 34 (0,0))):=by rw[hW,<- aD];exact bG (w.alloc (.cells #[.slice aa na ca,.slice ao nh cap,I en] 25)) #[.slice g0 h0 i0,.slice g1 h1 i1,.slice g2 h2 i2,.slice g3 h3 i3,I h4,.slice g5 h5 i5,.slice g6 h6 i6] 34
 have aY:=ai hW;clear ha hf h Jv hcap he hM hFM hbg Kb aS aD hW b1 b2;go_enter func3,ntmps3;go_upto_region 1 with fail;rw[<- aY.o];obtain⟨x,hx⟩:=ex w.heap.size;obtain⟨y,hy⟩:=ex (w.heap.size+1);rw[<- hy] at Y0 ⊢;rw[<- hx] at X0 ⊢;clear hx hy aY;obtain⟨l0,l1,l2⟩:=uo X0.o;go_upto_region 2 with(go_at_call 10;refine(Th.o _ eB.o).mono ?_;rintro e wa ⟨a4,ab,a8,a7,af,ag,am,ae,a9,aj,al,ac,a5,a6,ad,a3,ah,rfl,hk,hb⟩;have Ka:=ai hk;have La:=ai hb;clear hk hb);have b0:=ai Ka.o;have aC:Hid (Below wa.heap.size wa (wa.alloc (.cells #[.slice a4 ab a8,.slice a7 af ag,.slice am ae a9,.slice aj al ac,I a5,.slice a6 M1.procs.length ad,.slice a3 M1.out.length ah] 34))):=(aN _ _).alloc (aJ _) _;have Va:=ai (aec Ka.o);have Da:=ai (La.o.alloc La.o.size (.cells #[.slice a4 ab a8,.slice a7 af ag,.slice am ae a9,.slice aj al ac,I a5,.slice a6 M1.procs.length ad,.slice a3 M1.out.length ah] 34));obtain⟨Wa,hW⟩:=ex (wa.alloc (.cells #[.slice a4 ab a8,.slice a7 af ag,.slice am ae a9,.slice aj al ac,I a5,.slice a6 M1.procs.length ad,.slice a3 M1.out.length ah] 34));obtain⟨xa,hx⟩:=ex wa.heap.size;rw[<- hW] at Va Da aC ⊢;rw[<- hx] at Va ⊢;clear hW hx Ka La;have Ba:=ai (eB.o.trans (Da.o.mono eB.o.size));obtain⟨l3,l4,l5⟩:=uo (aO X0.o Da.o (aM X0.o));clear l0 l1 l2 Th;go_upto_region 3 with(go_at_call 11;refine(an.o _ Ba.o).mono ?_;rintro e w2 ⟨rfl,hb⟩;have L2:=ai hb;clear hb);go_upto_region 4 with fail;have DR:=ai ((Da.o.trans (L2.o.mono Da.o.size)).alloc (Da.o.trans (L2.o.mono Da.o.size)).size (.cells #[Nl,Nl,Nl,Nl,I 0,Nl,Nl] 34));have az:=ai ((Va.o.below L2.o).below ((aN _ _).alloc (aJ _) (.cells #[Nl,Nl,Nl,Nl,I 0,Nl,Nl] 34)));have RB:=ai (bG w2 #[Nl,Nl,Nl,Nl,I 0,Nl,Nl] 34);have aq:=ai (aC.o.trans (((L2.o.trans (((aN w2.heap.size w2).alloc (aJ _) (.cells #[Nl,Nl,Nl,Nl,I 0,Nl,Nl] 34)).mono L2.o.size))).mono aC.o.size));have aG:Hid (wa.heap.size<=w2.heap.size):=gj aC.o.size L2.o.size;have aF:Hid (W0.heap.size<=w2.heap.size):=gj Da.o.size L2.o.size;have aE:Hid (xa<w2.heap.size):=gm (aM Va.o.1) L2.o.size;obtain⟨WR,aX⟩:=ex (w2.alloc (.cells #[Nl,Nl,Nl,Nl,I 0,Nl,Nl] 34));obtain⟨rb,MG⟩:=ex w2.heap.size;rw[<- aX] at DR az RB aq ⊢;rw[<- MG] at RB aF aE aG ⊢;have BR:=ai (eB.o.trans (DR.o.mono eB.o.size));clear aX MG Va Da L2 an l3 l4 l5 Ba;have b6:=ai (aM X0.o);obtain⟨l0,l1,l2⟩:=uo (aO X0.o DR.o (aM X0.o));go_upto_if 25 with fail;go_cut [] (λwx=>∃T O L F q Q M Z X A G J a1 r a0 Y U B W,EL xa M1 #[.slice a4 ab a8,.slice a7 af ag,.slice am ae a9,.slice aj al ac,I a5,.slice a6 M1.procs.length ad,.slice a3 M1.out.length ah] wx/\EL rb M1 #[.slice T O L,.slice F q Q,.slice M Z X,.slice A G J,I a1,.slice r a0 Y,.slice U B W] wx/\Below W0.heap.size W0 wx)
 case first =>
  rcases ap.o with⟨c,rfl⟩ | ⟨rfl,c,d1,d2,d3,d4,d5⟩
  . have cb:(er==0)=false:=by rw[jx];exact c
    clear c;go_wp2_with fail;go_meet
    case rel=>exact⟨_,_,_,_,_,_,_,_,_,_,_,_,_,_,_,_,_,_,_,az.o,⟨RB.o,0,aef 0 _⟩,DR.o⟩
  have Nt:=ai (Sr.o c d1 d2 d3 d4 d5);obtain⟨y0,y1,y2,y3,y4,y5,y6⟩:=lD RB.o;clear c d1 d2 d3 d4 d5;go_wp2_with (go_at_call 12;refine(Nt.o _ BR.o).mono ?_;rintro e w4 ⟨T,O,L,F,q,Q,M,Z,X,A,G,J,a1,r,a0,Y,U,B,W,rfl,hk,hb⟩;have K4:=ai hk;have L4:=ai hb;have R4:=ai (aO RB.o hb (aM RB.o));obtain⟨r0,r1,r2,r3,r4,r5,r6⟩:=lD R4.o;have rf:=br R4.o;clear hk hb);go_meet
  case rel =>
   have kU:=pC w4 rb (.slice T O L) (.slice F q Q) (.slice M Z X) (.slice A G J) (I a1) (.slice r a0 Y) (.slice U B W);have b5:=az.o.below L4.o;obtain⟨v1,N,v2⟩:=b5;refine⟨T,O,L,F,q,Q,M,Z,X,A,G,J,a1,r,a0,Y,U,B,W,⟨kU.keep v1 (λe=>by have:=aE.o;omega),_,b0.o.later ((aI.cA (aq.o.trans (L4.o.mono aq.o.size))).trans kU (λb hb e=>by have:=aG.o;omega))⟩,aeb K4.o R4.o (aM RB.o),aI.below (DR.o.trans (L4.o.mono DR.o.size)) kU (gj DR.o.size L4.o.size) (λb e=>by have:=aF.o;omega)⟩
 case rest =>
  obtain⟨T,O,L,F,q,Q,M,Z,X,A,G,J,a1,r,a0,Y,U,B,W,Ec,aP,hb⟩:=hcut;have NB:=ai Ec.1;have WB:=ai aP.1;have a2:=ai hb;have b4:Hid (∀V,Below wc.heap.size wc V->Calls prog 14 #[.agg #[.slice a4 ab a8,.slice a7 af ag,.slice am ae a9,.slice aj al ac,I a5,.slice a6 M1.procs.length ad,.slice a3 M1.out.length ah],.agg #[.slice T O L,.slice F q Q,.slice M Z X,.slice A G J,I a1,.slice r a0 Y,.slice U B W]] V λe w'=>e=.returned (.bool true)/\Below V.heap.size V w'):=λV hV=>by
   obtain⟨_,_,q1⟩:=Ec.below hV;obtain⟨_,_,q2⟩:=aP.below hV;exact Nv q1 q2 OI.o.1 OI.o.2.1 OI.o.2.2
  have DY:Hid (∀V,Below wc.heap.size wc V->Calls prog 15 #[.agg #[.slice g0 h0 i0,.slice g1 h1 i1,.slice g2 h2 i2,.slice g3 h3 i3,I h4,.slice g5 h5 i5,.slice g6 h6 i6]] V λe w'=>e=.returned (I CV)/\Below V.heap.size V w'):=λV hV=>Sv.o V (eB.o.trans ((a2.o.trans (hV.mono a2.o.size)).mono eB.o.size))
  have ZH:Hid (∀V,Below wc.heap.size wc V->Calls prog 16 #[.agg #[.slice g0 h0 i0,.slice g1 h1 i1,.slice g2 h2 i2,.slice g3 h3 i3,I h4,.slice g5 h5 i5,.slice g6 h6 i6]] V λe w'=>e=.returned (I CV)/\Below V.heap.size V w'):=λV hV=>vd.o V (eB.o.trans ((a2.o.trans (hV.mono a2.o.size)).mono eB.o.size))
  have uZ:Hid (∀V,Below wc.heap.size wc V->V.heap[xa]?=some (.cells #[.slice a4 ab a8,.slice a7 af ag,.slice am ae a9,.slice aj al ac,I a5,.slice a6 M1.procs.length ad,.slice a3 M1.out.length ah] 34 (0,0))/\V.heap[rb]?=some (.cells #[.slice T O L,.slice F q Q,.slice M Z X,.slice A G J,I a1,.slice r a0 Y,.slice U B W] 34 (0,0))/\V.heap[y]?=some (.cells #[.slice g0 h0 i0,.slice g1 h1 i1,.slice g2 h2 i2,.slice g3 h3 i3,I h4,.slice g5 h5 i5,.slice g6 h6 i6] 34 (0,0))):=λV hV=>⟨aO NB.o hV (aM NB.o),aO WB.o hV (aM WB.o),aO Y0.o (a2.o.trans (hV.mono a2.o.size)) (aM Y0.o)⟩
  clear Ec aP hb ap OI Sr b0 aq az RB DR BR aF aE aG b6 l0 l1 l2 Sv vd NB WB;go_upto_region 6 with fail;have aL:Hid (Below wc.heap.size wc wc.drew):=(aN _ _).drew;refine wp_region_held_drew (S:=λV=>Below wc.heap.size wc V) κ ?_ (λhHeld=>?_)
  . exact aL.o
  refine wpAnyH_ready (rs:=[0]) κ ξ ?_;refine AllReadyH.cons rfl (λK hK=>?_) AllReadyH.nil
  (try rw[aQ κ]);go_simp;go_at_call 13;refine(b3.o _).mono ?_;rintro e w6 ⟨rfl,E7⟩;have av:=ai (aL.o.trans (E7.mono aL.o.size));clear E7;try go_simp
  refine hK.out _ _ ?_ (λhHeld=>?_)
  . try dsimp only
    exact av.o
  clear hK K
  try simp only[Act.put,eQ,eI,ed]
  refine wZ 1 (by assumption) ?_ ?_ ?_ (hwt:=κ);rotate_left 1
  . intro V h;go_simp
    try with_reducible rfl
  try simp only[Act.put,eQ,eI,ed]
  refine wZ 2 (by assumption) ?_ ?_ ?_ (hwt:=κ);rotate_left 1
  . intro V h;go_simp
    try with_reducible rfl
  try simp only[Act.put,eQ,eI,ed]
  refine wZ 3 (by assumption) ?_ ?_ ?_ (hwt:=κ);rotate_left 1
  . intro V h;go_simp
    try with_reducible rfl
  try simp only[Act.put,eQ,eI,ed]
  refine wZ 4 (by assumption) ?_ ?_ ?_ (hwt:=κ);rotate_left 1
  . intro V h;go_simp
    try with_reducible rfl
  try simp only[Act.put,eQ,eI,ed]
  refine wZ 5 (by assumption) ?_ ?_ ?_ (hwt:=κ);rotate_left 1
  . intro V h;go_simp
    try with_reducible rfl
  try simp only[Act.put,eQ,eI,ed]
  refine wZ 6 (by assumption) ?_ ?_ ?_ (hwt:=κ);rotate_left 1
  . intro V h;go_simp
    try with_reducible rfl
  try simp only[Act.put,eQ,eI,ed]
  refine wZ 7 (by assumption) ?_ ?_ ?_ (hwt:=κ);rotate_left 1
  . intro V h;obtain⟨c1,c2,c3⟩:=uZ.o V h;obtain⟨x0,x1,x2,x3,x4,x5,x6⟩:=lD c1;obtain⟨z0,z1,z2,z3,z4,z5,z6⟩:=lD c2;obtain⟨k0,k1,k2,k3,k4,k5,k6⟩:=lD c3;go_simp
    try with_reducible rfl
  try simp only[Act.put,eQ,eI,ed]
  refine wZ 8 (by assumption) ?_ ?_ ?_ (hwt:=κ);rotate_left 1
  . intro V h;obtain⟨c1,c2,c3⟩:=uZ.o V h;obtain⟨x0,x1,x2,x3,x4,x5,x6⟩:=lD c1;obtain⟨z0,z1,z2,z3,z4,z5,z6⟩:=lD c2;obtain⟨k0,k1,k2,k3,k4,k5,k6⟩:=lD c3;go_simp
    try with_reducible rfl
  try simp only[Act.put,eQ,eI,ed]
  refine wpAnyH_ready (rs:=[9]) κ ξ ?_;refine AllReadyH.cons rfl (λK hK=>?_) AllReadyH.nil
  (try rw[aQ κ]);go_simp;go_at_call 14;refine(b4.o _ av.o).mono ?_;rintro e w7 ⟨rfl,E7⟩;have ay:=ai (av.o.trans (E7.mono av.o.size));clear E7;try go_simp
  refine hK.out _ _ ?_ (λhHeld=>?_)
  . try dsimp only
    exact ay.o
  clear hK K
  try simp only[Act.put,eQ,eI,ed]
  refine wZ 10 (by assumption) ?_ ?_ ?_ (hwt:=κ);rotate_left 1
  . intro V h;go_simp
    try with_reducible rfl
  try simp only[Act.put,eQ,eI,ed]
  refine wZ 11 (by assumption) ?_ ?_ ?_ (hwt:=κ);rotate_left 1
  . intro V h;go_simp
    try with_reducible rfl
  try simp only[Act.put,eQ,eI,ed]
  refine wZ 12 (by assumption) ?_ ?_ ?_ (hwt:=κ);rotate_left 1
  . intro V h;obtain⟨c1,c2,c3⟩:=uZ.o V h;obtain⟨x0,x1,x2,x3,x4,x5,x6⟩:=lD c1;obtain⟨z0,z1,z2,z3,z4,z5,z6⟩:=lD c2;obtain⟨k0,k1,k2,k3,k4,k5,k6⟩:=lD c3;go_simp
    try with_reducible rfl
  try simp only[Act.put,eQ,eI,ed]
  refine wZ 14 (by assumption) ?_ ?_ ?_ (hwt:=κ);rotate_left 1
  . intro V h;obtain⟨c1,c2,c3⟩:=uZ.o V h;obtain⟨x0,x1,x2,x3,x4,x5,x6⟩:=lD c1;obtain⟨z0,z1,z2,z3,z4,z5,z6⟩:=lD c2;obtain⟨k0,k1,k2,k3,k4,k5,k6⟩:=lD c3;go_simp
    try with_reducible rfl
  try simp only[Act.put,eQ,eI,ed]
  refine wpAnyH_ready (rs:=[13]) κ ξ ?_;refine AllReadyH.cons rfl (λK hK=>?_) AllReadyH.nil
  (try rw[aQ κ]);go_simp;go_at_call 15;refine(DY.o _ ay.o).mono ?_;rintro e w8 ⟨rfl,E7⟩;have aw:=ai (ay.o.trans (E7.mono ay.o.size));clear E7;try go_simp
  refine hK.out _ _ ?_ (λhHeld=>?_)
  . try dsimp only
    exact aw.o
  clear hK K
  try simp only[Act.put,eQ,eI,ed]
  refine wpAnyH_ready (rs:=[15]) κ ξ ?_;refine AllReadyH.cons rfl (λK hK=>?_) AllReadyH.nil
  (try rw[aQ κ]);go_simp;go_at_call 16;refine(ZH.o _ aw.o).mono ?_;rintro e w9 ⟨rfl,E7⟩;have aH:=ai (aw.o.trans (E7.mono aw.o.size));clear E7;try go_simp
  refine hK.out _ _ ?_ (λhHeld=>?_)
  . try dsimp only
    exact aH.o
  clear hK K
  try simp only[Act.put,eQ,eI,ed]
  refine wZ 16 (by assumption) ?_ ?_ ?_ (hwt:=κ);rotate_left 1
  . intro V h;go_simp
    try with_reducible rfl
  try simp only[Act.put,eQ,eI,ed]
  refine wZ 17 (by assumption) ?_ ?_ ?_ (hwt:=κ);rotate_left 1
  . intro V h;go_simp
    try with_reducible rfl
  try simp only[Act.put,eQ,eI,ed]
  refine wpAnyH_ready (rs:=[18]) κ ξ ?_;refine AllReadyH.cons rfl (λK hK=>?_) AllReadyH.nil;go_simp;refine hK.out _ _ ?_ (λhHeld=>?_)
  . try dsimp only
    exact aH.o
  clear hK K
  try simp only[Act.put,eQ,eI,ed]
  refine wpAnyH_done κ ?_ _;go_wp2;go_ret;exact⟨ξ,eB.o.trans ((a2.o.trans (aH.o.mono a2.o.size)).mono eB.o.size)⟩
def Ds (R:Option (List qc)) (w:World) (e:Ending) (w':World):Prop:=Below w.heap.size w w'/\match R with
 | none=>e=.returned (.tuple #[Nl,.bool false])
 | some ps=>∃v,e=.returned (.tuple #[v,.bool true])/\w'.ownsRow w.heap.size 282 2 v ps.length (ps.flatMap K9)
theorem Vf:(prog.info? 145).map (λi=>(i.zero,i.size,i.bytes))=some (some (.agg #[I 0,.string ⟨#[]⟩,Nl]),3,48):=by rfl
structure B6 (lo:Nat) (w:World) (v:Value) (hs:List bD):Prop where
 row:w.ownsRow lo 145 3 v hs.length (hs.flatMap FZ)
 fix:afi v.ownBlock w hs
theorem B6.below {hs:List bD} (h:B6 lo w v hs) (hb:Below w.heap.size w w'):B6 lo w' v hs:=⟨Eh h.row hb,λk hk=>(h.fix k hk).below hb⟩
theorem B6.nil (lo:Nat) (w:World):B6 lo w Nl []:=⟨nt _ _ _ _,λk hk=>Γ⟩
theorem B6.has {hs:List bD} (h:B6 lo w v hs):∃ao cap,v=.slice ao hs.length cap/\gz w ao hs/\hs.length<=cap:=by
 have hr:=h.row;rcases hr.2 with⟨hv,h0⟩ | ⟨g,cap,A,hv,r,hg,b,y,B,q⟩
 . exact⟨none,0,Γ,λhl=>ω,ω⟩
 rw[hv] at hr;refine⟨some (Ad g 0),cap,hv,λ_=>⟨g,0,rfl,aM hg,λk hk=>?_⟩,b⟩;rw[mi];have hh:∀j,j<3->w.cell? (Ad g (k*3+j))=(FZ (aZ hs k))[j]?:=λj hj=>(hr.cellAt _ ω).trans (vJ FZ 3 (λ_=>rfl) zi hs k j hk hj)
 exact⟨hh 0 ω,hh 1 ω,hh 2 ω,(h.fix k hk).has⟩
theorem af3 {base:Nat} {l:List mZ} (h:w.ownsRow base 226 2 v l.length (l.flatMap Dv)) (rb:Option Nat) (MG:∀q,rb=some q->q<base):∃ao cap,v=.slice ao l.length cap/\rZ rb w ao l:=by
 rcases h.2 with⟨hv,h0⟩ | ⟨g,cap,A,hv,r,hg,B,y,F,b⟩
 . exact⟨none,0,Γ,λhl=>ω⟩
 subst hv;refine⟨some (Ad g 0),cap,rfl,λhl=>⟨g,0,rfl,aM hg,λe=>Γ,λk hk=>?_⟩⟩;rw[mi];have hh:∀j,j<2->w.cell? (Ad g (k*2+j))=(Dv (l8 l k))[j]?:=λj hj=>(h.cellAt _ ω).trans (vJ Dv 2 (λ_=>rfl) Rh l k j hk hj)
 exact⟨hh 0 ω,hh 1 ω⟩
theorem B6.more {hs:List bD} {x:bD} {g cap:Nat} (h:afi v.ownBlock w hs) (hx:rZ v.ownBlock w x.ao x.df) (hown:w'.ownsRow lo 145 3 (.slice (some (Ad g 0)) (hs.length+1) cap) (hs.length+1) (hs.flatMap FZ++FZ x)) (hg:w.grownBy w' v.ownBlock) (hs':w.heap.size<=w'.heap.size) (hat:v.ownBlock=some g\/g=w.heap.size) :
  B6 lo w' (.slice (some (Ad g 0)) (hs.length+1) cap) (hs++[x]):=by
 refine⟨Γ,λk hk=>?_⟩;have e:(Value.slice (some (Ad g 0)) (hs.length+1) cap).ownBlock=some g:=rfl;rw[e];rw[gM] at hk;by_cases hkl:k<hs.length
 . rw[Xb hs x k hkl];exact(h k hkl).grown hg hs' hat
 grind [Xc,rZ.grown]
def KS (R:Option (List F8)) (w:World) (e:Ending) (w':World):Prop:=Below w.heap.size w w'/\match R with
 | none=>e=.returned (.tuple #[Nl,.bool false])
 | some E=>∃(hs:List bD) (ao:Option Addr) (cap:Nat),hs.map eD=E/\e=.returned (.tuple #[.slice ao hs.length cap,.bool true])/\gz w' ao hs/\hs.length<=cap
structure uu (w:World) (r:Option Nat) (w':World) (r':Option Nat):Prop where
 size:w.heap.size<=w'.heap.size
 block:∀b,b<w.heap.size->some b≠r->w'.heap[b]?=w.heap[b]?
 row:r'=r\/∃g,r'=some g/\w.heap.size<=g
theorem uu.refl (w:World) (r:Option Nat):uu w r w r:=⟨aJ _,λ_ _ _=>rfl,.inl rfl⟩
theorem uu.trans {w1 w2:World} {r r1 r2:Option Nat} (h:uu w r w1 r1) (g:uu w1 r1 w2 r2):uu w r w2 r2:=by
 have hs:=h.size;refine⟨gj h.size g.size,λb hb hr=>?_,?_⟩
 . grind [block,row]
 grind [row]
theorem uu.cA (h:Below w.heap.size w w') (r:Option Nat):uu w r w' r:=⟨h.size,λb hb _=>h.block b hb,.inl rfl⟩
theorem uu.aj2 {r:Option Nat} {g:Nat} (h:w.grownBy w' r) (hs:w.heap.size<=w'.heap.size) (hat:r=some g\/g=w.heap.size):uu w r w' (some g) :=
 ⟨hs,λb hb hr=>h.block b hb hr,by
  grind⟩
theorem uu.keep {r r':Option Nat} {b:Nat} {o:Obj} (h:uu w r w' r') (hb:w.heap[b]?=some o) (hr:some b≠r):w'.heap[b]?=some o:=(h.block b (aM hb) hr).trans hb
def Q7 (rb:Option Nat) (w:World) (ao:Option Addr) (l:List qc):Prop:=0<l.length->∃b off,ao=some (Ad b off)/\b<w.heap.size/\some b≠rb/\Lc w b off l
theorem Q7.fr {rb rb':Option Nat} {ao:Option Addr} {l:List qc} (h:Q7 rb w ao l) (hf:uu w rb w' rb'):Lf w' ao l:=λhl=>by
 obtain⟨b,off,h1,h2,h3,h4⟩:=h hl;exact⟨b,off,h1,gm h2 hf.size,λi hi=>by
  obtain⟨c0,c1⟩:=h4 i hi
  grind [World.cell?_of_block,uu.block]⟩
theorem acQ {base:Nat} {l:List qc} (h:w.ownsRow base 282 2 v l.length (l.flatMap K9)) (rb:Option Nat) (MG:∀q,rb=some q->q<base):∃ao cap,v=.slice ao l.length cap/\Q7 rb w ao l:=by
 rcases h.2 with⟨hv,h0⟩ | ⟨g,cap,A,hv,r,hg,B,y,F,b⟩
 . exact⟨none,0,Γ,λhl=>ω⟩
 subst hv;refine⟨some (Ad g 0),cap,rfl,λhl=>⟨g,0,rfl,aM hg,λe=>Γ,λk hk=>?_⟩⟩;rw[mi];have hh:∀j,j<2->w.cell? (Ad g (k*2+j))=(K9 (yi l k))[j]?:=λj hj=>(h.cellAt _ ω).trans (vJ K9 2 (λ_=>rfl) ac0 l k j hk hj)
 exact⟨hh 0 ω,hh 1 ω⟩
def M6 (o:kI) (L:List aU) (s:qw):List aU:=(jz L (o.base+s.page) s.aY (wA s)).1
def F7 (o:kI) (L:List aU):Nat->List aU
 | 0=>L
 | k+1=>M6 o (F7 o L k) (fh o.i.jT k)
def CN (l:List kI):Nat->List aU
 | 0=>[]
 | k+1=>F7 (dX l k) (CN l k) (dX l k).i.jT.length
def Xh (a:aU):aU:=⟨a.page,a.aY,a.gh,false⟩
def qa (L:List aU):Nat->List aU
 | 0=>L
 | k+1=>(qa L k).set k (Xh (bw (qa L k) k))
def sG (l:List kI):List aU:=(CN l l.length).map Xh
theorem Rj (o:kI) (L:List aU) (h:dG L):∀k,dG (F7 o L k)
 | 0=>h
 | k+1=>SX _ _ _ _
theorem JF (l:List kI):∀k,dG (CN l k)
 | 0=>E0
 | k+1=>Rj _ _ (JF l k) _
theorem zj (L:List aU):∀k,(qa L k).length=L.length
 | 0=>rfl
 | k+1=>by simp only[qa,gX,zj L k]
theorem K8 (L:List aU):∀k,k<=L.length->∀j,(qa L k)[j]?=if j<k then L[j]?.map Xh else L[j]?
 | 0,_,j=>by rfl
 | k+1,hk,j=>by
  have ih:=K8 L k ω
  grind [bw,qa]
theorem Xg (L:List aU):qa L L.length=L.map Xh:=by
 apply D7
 grind [K8]
theorem Dw (b:Bool):∀(L:List aU) (k:Nat),k<L.length->(b9 L).set (k*4+3) (.bool b)=b9 (L.set k ⟨(bw L k).page,(bw L k).aY,(bw L k).gh,b⟩)
 | [],k,h=>by simp at h
 | a::r,0,h=>rfl
 | a::r,k+1,h=>by
  have ih:=Dw b r k Γ;show(pJ a++b9 r).set _ _=pJ a++b9 (r.set k _);rw[zJ _ _ (by simp[pJ];omega)];congr 1;have e:(k+1)*4+3-(pJ a).length=k*4+3:=by grind [pJ]
  rw[e,ih];rfl
end Go.Proofs.YtlgoihmkgaaemaaGreat
