import Derived.Test.YtlgoihmkgaaemaaGreatGP38
set_option maxHeartbeats 20000000
set_option linter.unusedVariables false
set_option maxRecDepth 100000
set_option linter.unusedSimpArgs false
namespace Go.Proofs.YtlgoihmkgaaemaaGreat
open Go.RowKit Tryz
variable (l:List aU) (hs:List bD) (en nf ns:Int) (va:Value) (ao:Option Addr) (cap:Nat)
theorem JE (w:World) (ha:eN w va l) (hf:dG l) (h:gz w ao hs) (Jv:m6 hs) (he:cR en) :
  Calls prog 32 #[.agg #[va,.slice ao hs.length cap,I en]] w λe w'=>e=.returned (I (Ai l hs en))/\Below w.heap.size w w':=by
 have zh:Hid (∀W,Below w.heap.size w W->Calls prog 80 #[va] W λe w'=>e=.returned (I (bf l))/\Below W.heap.size W w'):=λW hb=>Fw l va W (ha.below hb) hf
 have Nr:Hid (bf l=0->∀W,Below w.heap.size w W->Calls prog 34 #[va] W λe w'=>e=.returned (I (iy l l.length))/\Below W.heap.size W w'):=λhc W hb=>by
  have g:=EZ l va W (ha.below hb) hc;have e:bR l=iy l l.length:=by simp[bR,hc]
  rw[e] at g;exact g
 have a1:Hid (∀W,Below w.heap.size w W->Calls prog 81 #[.slice ao hs.length cap] W λe w'=>e=.returned (.bool (dR hs))/\Below W.heap.size W w'):=λW hb=>BW hs ao cap W (h.below hb) Jv
 have U:Hid (bf l=0->∀p W,Below w.heap.size w W->Calls prog 82 #[va,I p] W λe w'=>e=.returned (.tuple #[.agg #[I (bE l p).1.page,I (bE l p).1.aY,I (bE l p).1.gh,.bool (bE l p).1.zero],.bool (bE l p).2])/\Below W.heap.size W w'):=λhc p W hb=>by
  have g:=Db l va p W (ha.below hb) hc;have e:bc l p=bE l p:=by simp[bc,hc]
  rw[e] at g;exact g
 have Ke:Hid (bf l=0->∀p,(bE l p).2=true->0<=(bE l p).1.gh/\(bE l p).1.gh<=3):=λhc p=>Iz l hc p
 have HR:Hid (Ai l hs en=if bf l=0 then (if decide ((hs.length:Int)=iy l l.length)&&(dR hs&&(nV l hs hs.length&&wK l en)) then 0 else 1) else bf l):=rfl;have HE:Hid (wK l en=((bE l (en.tdiv 16)).2&&(decide (2<=(bE l (en.tdiv 16)).1.gh)&&decide (en.tmod 8=0)))):=rfl;have a7:=aB h;have hn:hs.length<=140737488351232:=Jv.1;obtain⟨aa,na,ca,rfl⟩:=JC ha;unfold cR at he;clear ha hf h Jv;have HB:=aB ((aN w.heap.size w).alloc (aJ _) (.cells #[.slice aa na ca,.slice ao hs.length cap,I en] 25));have BX:=aB (bG w #[.slice aa na ca,.slice ao hs.length cap,I en] 25);obtain⟨C,hC⟩:=ex (bf l);rw[<- hC] at zh Nr U Ke HR;rw[HR.o];clear hC HR;by_cases hc:C=0
 . subst hc;have Y:=aB (Nr.o rfl);have O:=aB (U.o rfl);have Z:=aB (Ke.o rfl);clear Nr U Ke;rw[aQ rfl];obtain⟨T,hT⟩:=ex (iy l l.length);rw[<- hT] at Y;rw[<- hT];clear hT;obtain⟨R,hR⟩:∃R:Int,R=(if decide ((hs.length:Int)=T)&&(dR hs&&(nV l hs hs.length&&wK l en)) then 0 else 1):=⟨_,rfl⟩;rw[<- hR];have VG:=aB hR;clear hR;go_enter func32,ntmps32;go_wp2_with (go_at_call 80;refine(zh.o _ HB.o).mono ?_;rintro e w1 ⟨rfl,hb⟩;have HB:=aB (HB.o.trans (hb.mono HB.o.size));have BX:=aB (aO BX.o hb (aM BX.o));clear hb);have E7:=aM BX.o;have yL:=iH w1;have Q:=@fG w1;have e0:∀x:cM w1.heap.size w1,x.world.cell? (Ad w.heap.size 0)=some (.slice aa na ca):=λx=>by rw[Q x _ _ E7];exact aA BX.o 0 rfl
   have e1:∀x:cM w1.heap.size w1,x.world.cell? (Ad w.heap.size 1)=some (.slice ao hs.length cap):=λx=>by rw[Q x _ _ E7];exact aA BX.o 1 rfl
   have Cv:Hid (∀W,Below w1.heap.size w1 W->Calls prog 34 #[.slice aa na ca] W λe w'=>e=.returned (I T)/\Below W.heap.size W w'):=λW hb=>Y.o W (HB.o.trans (hb.mono HB.o.size))
   have Cu:Hid (∀W,Below w1.heap.size w1 W->Calls prog 81 #[.slice ao hs.length cap] W λe w'=>e=.returned (.bool (dR hs))/\Below W.heap.size W w'):=λW hb=>a1.o W (HB.o.trans (hb.mono HB.o.size))
   clear Q Y a1 zh;by_cases hT:(hs.length:Int)=T
   . have F:decide ((hs.length:Int)=T)=true:=dW hT;rw[F,ju] at VG;cases er:dR hs with
     | false =>
      rw[er] at Cu VG;clear er F;refine cB κ κ ?_
      repeat (first | go_big_quiet_step ((first | (go_at_call 34;exact fy _ Cv.o) | (go_at_call 81;exact fy _ Cu.o))) | quiet_step ((first | (go_at_call 34;exact fy _ Cv.o) | (go_at_call 81;exact fy _ Cu.o))))
      refine fL ?_;intro _ K;obtain⟨x,y⟩:=K;subst y;go_wp2;go_ret;exact⟨rJ (by rw[VG.o];rfl),HB.o.trans (x.keeps.mono HB.o.size)⟩
     | true =>
      rw[er] at Cu VG;rw[ju] at VG;clear er F;refine cB κ κ ?_
      repeat (first | go_big_quiet_step ((first | (go_at_call 34;exact fy _ Cv.o) | (go_at_call 81;exact fy _ Cu.o))) | quiet_step ((first | (go_at_call 34;exact fy _ Cv.o) | (go_at_call 81;exact fy _ Cu.o))))
      refine fL ?_;intro _ K;obtain⟨x,y⟩:=K;subst y;go_wp2;have mh:=aB (HB.o.trans (x.keeps.mono HB.o.size));have a2:=aB (aO BX.o x.keeps E7);obtain⟨w2,X⟩:=ex x.world;rw[<- X] at mh a2;rw[<- X];clear X e0 e1 yL Cv Cu;go_loopw [4] (λi wr=>∃k:Nat,k<=hs.length/\i=I k/\nV l hs k=true/\Below w.heap.size w wr/\wr.heap[w.heap.size]?=some (.cells #[.slice aa na ca,.slice ao hs.length cap,I en] 25 (0,0))) (λi _=>hs.length-(intOf i).toNat)
      case atStart=>exact⟨0,ω,rfl,rfl,mh.o,a2.o⟩
      case round =>
       obtain⟨k,hk,rfl,a0,hb,J⟩:=hrel;have PE:=aB a0;have pI:=aB hb;have N:=aB J;have G:=aM J;have x0:=aA J 0 rfl;have x1:=aA J 1 rfl;have x2:=aA J 2 rfl;clear a0 J;by_cases hlt:k<hs.length
       . obtain⟨b,off,a3,ab,dZ⟩:=(a7.o.below hb) ω;subst a3;obtain⟨c0,-,-,-⟩:=dZ k hlt;have B:Hid (nV l hs (k+1)=((bE l (aZ hs k).page).2&&!(bE l (aZ hs k).page).1.zero)):=by
          show _=_;simp only[nV];rw[PE.o,ju];rfl
         have Su:Hid (((bE l (aZ hs k).page).2&&!(bE l (aZ hs k).page).1.zero)=false->nV l hs hs.length=false):=λe=>af9 l hs k hlt e
         obtain⟨p,hp⟩:=ex ((aZ hs k).page);rw[<- hp] at c0 B Su;have vv:=aB (O.o p);obtain⟨r,hr⟩:=ex (bE l p);rw[<- hr] at vv B Su;clear hp hr dZ hb;obtain⟨⟨pg,pn,pr,zr⟩,ok⟩:=r;simp only at vv B Su;have L:=aB (Iu wr);have YR:=aB (pI.o.trans (L.o.mono pI.o.size));have YQ:=aB ((pI.o.trans (L.o.mono pI.o.size)).alloc (pI.o.trans (L.o.mono pI.o.size)).size (.cells #[I 0,I 0,I 0,.bool false] 139));have a5:=aB (L.o.alloc (aJ _) (.cells #[I 0,I 0,I 0,.bool false] 139));have BZ:Hid ((wr.drew.alloc (.cells #[I 0,I 0,I 0,.bool false] 139)).heap[wr.heap.size]?=some (.cells #[I 0,I 0,I 0,.bool false] 139 (0,0))):=bG wr.drew _ _;by_cases NU:(ok&&!zr)=true
         . obtain⟨rfl,rfl⟩:ok=true/\zr=false:=by simpa using NU
           clear NU Su;go_wp2
           go_region_law (go_simp;go_at_call 82;refine(vv.o _ (by first | exact YR.o | exact YQ.o)).mono ?_;rintro e w3 ⟨rfl,hb⟩;have kE:Hid (Below w.heap.size w w3):=(by first | exact YR.o.trans (hb.mono YR.o.size) | exact YQ.o.trans (hb.mono YQ.o.size));have A:Hid (w3.heap[w.heap.size]?=some (.cells #[.slice aa na ca,.slice (some (Ad b off)) hs.length cap,I en] 25 (0,0))):=(by first | exact aO (aO N.o L.o G) hb (by simpa using G) | exact aO (aO N.o a5.o G) hb (by have:=G;simp;omega));(try (have q:=aB (aO BZ.o hb (aM BZ.o));have z0:=aA q.o 0 rfl;have z1:=aA q.o 1 rfl;have z2:=aA q.o 2 rfl;have z3:=aA q.o 3 rfl;have zf:=br q.o));clear hb;go_simp)
           all_goals
            go_wp2;go_roundw
            case rel=>first | exact⟨k+1,ω,by go_num,B.o,kE.o.alloc kE.o.size _,bB A.o _⟩ | exact⟨k+1,ω,by go_num,B.o,((((kE.o.setCell (p:=(Ad wr.heap.size 0)) pI.o.size _).setCell (p:=(Ad wr.heap.size 1)) pI.o.size _).setCell (p:=(Ad wr.heap.size 2)) pI.o.size _).setCell (p:=(Ad wr.heap.size 3)) pI.o.size _),(jy (jy (jy (jy A.o wr.heap.size 0 _ ω) wr.heap.size 1 _ ω) wr.heap.size 2 _ ω) wr.heap.size 3 _ ω)⟩
            case measure=>simp[intOf];omega
         have HX:=aB (Su.o (by simpa using NU));rw[HX.o,qK] at VG;clear B Su;cases ok
         . clear NU;go_wp2
           go_region_law (go_simp;go_at_call 82;refine(vv.o _ (by first | exact YR.o | exact YQ.o)).mono ?_;rintro e w3 ⟨rfl,hb⟩;have kE:Hid (Below w.heap.size w w3):=(by first | exact YR.o.trans (hb.mono YR.o.size) | exact YQ.o.trans (hb.mono YQ.o.size));(try (have q:=aB (aO BZ.o hb (aM BZ.o));have z0:=aA q.o 0 rfl;have z1:=aA q.o 1 rfl;have z2:=aA q.o 2 rfl;have z3:=aA q.o 3 rfl;have zf:=br q.o));clear hb;go_simp)
           all_goals
            go_wp2;go_ret
            first | exact⟨rJ (by rw[VG.o];rfl),kE.o.alloc kE.o.size _⟩ | exact⟨rJ (by rw[VG.o];rfl),((((kE.o.setCell (p:=(Ad wr.heap.size 0)) pI.o.size _).setCell (p:=(Ad wr.heap.size 1)) pI.o.size _).setCell (p:=(Ad wr.heap.size 2)) pI.o.size _).setCell (p:=(Ad wr.heap.size 3)) pI.o.size _)⟩
         obtain rfl:zr=true:=by simpa using NU
         clear NU;go_wp2
         go_region_law (go_simp;go_at_call 82;refine(vv.o _ (by first | exact YR.o | exact YQ.o)).mono ?_;rintro e w3 ⟨rfl,hb⟩;have kE:Hid (Below w.heap.size w w3):=(by first | exact YR.o.trans (hb.mono YR.o.size) | exact YQ.o.trans (hb.mono YQ.o.size));(try (have q:=aB (aO BZ.o hb (aM BZ.o));have z0:=aA q.o 0 rfl;have z1:=aA q.o 1 rfl;have z2:=aA q.o 2 rfl;have z3:=aA q.o 3 rfl;have zf:=br q.o));clear hb;go_simp)
         all_goals
          go_wp2;go_ret
          first | exact⟨rJ (by rw[VG.o];rfl),kE.o.alloc kE.o.size _⟩ | exact⟨rJ (by rw[VG.o];rfl),((((kE.o.setCell (p:=(Ad wr.heap.size 0)) pI.o.size _).setCell (p:=(Ad wr.heap.size 1)) pI.o.size _).setCell (p:=(Ad wr.heap.size 2)) pI.o.size _).setCell (p:=(Ad wr.heap.size 3)) pI.o.size _)⟩
       obtain rfl:k=hs.length:=by omega
       rw[PE.o,ju,HE.o] at VG;have vv:=aB (O.o (en.tdiv 16));have M:=aB (Z.o (en.tdiv 16));obtain⟨r,hr⟩:=ex (bE l (en.tdiv 16));rw[<- hr] at vv VG M;clear hr hb HE O Z;obtain⟨⟨pg,pn,pr,zr⟩,ok⟩:=r;simp only at vv VG M;cases ok with
       | false =>
        go_wp2_with (go_at_call 82;refine(vv.o _ pI.o).mono ?_;rintro e w3 ⟨rfl,hb⟩;have kE:=aB (pI.o.trans (hb.mono pI.o.size));clear hb)
        go_ret;exact⟨rJ (by rw[VG.o];rfl),kE.o.alloc kE.o.size _⟩
       | true =>
        have a6:=Iw (M.o rfl);clear M;by_cases h8:en.tmod 8=0
        . rw[dW h8,Bool.and_true,ju] at VG;rcases a6 with rfl | rfl | rfl | rfl
          all_goals
           go_wp2_with (go_at_call 82;refine(vv.o _ pI.o).mono ?_;rintro e w3 ⟨rfl,hb⟩;have kE:=aB (pI.o.trans (hb.mono pI.o.size));have A:=aB (aO N.o hb G);have a4:=aM A.o;have y2:=aA A.o 2 rfl;clear hb)
           go_ret;exact⟨rJ (by rw[VG.o];rfl),kE.o.alloc kE.o.size _⟩
        have a9:(en.tmod 8==0)=false:=by simpa using h8
        rw[eH h8,Hh,Hh] at VG;go_wp2_with (go_at_call 82;refine(vv.o _ pI.o).mono ?_;rintro e w3 ⟨rfl,hb⟩;have kE:=aB (pI.o.trans (hb.mono pI.o.size));have A:=aB (aO N.o hb G);have a4:=aM A.o;have y2:=aA A.o 2 rfl;clear hb);go_ret;exact⟨rJ (by rw[VG.o];rfl),kE.o.alloc kE.o.size _⟩
   have F:decide ((hs.length:Int)=T)=false:=eH hT;have a8:((hs.length:Int)==T)=false:=by simpa using hT
   rw[F,qK] at VG;clear F;refine cB κ κ ?_
   repeat (first | go_big_quiet_step ((first | (go_at_call 34;exact fy _ Cv.o) | (go_at_call 81;exact fy _ Cu.o))) | quiet_step ((first | (go_at_call 34;exact fy _ Cv.o) | (go_at_call 81;exact fy _ Cu.o))))
   refine fL ?_;intro _ K;obtain⟨x,y⟩:=K;subst y;go_wp2;go_ret;exact⟨rJ (by rw[VG.o];rfl),HB.o.trans (x.keeps.mono HB.o.size)⟩
 have ac:(C==0)=false:=by simpa using hc
 rw[aH hc];go_enter func32,ntmps32;go_wp2_with (go_at_call 80;refine(zh.o _ HB.o).mono ?_;rintro e w1 ⟨rfl,hb⟩;have HB:=aB (HB.o.trans (hb.mono HB.o.size));clear hb);go_ret;exact⟨rfl,HB.o⟩
theorem Pr (w:World) (ha:eN w va l) (hf:dG l) (h:gz w ao hs) (Jv:m6 hs) (he:cR en) :
  Calls prog 11 #[.agg #[va,.slice ao hs.length cap,I en],I nf,I ns] w λe w'=>e=.returned (I (nz l hs en nf ns).2)/\Below w.heap.size w w':=by
 obtain⟨aa,ca,Ec,_⟩:=id ha;subst Ec;obtain⟨WA,lQ⟩:=ex (w.alloc (.cells #[.slice aa l.length ca,.slice ao hs.length cap,I en] 25));have r:Below w.heap.size w WA:=by grind [Below.refl,Below.alloc]
 have kb:WA.heap[w.heap.size]?=some (.cells #[.slice aa l.length ca,.slice ao hs.length cap,I en] 25 (0,0)):=by grind [bG]
 have KB:Hid (∀V,Below WA.heap.size WA V->V.heap[w.heap.size]?=some (.cells #[.slice aa l.length ca,.slice ao hs.length cap,I en] 25 (0,0))):=λV hb=>aO kb hb (aM kb)
 obtain⟨k0,k1,k2⟩:=uo (KB.o WA (aN _ _));have ot:=ai lQ;have eB:=ai r;have Bu:=ai (aN WA.heap.size WA);have zh:Hid (∀V,Below WA.heap.size WA V->Calls prog 32 #[.agg #[.slice aa l.length ca,.slice ao hs.length cap,I en]] V λe w'=>e=.returned (I (iF l hs en))/\Below WA.heap.size WA w'/\w'.heap[w.heap.size]?=some (.cells #[.slice aa l.length ca,.slice ao hs.length cap,I en] 25 (0,0))):=λV hV=>(JE l hs en (.slice aa l.length ca) ao cap V (ha.below (r.trans (hV.mono r.size))) hf (h.below (r.trans (hV.mono r.size))) Jv he).mono λe w' ⟨h1,h2⟩=>by
  grind [CM,Below.trans,Below.mono,Below.size,Hid.o]
 have y:iF l hs en=0->Hid (∀V,Below WA.heap.size WA V->Calls prog 34 #[.slice aa l.length ca] V λe w'=>e=.returned (I (bR l))/\Below WA.heap.size WA w'):=λhc V hV=>(EZ l _ V (ha.below (r.trans (hV.mono r.size))) (yo hc).1).mono λe w' ⟨h1,h2⟩=>⟨h1,hV.trans (h2.mono hV.size)⟩
 have Pz:=ai (λV=>ir ns 0 512 V);have A:=mI l;unfold nz;generalize iF l hs en=C at zh y ⊢;generalize bR l=T1 at y A ⊢;clear ha hf h Jv he kb r lQ;by_cases c:C=0
 . subst c;have HT:=y rfl;clear y;rw[aH (λx=>x rfl)];by_cases c3:nf<3
   . rw[aQ c3];go_enter func11,ntmps11;go_upto_region 1 with fail;rw[<- ot.o];go_wp2_with (first
      | (go_at_call 32;refine(zh.o _ Bu.o).mono ?_;rintro e w1 ⟨rfl,q,hq⟩;have Yx:=ai q;clear Bu;have Bu:=ai Yx.o;clear Yx;clear q hq)
      | (go_at_call 33;refine(Pz.o _).mono ?_;rintro e w2 ⟨rfl,rfl⟩)
      | (go_at_call 34;refine(HT.o _ Bu.o).mono ?_;rintro e w3 ⟨rfl,b⟩;clear Bu;have Bu:=ai b;clear b))
     go_ret;exact⟨rfl,eB.o.trans (Bu.o.mono eB.o.size)⟩
   rw[aH c3];by_cases cr:nf>64\/ns<0\/ns>512
   . rw[aQ cr];by_cases g1:64<nf
     . clear cr;go_enter func11,ntmps11;go_upto_region 1 with fail;rw[<- ot.o];go_wp2_with (first
        | (go_at_call 32;refine(zh.o _ Bu.o).mono ?_;rintro e w1 ⟨rfl,q,hq⟩;have Yx:=ai q;clear Bu;have Bu:=ai Yx.o;clear Yx;clear q hq)
        | (go_at_call 33;refine(Pz.o _).mono ?_;rintro e w2 ⟨rfl,rfl⟩)
        | (go_at_call 34;refine(HT.o _ Bu.o).mono ?_;rintro e w3 ⟨rfl,b⟩;clear Bu;have Bu:=ai b;clear b))
       go_ret;exact⟨rfl,eB.o.trans (Bu.o.mono eB.o.size)⟩
     have d:¬(0<=ns/\ns<=512):=by omega
     rw[eH d] at Pz;clear cr d;go_enter func11,ntmps11;go_upto_region 1 with fail;rw[<- ot.o];go_wp2_with (first
      | (go_at_call 32;refine(zh.o _ Bu.o).mono ?_;rintro e w1 ⟨rfl,q,hq⟩;have Yx:=ai q;clear Bu;have Bu:=ai Yx.o;clear Yx;clear q hq)
      | (go_at_call 33;refine(Pz.o _).mono ?_;rintro e w2 ⟨rfl,rfl⟩)
      | (go_at_call 34;refine(HT.o _ Bu.o).mono ?_;rintro e w3 ⟨rfl,b⟩;clear Bu;have Bu:=ai b;clear b))
     go_ret;exact⟨rfl,eB.o.trans (Bu.o.mono eB.o.size)⟩
   rw[aH cr];have g1:¬64<nf:=by omega
   have d:0<=ns/\ns<=512:=by omega
   rw[dW d] at Pz;clear cr;by_cases ct:T1>ns
   . rw[aQ ct];go_enter func11,ntmps11;go_upto_region 1 with fail;rw[<- ot.o];go_wp2_with (first
      | (go_at_call 32;refine(zh.o _ Bu.o).mono ?_;rintro e w1 ⟨rfl,q,hq⟩;have Yx:=ai q;clear Bu;have Bu:=ai Yx.o;clear Yx;obtain⟨k0,k1,k2⟩:=uo hq;clear q hq)
      | (go_at_call 33;refine(Pz.o _).mono ?_;rintro e w2 ⟨rfl,rfl⟩)
      | (go_at_call 34;refine(HT.o _ Bu.o).mono ?_;rintro e w3 ⟨rfl,b⟩;clear Bu;have Bu:=ai b;clear b))
     go_ret;exact⟨rfl,eB.o.trans (Bu.o.mono eB.o.size)⟩
   rw[aH ct];have c2:¬ns<T1:=ct;go_enter func11,ntmps11;go_upto_region 1 with fail;rw[<- ot.o];go_wp2_with (first
    | (go_at_call 32;refine(zh.o _ Bu.o).mono ?_;rintro e w1 ⟨rfl,q,hq⟩;have Yx:=ai q;clear Bu;have Bu:=ai Yx.o;clear Yx;obtain⟨k0,k1,k2⟩:=uo hq;clear q hq)
    | (go_at_call 33;refine(Pz.o _).mono ?_;rintro e w2 ⟨rfl,rfl⟩)
    | (go_at_call 34;refine(HT.o _ Bu.o).mono ?_;rintro e w3 ⟨rfl,b⟩;clear Bu;have Bu:=ai b;clear b))
   go_ret;exact⟨rfl,eB.o.trans (Bu.o.mono eB.o.size)⟩
 rw[aQ c];have cb:(C != 0)=true:=by grind
 clear y;go_enter func11,ntmps11;go_upto_region 1 with fail;rw[<- ot.o];go_wp2_with (first
  | (go_at_call 32;refine(zh.o _ Bu.o).mono ?_;rintro e w1 ⟨rfl,q,hq⟩;have Yx:=ai q;clear Bu;have Bu:=ai Yx.o;clear Yx;obtain⟨k0,k1,k2⟩:=uo hq;clear q hq)
  | (go_at_call 33;refine(Pz.o _).mono ?_;rintro e w2 ⟨rfl,rfl⟩)
  | (go_at_call 34;refine(HT.o _ Bu.o).mono ?_;rintro e w3 ⟨rfl,b⟩;clear Bu;have Bu:=ai b;clear b))
 go_ret;exact⟨rfl,eB.o.trans (Bu.o.mono eB.o.size)⟩
theorem Nb (w:World) (ha:eN w va l) (h:gz w ao hs) (hc:iF l hs en=0) (h3:3<=nf) (h64:nf<=64) (h0:0<=ns) (aks:ns<=512) :
  Calls prog 35 #[.agg #[va,.slice ao hs.length cap,I en],I nf,I ns] w (zN w (lK l hs nf ns)):=by
 obtain⟨aa,ca,Ec,_⟩:=id ha;subst Ec;obtain⟨WA,lQ⟩:=ex ((w.alloc (.cells #[.slice aa l.length ca,.slice ao hs.length cap,I en] 25)).alloc (.cells #[Nl,Nl,Nl,Nl,I 0] 30));have r:Below w.heap.size w WA:=by simp_all [aN,pG]
 have kb:WA.heap[w.heap.size]?=some (.cells #[.slice aa l.length ca,.slice ao hs.length cap,I en] 25 (0,0)):=by grind [bB,bG]
 have rb:WA.heap[w.heap.size+1]?=some (.cells #[Nl,Nl,Nl,Nl,I 0] 30 (0,0)):=by grind [uv]
 have RB:Hid (∀V,Below WA.heap.size WA V->V.heap[w.heap.size+1]?=some (.cells #[Nl,Nl,Nl,Nl,I 0] 30 (0,0))):=λV hb=>aO rb hb (aM rb)
 have KB:Hid (∀V,Below WA.heap.size WA V->V.heap[w.heap.size]?=some (.cells #[.slice aa l.length ca,.slice ao hs.length cap,I en] 25 (0,0))):=λV hb=>aO kb hb (aM kb)
 have ot:=ai lQ;have T:=aM rb;have q:Hid (∀(W:World) fb sb pb,Below WA.heap.size WA W->W.heap[fb]?=some (.cells (Fh nf.toNat) 169 (0,0))->W.heap[sb]?=some (.cells (Fg ns.toNat) 171 (0,0))->W.heap[pb]?=some (.cells #[.bool true,.slice aa l.length ca,Nl] 99 (0,0))->Calls prog 83 #[.agg #[.slice ao hs.length cap,.slice (some (Ad fb 0)) nf.toNat nf.toNat,.slice (some (Ad sb 0)) ns.toNat ns.toNat,.slice (some (Ad pb 0)) 1 1,I 0]] W λe w'=>∃aS nS cS aF nF cF aL nL cL aP nP cP,e=.returned (.agg #[.slice aS nS cS,.slice aF nF cF,.slice aL nL cL,.slice aP nP cP,I 0])/\Below WA.heap.size WA w'/\w'.heap[w.heap.size+1]?=some (.cells #[Nl,Nl,Nl,Nl,I 0] 30 (0,0))/\∀U,aI (λb=>b=w.heap.size+1) w' U->zN w (lK l hs nf ns) (.returned (.agg #[.slice aS nS cS,.slice aF nF cF,.slice aL nL cL,.slice aP nP cP,I 0])) U):=λW fb sb pb hW g1 g2 g3=>by
  have ov:Below w.heap.size w W:=r.trans (hW.mono r.size);have hk:=Rn (cap:=cap) (ha.below ov) (h.below ov) g1 g2 g3;have F:=adm _ _ W hk (Lh hc nf.toNat ns.toNat ω ω);unfold bj at F;simp only[qL,zI] at F;refine F.mono λe w' ⟨S,hs',hsame,e1,hr,hb⟩=>?_
  obtain⟨aS,nS,cS,eS⟩:∃b n d,S.vS=.slice b n d:=by obtain⟨b,d,e,_⟩:=bh hr.aD;grind
  obtain⟨aF,nF,cF,eF⟩:∃b n d,S.vF=.slice b n d:=by obtain⟨b,d,e,_⟩:=bh hr.frames;grind
  obtain⟨aL,nL,cL,eL⟩:∃b n d,S.vL=.slice b n d:=by obtain⟨b,d,e,_⟩:=bh hr.slots;exact⟨b,_,d,e⟩
  obtain⟨aP,nP,cP,eP⟩:∃b n d,S.vP=.slice b n d:=by obtain⟨b,d,e,_⟩:=bh hr.aj;exact⟨b,_,d,e⟩
  rw[eS,eF,eL,eP] at e1;have J:Below WA.heap.size WA w':=hW.trans (hb.mono hW.size);have N:Below w.heap.size w w':=r.trans (J.mono r.size);have R:=hW.size;refine⟨aS,nS,cS,aF,nF,cF,aL,nL,cL,aP,nP,cP,e1,J,RB.o _ J,λU hU=>⟨S,hs',hsame,by rw[eS,eF,eL,eP];rfl,(hr.kp hU (λb hb e=>by have:=(hr.vD b hb).1;omega)).mono ov.size,aI.below N hU N.size (λb e=>ω)⟩⟩
 have e2:=λV:World=>ahX V nf ω ω
 have e3:=λV:World=>ahW V ns ω ω
 generalize zN w (lK l hs nf ns)=P at q;generalize nf.toNat=NF at q e2;generalize ns.toNat=NS at q e3;clear ha h hc kb rb lQ r;go_enter func35,ntmps35;go_upto_region 1 with fail;rw[<- ot.o];have uZ:Hid (∀V,Below WA.heap.size WA V->V.cell? (Ad w.heap.size 0)=some (.slice aa l.length ca)/\V.cell? (Ad w.heap.size 1)=some (.slice ao hs.length cap)):=λV hV=>⟨aA (KB.o _ hV) 0 rfl,aA (KB.o _ hV) 1 rfl⟩
 refine uj (S:=λV=>V.cell? (Ad w.heap.size 0)=some (.slice aa l.length ca)/\V.cell? (Ad w.heap.size 1)=some (.slice ao hs.length cap)) (z:=12) ρ ?_;have o5:=ai ((aN WA.heap.size WA).drew);generalize WA.drew=V0 at o5;have K0:=uZ.o _ o5.o;refine Mm 0 K0 ?_;refine lO 1 K0 ?_;refine Mm 2 K0 ?_;refine Mm 4 K0 ?_;refine lO 6 K0 ?_;refine lO 7 K0 ?_;refine lO 8 K0 ?_;clear K0;have NB:∀V,Below WA.heap.size WA V->∀(c:Array Value) (t:TypeId),∃V1 b,V.alloc (.cells c t)=V1/\V.heap.size=b/\Below WA.heap.size WA V1/\V1.heap[b]?=some (.cells c t (0,0))/\∀{i:Nat} {c':Array Value} {t':TypeId},V.heap[i]?=some (.cells c' t' (0,0))->V1.heap[i]?=some (.cells c' t' (0,0)):=λV hV c t=>⟨_,_,rfl,rfl,hV.alloc hV.size _,bG V c t,λh=>bB h _⟩
 apply VP (H:=λ(V:World) (bF bL bP:Nat)=>Below WA.heap.size WA V/\V.heap[bF]?=some (.cells (Fh NF) 169 (0,0))/\V.heap[bL]?=some (.cells (Fg NS) 171 (0,0))/\V.heap[bP]?=some (.cells #[.bool true,.slice aa l.length ca,Nl] 99 (0,0)))
 . intro A;refine gS (rs:=[3,5,9]) κ ξ ?_;refine b7.cons rfl (λK hK=>?_) (b7.cons rfl (λK hK=>?_) (b7.cons rfl (λK hK=>?_) b7.nil))
   all_goals
    go_simp
    first | (obtain⟨V1,b1,hV,hb,H1,N1,K1⟩:=NB V0 o5.o (Fh NF) 169;rw[hV,hb]) | (obtain⟨V1,b1,hV,hb,H1,N1,K1⟩:=NB V0 o5.o (Fg NS) 171;rw[hV,hb]) | (obtain⟨V1,b1,hV,hb,H1,N1,K1⟩:=NB V0 o5.o #[.bool true,.slice aa l.length ca,Nl] 99;rw[hV,hb])
    refine hK.out _ _ (λ_=>uZ.o _ H1) ?_;clear hK K hV hb
    try simp only[Act.put,eQ,eI,ed]
    first | refine gS (rs:=[5,9]) (by decide +kernel) ξ ?_ | refine gS (rs:=[3,9]) (by decide +kernel) ξ ?_ | refine gS (rs:=[3,5]) (by decide +kernel) ξ ?_
    refine b7.cons rfl (λK hK=>?_) (b7.cons rfl (λK hK=>?_) b7.nil)
    all_goals
     go_simp
     first | (obtain⟨V2,b2,hV,hb,H2,N2,K2⟩:=NB V1 H1 (Fh NF) 169;rw[hV,hb]) | (obtain⟨V2,b2,hV,hb,H2,N2,K2⟩:=NB V1 H1 (Fg NS) 171;rw[hV,hb]) | (obtain⟨V2,b2,hV,hb,H2,N2,K2⟩:=NB V1 H1 #[.bool true,.slice aa l.length ca,Nl] 99;rw[hV,hb])
     refine hK.out _ _ (λ_=>uZ.o _ H2) ?_;clear hK K hV hb
     try simp only[Act.put,eQ,eI,ed]
     first | refine gS (rs:=[9]) (by decide +kernel) ξ ?_ | refine gS (rs:=[5]) (by decide +kernel) ξ ?_ | refine gS (rs:=[3]) (by decide +kernel) ξ ?_
     refine b7.cons rfl (λK hK=>?_) b7.nil;go_simp
     first | (obtain⟨V3,b3,hV,hb,H3,N3,K3⟩:=NB V2 H2 (Fh NF) 169;rw[hV,hb]) | (obtain⟨V3,b3,hV,hb,H3,N3,K3⟩:=NB V2 H2 (Fg NS) 171;rw[hV,hb]) | (obtain⟨V3,b3,hV,hb,H3,N3,K3⟩:=NB V2 H2 #[.bool true,.slice aa l.length ca,Nl] 99;rw[hV,hb])
     refine hK.out _ _ (λ_=>uZ.o _ H3) ?_;clear hK K hV hb
     try simp only[Act.put,eQ,eI,ed]
     have N1:=K3 (K2 N1);have N2:=K3 N2
     first | exact A V3 b1 b2 b3 ⟨H3,N1,N2,N3⟩ | exact A V3 _ _ _ ⟨H3,by assumption,by assumption,by assumption⟩
 clear o5 NB;rintro V3 bF bL bP ⟨G,BF,BL,BP⟩;have Fq:=ai G;have Q:=ai (q.o _ _ _ _ G BF BL BP);clear G BF BL BP q;refine lO 10 (uZ.o _ Fq.o) ?_;refine gS (rs:=[11]) κ ξ ?_;refine b7.cons rfl (λK hK=>?_) b7.nil;rw[aQ ρ];go_simp;go_at_call 83;refine Q.o.mono ?_;rintro e w6 ⟨aS,nS,cS,aF,nF,cF,aL,nL,cL,aP,nP,cP,rfl,M,L,B⟩;have O:=ai M;have R6:=ai L;have Dh:=ai B;clear M L B;try go_simp;refine hK.out _ _ (λ_=>uZ.o _ O.o) ?_;clear hK K
 try simp only[Act.put,eQ,eI,ed]
 have y:=kj R6.o;have f:=br R6.o;have h5:=ai (λV=>Eo R6.o (.slice aS nS cS) (.slice aF nF cF) (.slice aL nL cL) (.slice aP nP cP) (I 0) (V:=V));refine gS (rs:=[12]) κ ξ ?_;refine b7.cons rfl (λK hK=>?_) b7.nil;go_simp;obtain⟨r1,r2⟩:=h5.out _ rfl;refine hK.out _ _ (λg=>absurd rfl g) ?_;refine Ab κ ?_ _;clear y;go_wp2;obtain⟨y0,y1,y2,y3,y4⟩:=kj r1;refine bW (v:=.agg #[.slice aS nS cS,.slice aF nF cF,.slice aL nL cL,.slice aP nP cP,I 0]) (by simp[results,results35,go_sem,y0,y1,y2,y3,y4]) rfl ?_;exact Dh.o _ r2
theorem adz {l:List aU} {hs:List bD} {en nf ns:Int} (hc:iF l hs en=0) (h64:nf<=64) (aks:ns<=512) {hs1:List bD} (s:cD (lK l hs nf ns).aD hs1):kN (aV (lK l hs nf ns) hs1):=by
 obtain⟨r1,r2,r3⟩:=yo hc;have hl:hs1.length=hs.length:=by have:=dO List.length s;simpa [lK] using this
 have b:=mI l;have hr:dR hs1=true:=by rw[LJ s];exact r2
 refine⟨⟨by show bM hs1.length;unfold bM;omega,λk hk=>LZ (oG hs1 hs1.length hr k hk).1⟩,?_,λi hi=>?_,?_,λi hi=>?_,?_,λi hi=>?_,⟨by show -9223372036854775808<=(0:Int);omega,by show(0:Int)<=9223372036854775807;omega⟩⟩
 . show bM (List.replicate nf.toNat eG).length;rw[qL];unfold bM;omega
 . have hi:i<(List.replicate nf.toNat eG).length:=hi;rw[qL] at hi;show bM ((List.replicate nf.toNat eG).getD i eG).data.size/\cR ((List.replicate nf.toNat eG).getD i eG).refs;rw[Hu _ _ _ _ hi];exact⟨by unfold bM;decide,⟨Δ,Δ⟩⟩
 . show bM (List.replicate ns.toNat gP).length;rw[qL];unfold bM;omega
 . have hi:i<(List.replicate ns.toNat gP).length:=hi;rw[qL] at hi;show bM ((List.replicate ns.toNat gP).getD i gP).data.size/\cR ((List.replicate ns.toNat gP).getD i gP).refs;rw[Hu _ _ _ _ hi];exact⟨by unfold bM;decide,⟨Δ,Δ⟩⟩
 . show bM 1;unfold bM;decide
 have hi:i<1:=hi;obtain rfl:i=0:=by omega
 exact⟨kH _ r1,by show bM 0;unfold bM;decide,λn hn=>absurd hn (gY _)⟩
def LX (N:Nat) (k:aT) (c:Array Value) (w:World):Prop:=∃hs a,cD k.aD hs/\c=bj a (aV k hs)/\∀U,aI (λb=>b<N) w U->iB U a (aV k hs)
theorem LX.cells {N:Nat} {k:aT} {c:Array Value} {w:World} (h:LX N k c w):∃s1 uv q1 s2 n2 q2 s3 n3 q3 s4 n4 q4 hd,c=#[.slice s1 uv q1,.slice s2 n2 q2,.slice s3 n3 q3,.slice s4 n4 q4,I hd]:=by
 obtain⟨hs,a,_,h2,_⟩:=h;exact⟨_,_,_,_,_,_,_,_,_,_,_,_,_,h2⟩
theorem aaS {w w':World} {k:aT} {e:Ending} (h:zN w k e w'):∃c,e=.returned (.agg c)/\LX w.heap.size k c w'/\Below w.heap.size w w':=by
 obtain⟨S,hs,h1,h2,h3,h4⟩:=h;obtain⟨a,e1,e2⟩:=GK h3;exact⟨_,h2,⟨hs,a,h1,e1,e2⟩,h4⟩
theorem Yt (vs:Value) (en:Int) (w:World) (Ec:∃ao n c,va=.slice ao n c) (hvs:∃ao n c,vs=.slice ao n c) :
  Calls prog 36 #[.agg #[va,vs,I en]] w λe w'=>∃b,e=.returned (.slice (some (Ad b 0)) 1 1)/\w.heap.size<=b/\w'.heap[b]?=some (.cells #[I 0,I 0,I 0,I 0,I 0,I 0,I 0,I 0,I en,I 1,I 0,I 0,I 0] 77 (0,0))/\Below w.heap.size w w':=by
 obtain⟨a1,n1,c1,rfl⟩:=Ec;obtain⟨a2,n2,c2,rfl⟩:=hvs;have HB:=ai (((aN w.heap.size w).alloc (aJ _) (.cells #[.slice a1 n1 c1,.slice a2 n2 c2,I en] 25)).alloc ξ (.cells #[I 0,I 0,I 0,I 0,I 0,I 0,I 0,I 0,I en,I 1,I 0,I 0,I 0] 77));have HN:Hid (((w.alloc (.cells #[.slice a1 n1 c1,.slice a2 n2 c2,I en] 25)).alloc (.cells #[I 0,I 0,I 0,I 0,I 0,I 0,I 0,I 0,I en,I 1,I 0,I 0,I 0] 77)).heap[w.heap.size+1]?=some (.cells #[I 0,I 0,I 0,I 0,I 0,I 0,I 0,I 0,I en,I 1,I 0,I 0,I 0] 77 (0,0))):=by
  have:=bG (w.alloc (.cells #[.slice a1 n1 c1,.slice a2 n2 c2,I en] 25)) #[I 0,I 0,I 0,I 0,I 0,I 0,I 0,I 0,I en,I 1,I 0,I 0,I 0] 77;show _=_;simpa using this
 go_enter func36,ntmps36;go_wp2;go_ret;exact⟨w.heap.size+1,rfl,ω,HN.o,HB.o⟩
theorem Ur {N:Nat} {k:aT} {en:Int} {w1 w2 U:World} {s0 s1 s2 s3:Option Addr} {n0 q0 n1 q1 n2 q2 n3 q3:Nat} {hd:Int} {pb:Nat} (h:LX N k #[.slice s0 n0 q0,.slice s1 n1 q1,.slice s2 n2 q2,.slice s3 n3 q3,I hd] w1) (g:Below w1.heap.size w1 w2) (hp:w2.heap[pb]?=some (.cells #[I 0,I 0,I 0,I 0,I 0,I 0,I 0,I 0,I en,I 1,I 0,I 0,I 0] 77 (0,0))) (hpb:N<=pb) (hU:aI (λb=>b<N) w2 U):ic N ⟨k,[lq en],[]⟩ #[.slice s0 n0 q0,.slice s1 n1 q1,.slice s2 n2 q2,.slice s3 n3 q3,I hd,.slice (some (Ad pb 0)) 1 1,Nl] U:=by
 obtain⟨hs,a,h1,h2,h3⟩:=h;unfold bj at h2;simp only[Array.mk.injEq,rE,qJ] at h2;obtain⟨e0,e1,e2,e3,e4⟩:=h2;refine⟨hs,a,some (Ad pb 0),1,none,0,h1,by rw[e0,e1,e2,e3,e4];rfl,λV hV=>⟨h3 V (((aI.cA g).trans hU (λ_ _ x=>x)).trans hV (λ_ _ x=>x)),Si (hV.keep (hU.keep hp ω) ω),λh0=>absurd h0 (gY _)⟩⟩
theorem Md (aa ao:Option Addr) (na ca cap:Nat) (w:World) (ha:eN w (.slice aa na ca) l) (h:gz w ao hs) (hc:iF l hs en=0) (h3:3<=nf) (h64:nf<=64) (h0:0<=ns) (aks:ns<=512) :
  Calls prog 12 #[.agg #[.slice aa na ca,.slice ao hs.length cap,I en],I nf,I ns] w λe w'=>∃s0 n0 q0 s1 n1 q1 s2 n2 q2 s3 n3 q3 hd pb,e=.returned (.agg #[.slice s0 n0 q0,.slice s1 n1 q1,.slice s2 n2 q2,.slice s3 n3 q3,I hd,.slice (some (Ad pb 0)) 1 1,Nl])/\ic w.heap.size ⟨lK l hs nf ns,[lq en],[]⟩ #[.slice s0 n0 q0,.slice s1 n1 q1,.slice s2 n2 q2,.slice s3 n3 q3,I hd,.slice (some (Ad pb 0)) 1 1,Nl] w'/\Below w.heap.size w w':=by
 have r:Hid (∀V,Below w.heap.size w V->Calls prog 35 #[.agg #[.slice aa na ca,.slice ao hs.length cap,I en],I nf,I ns] V λe w'=>∃s0 n0 q0 s1 n1 q1 s2 n2 q2 s3 n3 q3 hd,e=.returned (.agg #[.slice s0 n0 q0,.slice s1 n1 q1,.slice s2 n2 q2,.slice s3 n3 q3,I hd])/\LX V.heap.size (lK l hs nf ns) #[.slice s0 n0 q0,.slice s1 n1 q1,.slice s2 n2 q2,.slice s3 n3 q3,I hd] w'/\Below V.heap.size V w'):=λV hV=>(Nb l hs en nf ns _ ao cap V (ha.below hV) (h.below hV) hc h3 h64 h0 aks).mono λe w' ho=>by
  obtain⟨c,g1,g2,g3⟩:=aaS ho;obtain⟨s0,n0,q0,s1,n1,q1,s2,n2,q2,s3,n3,q3,hd,rfl⟩:=g2.cells;exact⟨s0,n0,q0,s1,n1,q1,s2,n2,q2,s3,n3,q3,hd,g1,g2,g3⟩
 generalize hs.length=nh at r ⊢;have Dh:Hid (∀V,Calls prog 36 #[.agg #[.slice aa na ca,.slice ao nh cap,I en]] V λe w'=>∃b,e=.returned (.slice (some (Ad b 0)) 1 1)/\V.heap.size<=b/\w'.heap[b]?=some (.cells #[I 0,I 0,I 0,I 0,I 0,I 0,I 0,I 0,I en,I 1,I 0,I 0,I 0] 77 (0,0))/\Below V.heap.size V w'):=λV=>Yt _ _ en V ⟨_,_,_,rfl⟩ ⟨_,_,_,rfl⟩
 generalize lK l hs nf ns=K at r ⊢;obtain⟨W0,hW⟩:=ex ((w.alloc (.cells #[.slice aa na ca,.slice ao nh cap,I en] 25)).alloc (.cells #[Nl,Nl,Nl,Nl,I 0,Nl,Nl] 34));have q:(w.alloc (.cells #[.slice aa na ca,.slice ao nh cap,I en] 25)).heap.size=w.heap.size+1:=by simp
 have eB:Hid (Below w.heap.size w W0):=by rw[hW];exact((aN w.heap.size w).alloc (aJ _) _).alloc ξ _
 have X0:Hid (W0.heap[w.heap.size]?=some (.cells #[.slice aa na ca,.slice ao nh cap,I en] 25 (0,0))):=by rw[hW];exact bB (bG w #[.slice aa na ca,.slice ao nh cap,I en] 25) (.cells #[Nl,Nl,Nl,Nl,I 0,Nl,Nl] 34)
 have Y0:Hid (W0.heap[w.heap.size+1]?=some (.cells #[Nl,Nl,Nl,Nl,I 0,Nl,Nl] 34 (0,0))):=by rw[hW,<- q];exact bG (w.alloc (.cells #[.slice aa na ca,.slice ao nh cap,I en] 25)) #[Nl,Nl,Nl,Nl,I 0,Nl,Nl] 34
 have L:=ai hW;clear ha h hc h3 h64 h0 aks q hW;go_enter func12,ntmps12;go_upto_region 1 with fail;rw[<- L.o];obtain⟨y,hy⟩:=ex (w.heap.size+1);rw[<- hy] at Y0 ⊢;generalize w.heap.size=x at X0 ⊢;have N:Hid (w.heap.size<=y):=by rw[hy];exact iO _
 clear hy L;have xB:=ai (aN W0.heap.size W0).drew;have F:Hid (W0.drew.heap[x]?=some (.cells #[.slice aa na ca,.slice ao nh cap,I en] 25 (0,0))):=X0.o;have A:Hid (W0.drew.heap[y]?=some (.cells #[Nl,Nl,Nl,Nl,I 0,Nl,Nl] 34 (0,0))):=Y0.o;obtain⟨t0,t1,t2⟩:=uo X0.o;have Ij:=ai (eB.o.drew)
 go_region_law (first
  | (go_simp;go_at_call 35;refine(r.o _ Ij.o).mono ?_;rintro e w1 ⟨s0,n0,q0,s1,n1,q1,s2,n2,q2,s3,n3,q3,hd,rfl,hk,hb⟩;have KK:=ai hk;have L1:=ai hb;have X1:=ai (aO F.o hb (aM F.o));have Y1:=ai (aO A.o hb (aM A.o));obtain⟨u0,u1,u2⟩:=uo X1.o;clear hk hb;go_simp)
  | (go_simp;go_at_call 36;refine(Dh.o _).mono ?_;rintro e w2 ⟨pb,rfl,B,J,hb⟩;have PB:=ai J;have PL:=ai B;have L2:=ai hb;have Y2:=ai (aO Y1.o hb (aM Y1.o));obtain⟨z0,z1,z2,z3,z4,z5,z6⟩:=lD Y2.o;have zf:=br Y2.o;clear B J hb;go_simp))
 all_goals
  go_wp2_with fail
  have kU:=pC w2 y (.slice s0 n0 q0) (.slice s1 n1 q1) (.slice s2 n2 q2) (.slice s3 n3 q3) (I hd) (.slice (some (Ad pb 0)) 1 1) Nl;have hY:=aM Y0.o;have M:W0.heap.size<=w1.heap.size:=L1.o.size;have h7:=dm (dm (dm (dm (dm (dm (dm Y2.o 0 (.slice s0 n0 q0)) 1 (.slice s1 n1 q1)) 2 (.slice s2 n2 q2)) 3 (.slice s3 n3 q3)) 4 (I hd)) 5 (.slice (some (Ad pb 0)) 1 1)) 6 Nl;have hq:=eB.o.size;have KF:=(Ur (en:=en) KK.o L2.o PB.o (gj M PL.o) (kU.mono (λb _ e=>by rw[e];exact hY))).mono hq;have G:Below w.heap.size w w2:=Ij.o.trans ((L1.o.trans (L2.o.mono L1.o.size)).mono Ij.o.size);have BF:=aI.below G kU G.size (λb e=>by rw[e];exact N.o);obtain⟨v0,v1,v2,v3,v4,v5,v6⟩:=lD h7;refine bW (v:=.agg #[.slice s0 n0 q0,.slice s1 n1 q1,.slice s2 n2 q2,.slice s3 n3 q3,I hd,.slice (some (Ad pb 0)) 1 1,Nl]) (by simp[results,results12,go_sem,v0,v1,v2,v3,v4,v5,v6]) rfl ?_;exact⟨s0,n0,q0,s1,n1,q1,s2,n2,q2,s3,n3,q3,hd,pb,rfl,KF,BF⟩
theorem Nz (o:List ra) (n:Nat) (ao:Option Addr) (co:Nat) (w:World) (h:um w ao o) (hno:o.length<=140737488351232) (hn:n<=140737488351232) :
  Calls prog 43 #[.slice ao o.length co,I (n:Int)] w λe w'=>e=.returned (.bool (fK o n o.length))/\Below w.heap.size w w':=by
 have HO:=ai h;have G:Hid (∀k,k<=o.length->fK o n k=false->fK o n o.length=false):=λk hk e=>Bg e _ hk
 have Pz:=ai (λx V=>ir x 0 ((n:Int)-1) V);obtain⟨A,hA⟩:=ex (fK o n o.length);rw[<- hA] at G ⊢;have HA:=ai hA;clear h hA;go_enter func43,ntmps43;go_wp2;go_loopw [5] (λiv wr=>∃j:Nat,j<=o.length/\iv=I (j:Int)/\fK o n j=true/\Below w.heap.size w wr) (λiv _=>o.length-(intOf iv).toNat)
 case atStart=>exact⟨0,ω,rfl,rfl,aN _ _⟩
 case round =>
  obtain⟨j,hj,rfl,B,hb⟩:=hrel;have HB:=ai hb;have F:=ai B;clear B;by_cases hlt:j<o.length
  . obtain⟨b,off,J,L,dZ⟩:=(HO.o.below hb) ω;subst J;obtain⟨c0,c1⟩:=dZ j hlt;have r:Hid (fK o n (j+1)=decide (0<=(mD o j).proc/\(mD o j).proc<=(n:Int)-1)):=by
     show(fK o n j&&xg (mD o j) n)=_;rw[F.o,ju];unfold xg;rw[decide_eq_decide];omega
    have K:=ai (G.o (j+1) ω);have y:=ai (Pz.o (mD o j).proc);obtain⟨wp,hq⟩:∃q,q=(mD o j).proc:=⟨_,rfl⟩;rw[<- hq] at r c0 y;generalize decide (0<=wp/\wp<=(n:Int)-1)=T at r y;clear hq dZ hb F c1;cases T with
    | false =>
     have Nt:=ai (K.o r.o);go_wp2_with (go_at_call 33;refine(y.o _).mono ?_;rintro e w1 ⟨rfl,rfl⟩);go_ret;exact⟨oU Nt.o.symm,HB.o⟩
    | true =>
     go_wp2_with (go_at_call 33;refine(y.o _).mono ?_;rintro e w1 ⟨rfl,rfl⟩)
     go_roundw
     case rel=>exact⟨j+1,ω,by go_num,r.o,HB.o⟩
     case measure=>simp[intOf];omega
  obtain rfl:j=o.length:=by omega
  clear hb;have vv:Hid (A=true):=HA.o.trans F.o;go_wp2;go_ret;exact⟨oU vv.o.symm,HB.o⟩
end Go.Proofs.YtlgoihmkgaaemaaGreat
