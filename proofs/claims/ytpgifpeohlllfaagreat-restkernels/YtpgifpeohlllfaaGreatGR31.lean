import Derived.Test.YtpgifpeohlllfaaGreatGR30
set_option maxHeartbeats 20000000
set_option linter.unusedVariables false
set_option maxRecDepth 100000
set_option linter.unusedSimpArgs false
namespace Go.Proofs.YtpgifpeohlllfaaGreat
open Go.RowKit
theorem Wd {lo mb:Nat} {tt:TypeId} {X:List Value} (k:aN) (S:dE) (w:World) (j:Nat) (e:bG) {pb nP cP:Nat} (h:bu lo mb tt X w S k) (hj:j<k.aj.length) (hP:S.vP=.slice (some (Ad pb 0)) nP cP) (hen:(ak k.aj j).aU.length<=1000) (i:Nat) (hi:i<(ak k.aj j).aU.length) (hpi:(aH (ak k.aj j).aU i).page=e.page) (hno:∀m,m<i->(aH (ak k.aj j).aU m).page≠e.page) (hput:iK (ak k.aj j).aU e=(ak k.aj j).aU.set i e) :
  Calls Tryz.prog 108 #[.pointer (some (Ad pb (j*3))),kE e] w (cT lo mb tt X w S (.tuple #[]) (df k j e)):=by
 obtain⟨es,hes⟩:=ex ((ak k.aj j).aU);have hk:lZ k j es=k:=by rw[hes,I5]
 rw[LX,hput,<- hes];rw[<- hes] at hi hpi hno hen;obtain⟨KO,cP',A⟩:=h.toKr.sp (by omega);obtain rfl:pb=KO:=by have ev:=hP.symm.trans A.v;grind
 obtain⟨ae,ce,zE,hre⟩:=h.toKr.aU hj;rw[<- hes] at zE hre;have a0:=A.x0 j hj;have a1:=A.x1 j hj;have a2:=A.x2 j hj;have fz2:=A.fz (j*3+2);have hpl:=A.lt;rw[zE] at a2;obtain⟨ax,cx,Av,_,_⟩:=aY (h.each j hj).bk;rw[Av] at a1;obtain⟨lv,hlv⟩:=ex ((ak k.aj j).live);obtain⟨nx,hnx⟩:=ex ((ak k.aj j).bk.length);rw[<- hlv] at a0;rw[<- hnx] at a1;obtain⟨pg,kd,lc⟩:=e;unfold kE;simp only at hpi hno ⊢;obtain⟨WA,jG⟩:=ex (w.alloc (.cells #[I pg,I kd,I lc] 45));have hb0:Below w.heap.size w WA:=by rw[jG];exact(aK _ _).alloc (aI _) _
 have eb0:WA.heap[w.heap.size]?=some (.cells #[I pg,I kd,I lc] 45 (0,0)):=by rw[jG];exact bO w _ _
 obtain⟨eb,IK⟩:=ex w.heap.size;have nE:S.lab eb=.no:=by rw[IK];exact h.toKr.new (aI _)
 rw[<- IK] at eb0;have EB:=ai eb0;have jQ:∀{V:World},Below WA.heap.size WA V->Below w.heap.size w V:=fun hV=>hb0.trans (hV.mono hb0.size)
 have SI:Hid (∀V,Below WA.heap.size WA V->Calls Tryz.prog 67 #[.agg #[.bool lv,.slice ax nx cx,.slice ae es.length ce],I pg] V fun e w'=>e=.returned (I (i:Int))/\Below V.heap.size V w'):=fun V hV=>by
  have:=wP es lv (.slice ax nx cx) ae ce pg i V (hre.below (jQ hV)) (by omega) hno (.inr ⟨hi,hpi⟩);rw[aR hi] at this;exact this
 have lI:=ai jG;have YG:=ai IK;have q0:∀x:dm WA.heap.size WA,x.world.cell? (Ad pb (j*3))=some (.bool lv):=fun x=>((jQ x.keeps).cell (p:=(Ad pb (j*3))) hpl).trans a0
 have q1:∀x:dm WA.heap.size WA,x.world.cell? (Ad pb (j*3+1))=some (.slice ax nx cx):=fun x=>((jQ x.keeps).cell (p:=(Ad pb (j*3+1))) hpl).trans a1
 have q2:∀x:dm WA.heap.size WA,x.world.cell? (Ad pb (j*3+2))=some (.slice ae es.length ce):=fun x=>((jQ x.keeps).cell (p:=(Ad pb (j*3+2))) hpl).trans a2
 have q3:∀x:dm WA.heap.size WA,x.world.cell? (Ad eb 0)=some (I pg):=fun x=>aB (aQ EB.o x.keeps (aT EB.o)) 0 rfl
 have uP:=gG WA;have oD:Hid (∀V,Below WA.heap.size WA V->∃gb cG,QX lo mb tt X V S k j es pb gb cG):=fun V hV=>T9 (by rw[hk];exact h.below (jQ hV)) hj (by omega) hP
 have cV:Hid (∀V U,Below WA.heap.size WA V->bu lo mb tt X U S (lZ k j (es.set i ⟨pg,kd,lc⟩))->bU S V S U->cT lo mb tt X w S (.tuple #[]) (lZ k j (es.set i ⟨pg,kd,lc⟩)) (.returned (.tuple #[])) U):=fun V U hV h1 h2=>⟨rfl,S,h1,(bU.below (jQ hV)).trans h2⟩
 obtain⟨P,hPP⟩:=ex (cT lo mb tt X w S (.tuple #[]) (lZ k j (es.set i ⟨pg,kd,lc⟩)));rw[<- hPP] at cV ⊢;have Dw:(i:Int)<(es.length:Int):=by omega
 have hi0:(0:Int)<=(i:Int):=by omega
 have HIL:=ai hi;clear h hj hP hen hpi hno hput hk zE hre a0 a1 a2 hlv hnx A Av jG hb0 eb0 IK nE jQ hPP hes fz2 hpl hi;go_enter Tryz.func108,Tryz.ntmps108;go_upto_region 1 with fail;rw[<- lI.o,<- YG.o];refine cA (by kernel_rfl) (by kernel_rfl) ?_
 repeat (first | go_big_quiet_step ((go_at_call 67;exact fJ _ SI.o)) | quiet_step ((go_at_call 67;exact fJ _ SI.o)))
 refine fK ?_;rintro _ ⟨X1,rfl⟩;have uO:=ai X1.keeps;obtain⟨WX,hWX⟩:=ex X1.world;rw[<- hWX] at uO ⊢;clear hWX q0 q1 q2 q3 uP SI;obtain⟨gb,cG,E⟩:=oD.o WX uO.o;have v:=E.v;have x0:=E.x0 i HIL.o;have x1:=E.x1 i HIL.o;have x2:=E.x2 i HIL.o;have f0:=E.fz (i*3);have f1:=E.fz (i*3+1);have f2:=E.fz (i*3+2);obtain⟨l1,l2⟩:=E.lay i ⟨pg,kd,lc⟩ HIL.o;have qK:=ai (fun U (hU:U=((((WX.setCell (Ad gb (i*3)) (I pg)).setCell (Ad gb (i*3+1)) (I kd)).setCell (Ad gb (i*3+2)) (I lc)).drew))=>cV.o WX U uO.o (by rw[hU];exact l1.below (aK _ _).drew) (by rw[hU];exact l2.trans (bU.below (aK _ _).drew)));have BX:=ai (aQ EB.o uO.o (aT EB.o));obtain⟨d0,d1,d2⟩:=nV BX.o;clear E l1 l2;go_upto_region 3 with fail;go_region;go_wp2;refine cm (v:=.tuple #[]) (by simp[results,Tryz.results108,go_sem]) rfl ?_;exact qK.o _ rfl
theorem Zh {lo mb:Nat} {tt:TypeId} {X:List Value} (k:aN) (S:dE) (w:World) (j:Nat) (e:bG) {pb nP cP:Nat} (h:bu lo mb tt X w S k) (hj:j<k.aj.length) (hP:S.vP=.slice (some (Ad pb 0)) nP cP) (hen:(ak k.aj j).aU.length<=1000) (hr:iw (ak k.aj j).aU) (hno:∀m,m<(ak k.aj j).aU.length->(aH (ak k.aj j).aU m).page≠e.page) :
  Calls Tryz.prog 108 #[.pointer (some (Ad pb (j*3))),kE e] w (cT lo mb tt X w S (.tuple #[]) (df k j e)):=by
 obtain⟨es,hes⟩:=ex ((ak k.aj j).aU);have hk:lZ k j es=k:=by rw[hes,I5]
 rw[LX,<- hes];rw[<- hes] at hno hen hr;obtain⟨KO,cP',A⟩:=h.toKr.sp (by omega);obtain rfl:pb=KO:=by have ev:=hP.symm.trans A.v;grind
 obtain⟨ae,ce,zE,hre⟩:=h.toKr.aU hj;rw[<- hes] at zE hre;have a0:=A.x0 j hj;have a1:=A.x1 j hj;have a2:=A.x2 j hj;have fz2:=A.fz (j*3+2);have hpl:=A.lt;rw[zE] at a2;obtain⟨ax,cx,Av,_,_⟩:=aY (h.each j hj).bk;rw[Av] at a1;obtain⟨lv,hlv⟩:=ex ((ak k.aj j).live);obtain⟨nx,hnx⟩:=ex ((ak k.aj j).bk.length);rw[<- hlv] at a0;rw[<- hnx] at a1;obtain⟨pg,kd,lc⟩:=e;unfold kE;simp only at hno ⊢;obtain⟨WA,jG⟩:=ex (w.alloc (.cells #[I pg,I kd,I lc] 45));have hb0:Below w.heap.size w WA:=by rw[jG];exact(aK _ _).alloc (aI _) _
 have eb0:WA.heap[w.heap.size]?=some (.cells #[I pg,I kd,I lc] 45 (0,0)):=by rw[jG];exact bO w _ _
 obtain⟨eb,IK⟩:=ex w.heap.size;have nE:S.lab eb=.no:=by rw[IK];exact h.toKr.new (aI _)
 rw[<- IK] at eb0;have EB:=ai eb0;have jQ:∀{V:World},Below WA.heap.size WA V->Below w.heap.size w V:=fun hV=>hb0.trans (hV.mono hb0.size)
 have SI:Hid (∀V,Below WA.heap.size WA V->Calls Tryz.prog 67 #[.agg #[.bool lv,.slice ax nx cx,.slice ae es.length ce],I pg] V fun e w'=>e=.returned (I (-1))/\Below V.heap.size V w'):=fun V hV=>by
  have:=wP es lv (.slice ax nx cx) ae ce pg es.length V (hre.below (jQ hV)) (by omega) hno (.inl rfl);rw[bf (EY _)] at this;exact this
 have lI:=ai jG;have YG:=ai IK;have q0:∀x:dm WA.heap.size WA,x.world.cell? (Ad pb (j*3))=some (.bool lv):=fun x=>((jQ x.keeps).cell (p:=(Ad pb (j*3))) hpl).trans a0
 have q1:∀x:dm WA.heap.size WA,x.world.cell? (Ad pb (j*3+1))=some (.slice ax nx cx):=fun x=>((jQ x.keeps).cell (p:=(Ad pb (j*3+1))) hpl).trans a1
 have q2:∀x:dm WA.heap.size WA,x.world.cell? (Ad pb (j*3+2))=some (.slice ae es.length ce):=fun x=>((jQ x.keeps).cell (p:=(Ad pb (j*3+2))) hpl).trans a2
 have q3:∀x:dm WA.heap.size WA,x.world.cell? (Ad eb 0)=some (I pg):=fun x=>aB (aQ EB.o x.keeps (aT EB.o)) 0 rfl
 have uP:=gG WA;have HGP:Hid (∀i,i<=es.length->(∀m,m<es.length->i<=m->pg<(aH es m).page)->(0<i->(aH es (i-1)).page<=pg)->kT es i ⟨pg,kd,lc⟩=iK es ⟨pg,kd,lc⟩):=fun i h1 h2 h3=>Wk es ⟨pg,kd,lc⟩ i h1 hr hno h2 (fun g=>Int.not_lt.2 (h3 g))
 have cV:Hid (∀S1 U,bu lo mb tt X U S1 (lZ k j (iK es ⟨pg,kd,lc⟩))->bU S WA S1 U->cT lo mb tt X w S (.tuple #[]) (lZ k j (iK es ⟨pg,kd,lc⟩)) (.returned (.tuple #[])) U):=fun S1 U h1 h2=>⟨rfl,S1,h1,(bU.below hb0).trans h2⟩
 obtain⟨P,hPP⟩:=ex (cT lo mb tt X w S (.tuple #[]) (lZ k j (iK es ⟨pg,kd,lc⟩)));rw[<- hPP] at cV ⊢;have Xz:Hid (∀V,Below WA.heap.size WA V->V.cell? (Ad pb (j*3+2))=some (.slice ae es.length ce)/\V.frozen? (Ad pb (j*3+2))=false/\V.ownsRow lo 45 3 (.slice ae es.length ce) es.length (es.flatMap bj)/\lo<=V.heap.size/\(∀o wG vG,(V.alloc o).grownBy wG (Value.slice ae es.length ce).ownBlock->wG.ownsRow lo 45 3 vG (es.length+1) (es.flatMap bj++bj dW)->(vG.ownBlock=(Value.slice ae es.length ce).ownBlock∨vG.ownBlock=some (V.alloc o).heap.size)->(wG.cell? (Ad pb (j*3+2))=some (.slice ae es.length ce)/\wG.frozen? (Ad pb (j*3+2))=false)/\∃S1,(S1.vP=.slice (some (Ad pb 0)) nP cP)/\bu lo mb tt X (wG.setCell (Ad pb (j*3+2)) vG) S1 (lZ k j (kT es es.length dW))/\bU S V S1 (wG.setCell (Ad pb (j*3+2)) vG))):=fun V hV=>by
  have hm:=h.below (jQ hV);obtain⟨KO,cP',A'⟩:=hm.toKr.sp (by omega);obtain rfl:pb=KO:=by have ev:=hP.symm.trans A'.v;simp at ev;omega
  have b2:=A'.x2 j hj;rw[zE] at b2;have Vd:=(hm.each j hj).bC;rw[zE,<- hes] at Vd;have hlE:∀b,bQ (.slice ae es.length ce) b->S.lab b=.aU j:=fun b hb=>hm.lE j hj b (by rw[zE];exact hb)
  refine⟨b2,A'.fz _,Vd,gy hm.lo_le (qc hm.lt),fun o wG vG q1 q2 q3=>?_⟩;have hGk:aM (fun b=>S.lab b=.aU j) V wG:=(aM.alloc _ _ o).trans (aM.grown q1 (fun b e=>hlE b e)) (fun _ _ g=>g);have hnew:∀b,bQ vG b->S.lab b=.aU j∨V.heap.size<=b:=fun b hb=>by
   rcases q3 with q3 | q3
   · exact .inl (hlE b (show(Value.slice ae _ ce).ownBlock=some b by rw[<- q3];exact hb))
   · have hb:vG.ownBlock=some b:=hb;rw[q3] at hb;injection hb with hb;rw[ig] at hb;omega
  have e6:es.flatMap bj++bj dW=(es++[dW]).flatMap bj:=by rw[qg];simp
  obtain⟨m1,m2⟩:=hm.XR (j:=j) hj (v:=vG) (es:=es++[dW]) hP hGk (by rw[e6] at q2;rw[fk];exact q2) (fun b hb=>(hnew b hb).imp id (fun x=>hm.toKr.new x));have hpn:¬S.lab pb=.aU j:=by rw[A'.lab];simp
  refine⟨⟨hGk.cell b2 hpn,?_⟩,⟨vM S j vG,S.vS,S.vF,S.vL,S.vP,S.L.set j ⟨(fZ S.L j).lv,(fZ S.L j).va,vG⟩⟩,hP,?_,m2 (fun b hb hx=>?_)⟩
  · have hrS:=hGk.row hm.aj (fun b hb x=>by have y2:=hm.lP b hb;rw[x] at y2;cases y2);rw[hP] at hrS;obtain⟨_,_,e5,_⟩:=aY hrS;injection e5 with _ e5 _;rw[<- e5] at hrS;exact gp hrS _
  · rw[LV];exact m1
  · rcases hnew b hx with y | y
    · exact y
    · omega
 have oD:Hid (∀V S1 i x,i<=es.length->S1.vP=.slice (some (Ad pb 0)) nP cP->bu lo mb tt X V S1 (lZ k j (kT es i x))->∃gb cG,QX lo mb tt X V S1 k j (kT es i x) pb gb cG):=fun V S1 i x hi h1 h2=>T9 h2 hj (by rw[Ew _ _ _ hi];omega) h1
 have HNE:=ai nE;have hel:es.length<=1000:=hen;obtain⟨i0,hin,hz0,hz1,hz2⟩:=gm tS;have yG:=ai hin;have Bg:=ai hz0;have Bf:=ai hz1;have Aj:=ai hz2;clear h hj hP hen hr hno hk zE hre a0 a1 a2 hlv hnx A Av jG hb0 eb0 IK nE jQ hPP hes fz2 hpl hin hz0 hz1 hz2;go_enter Tryz.func108,Tryz.ntmps108;go_upto_region 1 with fail;rw[<- lI.o,<- YG.o];refine cA (by kernel_rfl) (by kernel_rfl) ?_
 repeat (first | go_big_quiet_step ((go_at_call 67;exact fJ _ SI.o)) | quiet_step ((go_at_call 67;exact fJ _ SI.o)))
 refine fK ?_;rintro _ ⟨X1,rfl⟩;have uO:=ai X1.keeps;obtain⟨WX,hWX⟩:=ex X1.world;rw[<- hWX] at uO ⊢;clear hWX q0 q1 q2 q3 uP SI;obtain⟨p1,p2,p3,p4,p5⟩:=Xz.o WX uO.o;have Dl:=ai (p3.alloc (.cells #[I 0,I 0,I 0] 45));have HP5:=ai p5;have ZI:Hid (bU S WA S WX):=bU.below uO.o;clear p3 p5 Xz;go_upto_region 5 with(at_builtin;refine cZ (P:=Tryz.prog) rfl _ _ 41 rfl lo 45 i0 (.agg #[I 0,I 0,I 0]) 3 24 Tryz.underlying41 yG.o Bg.o Bf.o Aj.o rfl (by decide) (.slice ae es.length ce) es.length (es.flatMap bj) rfl Dl.o (some (Ad WX.heap.size 0)) 1 1 (bj dW) rfl rfl (fun _=>⟨_,rfl,tT (bO WX _ _)⟩) (by intro u hu;simp[bj,dW] at hu;rw[hu];rfl) (by unfold maxLen;omega) (by omega) (by rw[ig];omega) ?_;intro vG wG yR Bj Dy;obtain⟨aG,cG,KR,_,_⟩:=aY yR;subst KR;obtain⟨⟨g1,g2⟩,S1,g3,g4,g5⟩:=HP5.o _ _ _ Bj yR Dy;have jP:=ai g3;have vZ:=ai g4;have EI:=ai (ZI.o.trans g5);clear yR Bj Dy g3 g4 g5)
 obtain⟨WL,hWL⟩:=ex (wG.setCell (Ad pb (j*3+2)) (.slice aG (es.length+1) cG));rw[<- hWL] at vZ EI ⊢;obtain⟨gb0,cG0,E0⟩:=oD.o _ _ _ _ (aI _) jP.o vZ.o;have v0:=E0.v;rw[Ew _ _ _ (aI _)] at v0;clear hWL E0 g1 g2 p1 p2 p4 Dl HP5;go_wp2;go_loopw [4] (fun iv wr=>∃(i:Nat) (x:bG),i<=es.length/\iv=I (i:Int)/\bu lo mb tt X wr S1 (lZ k j (kT es i x))/\bU S WA S1 wr/\(∀m,m<es.length->i<=m->pg<(aH es m).page)) (fun iv _=>(intOf iv).toNat)
 case atStart=>exact⟨es.length,dW,aI _,by go_num,vZ.o,EI.o,fun m h1 h2=>absurd h1 (by omega)⟩
 case round =>
  obtain⟨i,x,hi,rfl,iU,hch,hgt⟩:=hrel;have HKM:=ai iU;have Pv:=ai hch;have YF:=ai hgt;obtain⟨gb,cG,E⟩:=oD.o wr S1 i x hi jP.o iU;have BX:=ai (hch.keep EB.o HNE.o);obtain⟨d0,d1,d2⟩:=nV BX.o;have v:=E.v;have hgl:=Ew es i x hi;have Dw:i<(kT es i x).length:=by omega
  have f0:=E.fz (i*3);have f1:=E.fz (i*3+1);have f2:=E.fz (i*3+2);have x0:=E.x0 i Dw;have x1:=E.x1 i Dw;have x2:=E.x2 i Dw;rw[hgl] at v;have acE:Hid (∀e,bu lo mb tt X (((wr.setCell (Ad gb (i*3)) (I e.page)).setCell (Ad gb (i*3+1)) (I e.kind)).setCell (Ad gb (i*3+2)) (I e.loc)) S1 (lZ k j (kT es i e))/\bU S1 wr S1 (((wr.setCell (Ad gb (i*3)) (I e.page)).setCell (Ad gb (i*3+1)) (I e.kind)).setCell (Ad gb (i*3+2)) (I e.loc))):=fun e=>by
   have:=E.lay i e Dw;rw[Wj _ _ _ _ hi] at this;omega
  obtain⟨X0,hX0⟩:=ex (aH (kT es i x) i);rw[<- hX0] at x0 x1 x2;have hni:(i:Int)<((es.length+1:Nat):Int):=by omega
  have A4:Hid ((0<i->(aH es (i-1)).page<=pg)->∀U,U=(((wr.setCell (Ad gb (i*3)) (I pg)).setCell (Ad gb (i*3+1)) (I kd)).setCell (Ad gb (i*3+2)) (I lc)).drew.drew->P (.returned (.tuple #[])) U):=fun hlast U hU=>by
   have l:=acE.out ⟨pg,kd,lc⟩;have hg:=HGP.o i hi hgt hlast;rw[hg] at l;subst hU;exact cV.o S1 _ (l.1.below (aK _ _).drew.drew) ((hch.trans l.2).trans (bU.below (aK _ _).drew.drew))
  have HI:=ai hi;by_cases hz:i=0
  · subst hz;have UK:=ai (A4.o (fun h0=>absurd h0 (by omega)));clear E hX0 hgl Dw iU hch hgt acE A4 hi;go_upto_region 6 with fail;go_region;go_upto_region 9 with fail;go_region;go_wp2;refine pE (v:=.tuple #[]) (by simp[results,Tryz.results108,go_sem]) rfl ?_;exact UK.o _ rfl
  · obtain⟨i',rfl⟩:∃i',i=i'+1:=⟨i-1,by omega⟩;have hiL:i'<(kT es (i'+1) x).length:=by omega
    have y0:=E.x0 i' hiL;have y1:=E.x1 i' hiL;have y2:=E.x2 i' hiL;rw[Zj es (i'+1) x hi i' (by omega)] at y0 y1 y2;have hp0:(0:Int)<((i'+1:Nat):Int):=by omega
    have hw1:IntKind.i64.wrap (((i'+1:Nat):Int)-1)=(i':Int):=by rw[m8 _ (by omega)];omega
    have hn1:(i':Int)<((es.length+1:Nat):Int):=by omega
    have hST:=T7 es i' (by omega);have l:=acE.out (aH es i');rw[hST] at l;have HL:=ai l;obtain⟨Y,hY⟩:=ex (aH es i');have alE:i'+1-1=i':=by omega
    rw[alE] at A4;rw[<- hY] at y0 y1 y2 HL A4;have HYY:=ai hY;clear hY l hST acE;by_cases acs:pg<Y.page
    · have hgb:(pg<Y.page):=acs;obtain⟨yp,yk,yl⟩:=Y;simp only at y0 y1 y2 HL hgb;clear E hX0 hgl Dw iU hch hgt A4 hi hiL hz acs;go_upto_region 6 with fail;go_region;go_upto_region 7 with fail;go_region;go_wp2;go_roundw
      case rel =>
       refine⟨i',⟨yp,yk,yl⟩,by omega,by go_num,HL.o.1.below (aK _ _).drew.drew,(Pv.o.trans HL.o.2).trans (bU.below (aK _ _).drew.drew),fun m h1 h2=>?_⟩;by_cases c:m=i'
       · rw[c,<- HYY.o];exact hgb
       · exact YF.o m h1 (by omega)
      case measure=>simp[intOf]
    · have hgb:¬(pg<Y.page):=acs;have UK:=ai (A4.o (fun _=>Int.not_lt.1 hgb));obtain⟨yp,yk,yl⟩:=Y;simp only at y0 y1 y2 hgb;clear E hX0 hgl Dw iU hch hgt A4 hi hiL hz acs HL HYY;go_upto_region 6 with fail;go_region;go_upto_region 9 with fail;go_region;go_wp2;refine pE (v:=.tuple #[]) (by simp[results,Tryz.results108,go_sem]) rfl ?_;exact UK.o _ rfl
theorem LR {lo mb:Nat} {tt:TypeId} {X:List Value} (k:aN) (S:dE) (w:World) (j:Nat) (e:bG) {pb nP cP:Nat} (h:bu lo mb tt X w S k) (hj:j<k.aj.length) (hP:S.vP=.slice (some (Ad pb 0)) nP cP) (hen:(ak k.aj j).aU.length<=1000) (hr:iw (ak k.aj j).aU) :
  Calls Tryz.prog 108 #[.pointer (some (Ad pb (j*3))),kE e] w (cT lo mb tt X w S (.tuple #[]) (df k j e)):=by
 cases ho:bD (ak k.aj j).aU e.page with
 | none=>exact Zh k S w j e h hj hP hen hr (I4 ho)
 | some x =>
  obtain⟨i,h1,h2,h3,h4⟩:=xV ho;refine Wd k S w j e h hj hP hen i h1 h3 h4 ?_;have hlt:∀m,m<i->(aH (ak k.aj j).aU m).page<e.page:=fun m hm=>by
   rw[<- h3];have hr:=P7.1 hr m i (by grind) (by grind) hm
   grind [aH]
  grind [Dc]
open Go.RowKit
def lN (i:Nat) (o:Option Nat) (e:bG):List bG:=if iu i e then (match o with | none=>[] | some s=>[⟨e.page,2,s⟩]) else [e]
def Ce (i:Nat) (o:Option Nat) (s:cO):cO:=dG s (s.aU.flatMap (lN i o))
theorem Ub (i:Nat) (s:cO):Ce i none s=kU i s:=by
 unfold Ce kU dG rz;congr 1;induction s.aU with
 | nil=>rfl
 | cons a r ih =>
  rw[mS,ih,List.filter_cons];unfold lN;cases iu i a <;> rfl
theorem Ua (i s0:Nat) (s:cO):Ce i (some s0) s=ik i s0 s:=by
 unfold Ce ik dG iJ;congr 1;induction s.aU with
 | nil=>rfl
 | cons a r ih =>
  rw[mS,ih,CV];unfold lN;cases iu i a <;> rfl
def mX (k:aN) (i:Nat) (o:Option Nat) (n:Nat):aN:={ k with aj:=lM (Ce i o) k.aj n }
def Ib (k:aN) (i:Nat) (o:Option Nat):aN:={ k with frames:=k.frames.set i eW,slots:=(match o with | none=>k.slots | some s=>k.slots.set s ⟨(au k.frames i).data,(au k.frames i).refs⟩),aj:=lM (Ce i o) k.aj k.aj.length }
def QY (k:aN) (i:Nat) (o:Option Nat):Prop:=((au k.frames i).eX=false/\o=none)∨((au k.frames i).eX=true/\∃s,o=some s/\s<k.slots.length/\(br k.slots s).refs=0/\∀q,q<s->(br k.slots q).refs≠0)
theorem aa6 {k:aN} (h:bc k) {i:Nat} (hi:i<k.frames.length) (YN:(au k.frames i).refs≠0):∃o,dh k i=Ib k i o/\QY k i o/\0<k.slots.length:=by
 obtain⟨s,Qc,hsl,_⟩:=h.slot hi YN;cases hd:(au k.frames i).eX with
 | false =>
  refine⟨none,?_,.inl ⟨hd,rfl⟩,by omega⟩;unfold dh Ib uK;rw[hd,zR,show Ce i none=kU i from funext (Ub i)];rfl
 | true =>
  refine⟨some s,?_,.inr ⟨hd,s,rfl,hsl,?_,?_⟩,by omega⟩
  · unfold dh Ib;rw[hd,Qc,zR,show Ce i (some s)=ik i s from funext (Ua i s)];rfl
  · obtain⟨g1,g2,_⟩:=C5.1 Qc;unfold br;rw[lU,q9 g1];simpa using g2
  · obtain⟨g1,_,g3⟩:=C5.1 Qc;intro q hq;have:=g3 q hq;unfold br;rw[lU,q9 (by omega)];simpa using this
theorem Wu (i:Nat) (o:Option Nat) (l:List bG):(l.flatMap (lN i o)).length<=l.length:=by
 induction l with
 | nil=>exact aI _
 | cons a r ih =>
  rw[mS,fk,xC];have:(lN i o a).length<=1:=by
   unfold lN;cases iu i a
   · exact aI _
   · cases o
     · exact oO _
     · exact aI _
  omega
theorem Uc (i:Nat) (o:Option Nat) (l:List bG) (m:Nat) (hm:m<l.length):(l.take (m+1)).flatMap (lN i o)=(l.take m).flatMap (lN i o)++lN i o (aH l m):=by
 have he:aH l m=l[m]:=by unfold aH;rw[lU,q9 hm];rfl
 rw[he,XY,q9 hm,qg];simp
theorem Wt {lo mb:Nat} {tt:TypeId} {X:List Value} {V V1:World} {S:dE} {k:aN} {i:Nat} {o:Option Nat} {n pb nP cP:Nat} {v:Value} (h:bu lo mb tt X V S (mX k i o n)) (hn:n<k.aj.length) (hP:S.vP=.slice (some (Ad pb 0)) nP cP) (hb:Below V.heap.size V V1)
  (hr:V1.ownsRow V.heap.size 45 3 v ((ak k.aj n).aU.flatMap (lN i o)).length (((ak k.aj n).aU.flatMap (lN i o)).flatMap bj)):∃S',bu lo mb tt X (V1.setCell (Ad pb (n*3+2)) v) S' (mX k i o (n+1))/\bU S V S' (V1.setCell (Ad pb (n*3+2)) v):=by
 have hn':n<(mX k i o n).aj.length:=by show n<(lM _ _ _).length;rw[sH];exact hn
 have hat:ak (mX k i o n).aj n=ak k.aj n:=by
  show ak (lM _ _ _) n=_;rw[xR _ _ _ _ hn,bf (EY _)]
 have hlo:lo<=V.heap.size:=gy h.lo_le (qc h.lt);have m:=h.XR (j:=n) hn' (v:=v) (es:=(ak k.aj n).aU.flatMap (lN i o)) hP (aM.cH hb) (mr hr (fun g hg=>gy hlo (hr.lt g hg).1)) (fun b hb=>.inr (h.toKr.new (hr.lt b hb).1));have e:({ mX k i o n with aj:=(mX k i o n).aj.set n (dG (ak (mX k i o n).aj n) ((ak k.aj n).aU.flatMap (lN i o))) }:aN)=mX k i o (n+1):=by
  rw[hat];unfold mX;rw[<- zQ _ _ _ hn];rfl
 rw[e] at m;exact⟨_,m.1,m.2 (fun b hb2 hx=>absurd hb2 (by have:=(hr.lt b hx).1;omega))⟩
def QN (o:Option Nat):Int:=match o with | none=>-1 | some s=>(s:Int)
def Cg (k:aN) (i:Nat) (o:Option Nat) (m:Nat) (z:Int):Prop:=((au k.frames i).eX=false->z=QN o/\m=k.slots.length)/\((au k.frames i).eX=true->∀s,o=some s->m<=s->z=(s:Int))
theorem T3 {k:aN} {i:Nat} {o:Option Nat} (h:QY k i o):Cg k i o k.slots.length (-1):=by
 refine⟨fun d=>?_,fun d s e hs=>?_⟩
 · rcases h with⟨_,rfl⟩ | ⟨g,_⟩
   · exact⟨rfl,rfl⟩
   · rw[d] at g;cases g
 · rcases h with⟨g,_⟩ | ⟨_,s',e',hl,_⟩
   · rw[d] at g;cases g
   · rw[e] at e';injection e' with e';omega
theorem We {k:aN} {i:Nat} {o:Option Nat} (h:QY k i o) (hd:(au k.frames i).eX=true) {m:Nat} {z:Int} (hp:Cg k i o (m+1) z):Cg k i o m (if (br k.slots m).refs=0 then (m:Int) else z):=by
 refine⟨fun d=>absurd (hd.symm.trans d) (by simp),fun _ s e hs=>?_⟩;rcases h with⟨g,_⟩ | ⟨_,s',e',hl,hz,hn⟩
 · rw[hd] at g;cases g
 · rw[e] at e';injection e' with e';subst e';by_cases c:m=s
   · subst c;rw[aR hz]
   · rw[bf (hn m (by omega))];exact hp.2 hd s e (by omega)
theorem Zi {k:aN} {i:Nat} {o:Option Nat} (h:QY k i o) {m:Nat} {z:Int} (hp:Cg k i o m z) (hx:(au k.frames i).eX=false∨m=0):z=QN o:=by
 rcases h with⟨g,rfl⟩ | ⟨g,s',rfl,_⟩
 · exact(hp.1 g).1
 · rcases hx with x | x
   · rw[g] at x;cases x
   · exact hp.2 g s' rfl (by omega)
open Go.RowKit
theorem QV {lo mb:Nat} {tt:TypeId} {X:List Value} (k:aN) (S:dE) (w:World) (i:Nat) (h:bu lo mb tt X w S k) (hR:bc k) (hi:i<k.frames.length) (YN:(au k.frames i).refs≠0) :
  Calls Tryz.prog 147 #[.pointer (some (Ad mb 0)),I (i:Int)] w (cT lo mb tt X w S (.tuple #[]) (dh k i)):=by
 have hcc:=hR.c;obtain⟨o,hok,hAO,hL0⟩:=aa6 hR hi YN;rw[hok];obtain⟨fb,cF,A⟩:=h.toKr.fr (by omega);obtain⟨lb,cL,AL⟩:=h.toKr.sl hL0;obtain⟨pb,cP,AP⟩:=h.toKr.sp (by omega);have c1:=h.c1;rw[A.v] at c1;have c2:=h.c2;rw[AL.v] at c2;have x2:=A.x2 i hi;have JC:(i:Int)<(k.frames.length:Int):=by omega
 have Mu:Hid (∀m,m<k.slots.length->w.cell? (Ad lb (m*2+1))=some (I (br k.slots m).refs)):=AL.x1;have HMC:Hid (∀V S' n,bu lo mb tt X V S' (mX k i o n)->bU S w S' V->V.cell? (Ad mb 3)=some (.slice (some (Ad pb 0)) k.aj.length cP)):=fun V S' n h1 h2=>by
  have:=h1.c3;rw[h2.eP,AP.v] at this;omega
 have afK:Hid (∀V S' n,n<k.aj.length->bu lo mb tt X V S' (mX k i o n)->bU S w S' V->∃ae ce,V.cell? (Ad pb (n*3+2))=some (.slice ae (ak k.aj n).aU.length ce)/\V.frozen? (Ad pb (n*3+2))=false/\mb<V.heap.size/\pb<V.heap.size/\cJ bj 3 dW V ae (ak k.aj n).aU/\(ak k.aj n).aU.length<=1000 /\
   (∀V1 v,Below V.heap.size V V1->V1.ownsRow V.heap.size 45 3 v ((ak k.aj n).aU.flatMap (lN i o)).length (((ak k.aj n).aU.flatMap (lN i o)).flatMap bj)->∃S'',bu lo mb tt X (V1.setCell (Ad pb (n*3+2)) v) S'' (mX k i o (n+1))/\bU S w S'' (V1.setCell (Ad pb (n*3+2)) v))):=fun V S' n hn h1 h2=>by
  have hlen:(mX k i o n).aj.length=k.aj.length:=sH _ _ _;have hn':n<(mX k i o n).aj.length:=by omega
  have hat:ak (mX k i o n).aj n=ak k.aj n:=by
   show ak (lM _ _ _) n=_;rw[xR _ _ _ _ hn,bf (EY _)]
  have hPV:S'.vP=.slice (some (Ad pb 0)) k.aj.length cP:=h2.eP.trans AP.v;obtain⟨KO,cP',A'⟩:=h1.toKr.sp (by omega);obtain rfl:pb=KO:=by have ev:=hPV.symm.trans A'.v;grind
  obtain⟨ae,ce,zE,hre⟩:=h1.toKr.aU hn';rw[hat] at zE hre;have a2:=A'.x2 n hn';rw[zE] at a2;refine⟨ae,ce,a2,A'.fz _,h1.lt,A'.lt,hre,by have:=iZ hR hn;omega,fun V1 v g1 g2=>?_⟩;obtain⟨S'',q1,q2⟩:=Wt h1 hn hPV g1 g2;exact⟨S'',q1,h2.trans q2⟩
 have ado:Hid (∀V S' K,K.frames=k.frames->bu lo mb tt X V S' K->bU S w S' V->V.cell? (Ad mb 1)=some (.slice (some (Ad fb 0)) k.frames.length cF)/\V.cell? (Ad fb (i*4))=some (.string (au k.frames i).data)/\V.cell? (Ad fb (i*4+1))=some (I (au k.frames i).refs)/\V.cell? (Ad fb (i*4+2))=some (.bool (au k.frames i).eX)/\V.cell? (Ad fb (i*4+3))=some (.bool (au k.frames i).seen)/\(∀o,V.frozen? (Ad fb o)=false) /\
   (∀U,U=(((V.setCell (Ad fb (i*4)) (.string ⟨#[]⟩)).setCell (Ad fb (i*4+1)) (I 0)).setCell (Ad fb (i*4+2)) (.bool false)).setCell (Ad fb (i*4+3)) (.bool false)->bu lo mb tt X U S' { K with frames:=k.frames.set i eW }/\bU S w S' U)):=fun V S' K hK h1 h2=>by
  have hvF:S'.vF=.slice (some (Ad fb 0)) k.frames.length cF:=h2.eF.trans A.v;obtain⟨YZ,cF',A'⟩:=h1.toKr.fr (by grind);obtain rfl:fb=YZ:=by have ev:=hvF.symm.trans A'.v;grind
  have hi':i<K.frames.length:=by grind
  have e1:=h1.c1;rw[hvF] at e1;have y0:=A'.x0 i hi';have y1:=A'.x1 i hi';have y2:=A'.x2 i hi';have y3:=A'.x3 i hi';rw[hK] at y0 y1 y2 y3;refine⟨e1,y0,y1,y2,y3,A'.fz,fun U hU=>?_⟩;have m:=h1.SM A'.v hi' eW;rw[hK] at m;subst hU;exact⟨m.1,h2.trans m.2⟩
 have amN:Hid (∀V S' s,o=some s->bu lo mb tt X V S' (mX k i o k.aj.length)->bU S w S' V->V.cell? (Ad mb 2)=some (.slice (some (Ad lb 0)) k.slots.length cL)/\(s:Int)<(k.slots.length:Int)/\(∃u0 u1,V.cell? (Ad lb (s*2))=some (.string u0)/\V.cell? (Ad lb (s*2+1))=some (I u1))/\(∀o,V.frozen? (Ad lb o)=false) /\
   (∀U,U=((V.setCell (Ad lb (s*2)) (.string (au k.frames i).data)).setCell (Ad lb (s*2+1)) (I (au k.frames i).refs)).drew->bu lo mb tt X U S' { mX k i o k.aj.length with slots:=k.slots.set s ⟨(au k.frames i).data,(au k.frames i).refs⟩ }/\bU S w S' U)):=fun V S' s ho h1 h2=>by
  have hs:s<k.slots.length:=by
   rcases hAO with⟨_,g⟩ | ⟨_,s',g,hl,_⟩
   · grind
   grind
  have hvL:S'.vL=.slice (some (Ad lb 0)) k.slots.length cL:=h2.eL.trans AL.v;obtain⟨lb',cL',A'⟩:=h1.toKr.sl hL0;obtain rfl:lb=lb':=by have ev:=hvL.symm.trans A'.v;grind
  have e2:=h1.c2;rw[hvL] at e2;refine⟨e2,by omega,⟨_,_,A'.x0 s hs,A'.x1 s hs⟩,A'.fz,fun U hU=>?_⟩;have m:=h1.ace A'.v (i:=s) hs ⟨(au k.frames i).data,(au k.frames i).refs⟩;subst hU;exact⟨m.1.below (aK _ _).drew,(h2.trans m.2).trans (bU.below (aK _ _).drew)⟩
 have cV:Hid (∀V S',bu lo mb tt X V S' (Ib k i o)->bU S w S' V->cT lo mb tt X w S (.tuple #[]) (Ib k i o) (.returned (.tuple #[])) V):=fun V S' h1 h2=>⟨rfl,S',h1,h2⟩
 obtain⟨P,hP⟩:=ex (cT lo mb tt X w S (.tuple #[]) (Ib k i o));rw[<- hP] at cV ⊢;have HST:=ai (T3 hAO);have uT:Hid (∀m z,(au k.frames i).eX=true->Cg k i o (m+1) z->Cg k i o m (if (br k.slots m).refs=0 then (m:Int) else z)):=fun m z hd hp=>We hAO hd hp
 have oD:Hid (∀m z,Cg k i o m z->((au k.frames i).eX=false∨m=0)->z=QN o):=fun m z hp hx=>Zi hAO hp hx
 have pL:Hid (bu lo mb tt X w S (mX k i o 0)):=h;have hnl:k.slots.length<=512:=by omega
 have ahi:k.aj.length<=4:=by omega
 obtain⟨d,hd⟩:=ex ((au k.frames i).eX);rw[<- hd] at x2 uT oD ado;obtain⟨i0,hin,hz0,hz1,hz2⟩:=gm tS;have yG:=ai hin;have Bg:=ai hz0;have Bf:=ai hz1;have Aj:=ai hz2;clear hok hAO hcc hR YN A AL AP h hP hd hi hin hz0 hz1 hz2;go_enter Tryz.func147,Tryz.ntmps147;go_wp2;go_loopw [4,5] (fun sv iv wr=>∃(m:Nat) (z:Int),m<=k.slots.length/\iv=I ((m:Int)-1)/\sv=I z/\wr=w/\Cg k i o m z) (fun _ iv _=>(intOf iv+1).toNat)
 case atStart=>exact⟨k.slots.length,-1,aI _,by go_num,rfl,rfl,HST.o⟩
 case round =>
  obtain⟨m,z,hm,rfl,rfl,hwr,Ve⟩:=hrel;have hwr:=hwr.symm;subst hwr;have Dk:=ai Ve;clear Ve;by_cases hgo:d=true/\0<m
  · obtain⟨rfl,hm0⟩:=hgo;obtain⟨m',rfl⟩:∃m',m=m'+1:=⟨m-1,by omega⟩;have e1:((m'+1:Nat):Int)-1=(m':Int):=by omega
    rw[e1];have hge:(0:Int)<=(m':Int):=by omega
    have hlt:(m':Int)<(k.slots.length:Int):=by omega
    have s1:=Mu.o m' (by omega);have HPS:=ai (uT.o m' z rfl Dk.o);have HM:=ai hm;have hw1:IntKind.i64.wrap ((m':Int)-1)=(m':Int)-1:=m8 _ (by omega);obtain⟨R,hRR⟩:=ex ((br k.slots m').refs);rw[<- hRR] at s1 HPS;by_cases hz:R=0
    · rw[aR hz] at HPS;have zb:(R==0)=true:=by simpa using hz
      clear hz hRR e1 hm;go_wp2;go_roundw
      case rel=>exact⟨m',_,by omega,by go_num,by first | rfl | trivial,by first | rfl | trivial,HPS.o⟩
      case measure=>simp[intOf]
    · rw[bf hz] at HPS;have zb:(R==0)=false:=by simpa using hz
      clear hz hRR e1 hm;go_wp2;go_roundw
      case rel=>exact⟨m',_,by omega,by go_num,by first | rfl | trivial,by first | rfl | trivial,HPS.o⟩
      case measure=>simp[intOf]
  · have hx:d=false∨m=0:=by
     cases d
     · exact .inl rfl
     · exact .inr (by by_cases c:0<m;exact absurd ⟨rfl,c⟩ hgo;omega)
    obtain rfl:=oD.o m z Dk.o hx;go_upto_region 2 with fail;go_cut [27] (fun c wx=>c=.bool false/\wx=w)
    case first =>
     by_cases c:m=0
     · subst c;have hge:¬(0:Int)<=((0:Nat):Int)-1:=by omega
       clear hgo hx;go_wp2;go_meet
       exact⟨rfl,rfl⟩
     · obtain rfl:d=false:=by rcases hx with x | x;exact x;omega
       have hge:(0:Int)<=(m:Int)-1:=by omega
       clear hgo hx c;go_wp2;go_meet
       exact⟨rfl,rfl⟩
    case rest =>
    obtain⟨rfl,hwc⟩:=hcut;have hwc:=hwc.symm;subst hwc;obtain⟨sz,hsz⟩:=ex (QN o);have ZX:=ai hsz;rw[<- hsz];clear hgo hx hsz Dk hm c1 c2 x2 Mu;go_wp2;go_loopw [6] (fun iv wr=>∃(n:Nat) (S':dE),n<=k.aj.length/\iv=I (n:Int)/\bu lo mb tt X wr S' (mX k i o n)/\bU S w S' wr) (fun iv _=>k.aj.length-(intOf iv).toNat)
    case atStart=>exact⟨0,S,oO _,rfl,pL.o,bU.refl _ _⟩
    case round =>
     obtain⟨n,S',hn,rfl,iU,hch⟩:=hrel;have c3:=HMC.o wr S' n iU hch;by_cases hlt:n<k.aj.length
     · have hni:(n:Int)<(k.aj.length:Int):=by omega
       have HNL:=ai hlt;obtain⟨ae,ce,a2,fz,hmV,hpV,hre,hel,hlast⟩:=afK.o wr S' n hlt iU hch;obtain⟨es,hes⟩:=ex ((ak k.aj n).aU);rw[<- hes] at a2 hre hel hlast;have Pr:=ai hlast;have rD:=ai hre;have ZJ:Hid (∀V,Below wr.heap.size wr V->V.cell? (Ad mb 3)=some (.slice (some (Ad pb 0)) k.aj.length cP)/\V.cell? (Ad pb (n*3+2))=some (.slice ae es.length ce)/\V.frozen? (Ad pb (n*3+2))=false):=fun V hV=>⟨(hV.cell (p:=(Ad mb 3)) hmV).trans c3,(hV.cell (p:=(Ad pb (n*3+2))) hpV).trans a2,(hV.frozen (p:=(Ad pb (n*3+2))) hpV).trans fz⟩
       clear hlast hre iU hch hes pL hlt hn a2 fz;go_wp2;clear c3;go_loopw [7,8] (fun lv jv wq=>∃(m:Nat) (av:Option Addr) (cv:Nat),m<=es.length/\jv=I (m:Int)/\lv=.slice av ((es.take m).flatMap (lN i o)).length cv/\wq.ownsRow wr.heap.size 45 3 (.slice av ((es.take m).flatMap (lN i o)).length cv) ((es.take m).flatMap (lN i o)).length (((es.take m).flatMap (lN i o)).flatMap bj)/\Below wr.heap.size wr wq) (fun _ jv _=>es.length-(intOf jv).toNat)
       case atStart=>exact⟨0,none,0,oO _,rfl,rfl,jz _ _ _ _,aK _ _⟩
       case round =>
        rename World=>wq
        obtain⟨m,av,cv,hm,rfl,rfl,hrow,Az⟩:=hrel;obtain⟨c3,a2,fz⟩:=ZJ.o wq Az;by_cases hlt:m<es.length
        · have hmi:(m:Int)<(es.length:Int):=by omega
          have HLT:=ai hlt;obtain⟨gb,go,e1,e2,e3⟩:=(rD.o.below Az) (by omega);have z0:=e3 m hlt 0 (by omega);have z1:=e3 m hlt 1 (by omega);have z2:=e3 m hlt 2 (by omega);rw[fW] at z0;subst e1;have Fa:=Uc i o es m hlt;have hll:=Wu i o (es.take m);rw[rX] at hll;obtain⟨E,hE⟩:=ex (aH es m);rw[show es.getD m dW=E from hE.symm] at z0 z1 z2;rw[<- hE] at Fa;obtain⟨pe,kd,lc⟩:=E;replace z0:wq.cell? (Ad gb (go+m*3))=some (I pe):=z0;replace z1:wq.cell? (Ad gb (go+m*3+1))=some (I kd):=z1;replace z2:wq.cell? (Ad gb (go+m*3+2))=some (I lc):=z2;have ahs:iu i ⟨pe,kd,lc⟩=decide (kd=1/\lc=(i:Int)):=rfl;unfold lN at Fa;rw[ahs] at Fa;obtain⟨LS,hLS⟩:=ex ((es.take m).flatMap (lN i o));have acD:(es.take m).flatMap (lN i o)=LS:=hLS.symm;have Fa:(es.take (m+1)).flatMap (lN i o)=LS++(if decide (kd=1/\lc=(i:Int))=true then (match o with | none=>[] | some s=>[⟨pe,2,s⟩]) else [⟨pe,kd,lc⟩]):=by rw[hLS];exact Fa
          rw[acD] at hrow hll;rw[acD];obtain⟨LN,hLN⟩:=ex LS.length;obtain⟨XS,Vi⟩:=ex (LS.flatMap bj);rw[<- hLN,<- Vi] at hrow;rw[<- hLN] at hll;rw[<- hLN];have HLN:=ai hLN;have HXS:=ai Vi;have HLS:=ai acD;have Mv:=ai hrow;have GU:=ai Az;obtain⟨EBK,afd⟩:=ex wq.heap.size;have BX:=bO wq #[I pe,I kd,I lc] 45;rw[<- afd] at BX;have YG:=ai afd;have afC:=ai Az.size;obtain⟨d0,d1,d2⟩:=nV BX;have f0:=aO BX 0;have f1:=aO BX 1;have f2:=aO BX 2;have uO:=ai BX;obtain⟨WE,hWE⟩:=ex (wq.alloc (.cells #[I pe,I kd,I lc] 45));rw[<- hWE] at d0 d1 d2 f0 f1 f2 uO;have HWE:=ai hWE;have J0:Hid (Below wr.heap.size wr WE):=by rw[hWE];exact Az.alloc Az.size _
          have GQ:Hid (WE.ownsRow wr.heap.size 45 3 (.slice av LN cv) LN XS):=by rw[hWE];exact hrow.alloc _
          have acw:es.length<=1000:=hel;clear hm hrow Az e2 e3 hE ahs hLS acD hLN Vi afd BX hWE;by_cases ci:kd=1/\lc=(i:Int)
          · rw[dI ci,aR rfl] at Fa;have kb:(kd==1)=true:=by simpa using ci.1
            have lb2:(lc==(i:Int))=true:=by simpa using ci.2
            cases o with
            | none =>
             have hs0:sz<0:=by rw[ZX.o];decide
             have Xn:=ai Fa;clear Fa ci hlt;go_upto_region 14 with fail;rw[<- HWE.o,<- YG.o];clear c3 a2 fz z0 z1 z2;go_wp2;go_roundw
             case rel =>
              have hls:(es.take (m+1)).flatMap (lN i none)=LS:=by rw[Xn.o];exact E2 _
              refine⟨m+1,av,cv,HLT.o,by go_num,?_,?_,J0.o⟩
              · rw[hls,<- HLN.o]
              · rw[hls,<- HLN.o,<- HXS.o];exact GQ.o
             case measure=>simp[intOf];omega
            | some s =>
             have hs0:¬sz<0:=by rw[ZX.o];show ¬(s:Int)<0;omega
             have hss:sz=(s:Int):=ZX.o;have Fa:(es.take (m+1)).flatMap (lN i (some s))=LS++[⟨pe,2,sz⟩]:=by rw[hss];omega
             have Xn:=ai Fa;clear Fa ci hlt hss;go_upto_region 14 with fail;rw[<- HWE.o,<- YG.o];clear c3 a2 fz z0 z1 z2;go_upto_region 17 with fail;obtain⟨WU,hWU⟩:=ex (((WE.setCell (Ad EBK 0) (I pe)).setCell (Ad EBK 1) (I 2)).setCell (Ad EBK 2) (I sz));have hbU:Below wr.heap.size wr WU:=by rw[hWU];exact((J0.o.setCell (p:=(Ad EBK 0)) (by rw[YG.o];exact afC.o) _).setCell (p:=(Ad EBK 1)) (by rw[YG.o];exact afC.o) _).setCell (p:=(Ad EBK 2)) (by rw[YG.o];exact afC.o) _
             have hrU:WU.ownsRow wr.heap.size 45 3 (.slice av LN cv) LN XS:=by rw[hWU];exact(show aM (fun b=>b=EBK) WE _ from tR WE EBK _ _ _ _ _ _ rfl).row GQ.o (fun b hb e=>by have:=(Mv.o.lt b hb).2;rw[e,YG.o] at this;omega)
             have bxU:WU.heap[EBK]?=some (.cells #[I pe,I 2,I sz] 45 (0,0)):=by rw[hWU];exact dD (dD (dD uO.o 0 _) 1 _) 2 _
             rw[<- hWU];obtain⟨t0,t1,t2⟩:=nV bxU;have HOU:=ai (hrU.alloc (.cells #[I pe,I 2,I sz] 45));have HBU:=ai hbU;clear hWU hbU hrU bxU d0 d1 d2;go_wp2_with (at_builtin;refine cZ (P:=Tryz.prog) rfl _ _ 41 rfl wr.heap.size 45 i0 (.agg #[I 0,I 0,I 0]) 3 24 Tryz.underlying41 yG.o Bg.o Bf.o Aj.o rfl (by decide) (.slice av LN cv) LN XS rfl HOU.o (some (Ad WU.heap.size 0)) 1 1 (bj ⟨pe,2,sz⟩) rfl rfl (fun _=>⟨_,rfl,tT (bO WU _ _)⟩) (by intro u hu;simp[bj] at hu;rcases hu with rfl | rfl | rfl <;> rfl) (by unfold maxLen;omega) (by omega) (by have:=HBU.o.size;rw[ig];omega) ?_;intro vG wG yR Bj Dy;obtain⟨aG,cG,KR,_,_⟩:=aY yR;subst KR;have HOG:=ai yR;have HBG:=ai ((HBU.o.alloc HBU.o.size (.cells #[I pe,I 2,I sz] 45)).grown Bj (by have:=HBU.o.size;rw[ig];omega) (fun q hq=>(HOU.o.lt q hq).1));clear yR Bj Dy)
             go_roundw
             case rel =>
              refine⟨m+1,aG,cG,HLT.o,by go_num,?_,?_,HBG.o⟩
              · rw[Xn.o,fk,<- HLN.o];rfl
              · rw[Xn.o,fk,qg,<- HLN.o,<- HXS.o];exact HOG.o
             case measure=>simp[intOf];omega
          · rw[dJ ci,bf (by simp)] at Fa;have Xn:=ai Fa;go_upto_region 14 with fail;rw[<- HWE.o,<- YG.o];clear c3 a2 fz z0 z1 z2 Fa hlt;go_cut [81] (fun c wx=>c=.bool false/\wx=WE)
            case first =>
             by_cases c1:kd=1
             · have kb:(kd==1)=true:=by simpa using c1
               have lb2:(lc==(i:Int))=false:=by simpa using fun g=>ci ⟨c1,g⟩
               clear ci c1;go_wp2;go_meet
               exact⟨rfl,rfl⟩
             · have kb:(kd==1)=false:=by simpa using c1
               clear ci c1;go_wp2;go_meet
               exact⟨rfl,rfl⟩
            case rest =>
            obtain⟨rfl,hwe⟩:=hcut;have hwe:=hwe.symm;subst hwe;clear ci;go_upto_region 17 with fail;obtain⟨WU,hWU⟩:=ex WE;have hbU:Below wr.heap.size wr WU:=by rw[hWU];exact J0.o
            have hrU:WU.ownsRow wr.heap.size 45 3 (.slice av LN cv) LN XS:=by rw[hWU];exact GQ.o
            have bxU:WU.heap[EBK]?=some (.cells #[I pe,I kd,I lc] 45 (0,0)):=by rw[hWU];exact uO.o
            rw[<- hWU];obtain⟨t0,t1,t2⟩:=nV bxU;have HOU:=ai (hrU.alloc (.cells #[I pe,I kd,I lc] 45));have HBU:=ai hbU;clear hWU hbU hrU bxU d0 d1 d2;go_wp2_with (at_builtin;refine cZ (P:=Tryz.prog) rfl _ _ 41 rfl wr.heap.size 45 i0 (.agg #[I 0,I 0,I 0]) 3 24 Tryz.underlying41 yG.o Bg.o Bf.o Aj.o rfl (by decide) (.slice av LN cv) LN XS rfl HOU.o (some (Ad WU.heap.size 0)) 1 1 (bj ⟨pe,kd,lc⟩) rfl rfl (fun _=>⟨_,rfl,tT (bO WU _ _)⟩) (by intro u hu;simp[bj] at hu;rcases hu with rfl | rfl | rfl <;> rfl) (by unfold maxLen;omega) (by omega) (by have:=HBU.o.size;rw[ig];omega) ?_;intro vG wG yR Bj Dy;obtain⟨aG,cG,KR,_,_⟩:=aY yR;subst KR;have HOG:=ai yR;have HBG:=ai ((HBU.o.alloc HBU.o.size (.cells #[I pe,I kd,I lc] 45)).grown Bj (by have:=HBU.o.size;rw[ig];omega) (fun q hq=>(HOU.o.lt q hq).1));clear yR Bj Dy)
            go_roundw
            case rel =>
             refine⟨m+1,aG,cG,HLT.o,by go_num,?_,?_,HBG.o⟩
             · rw[Xn.o,fk,<- HLN.o];rfl
             · rw[Xn.o,fk,qg,<- HLN.o,<- HXS.o];exact HOG.o
            case measure=>simp[intOf];omega
        · obtain rfl:m=es.length:=by omega
          rw[qd] at hrow ⊢;obtain⟨S2,hk2,hc2⟩:=Pr.o wq _ Az hrow;obtain⟨LN,hLN⟩:=ex ((es.flatMap (lN i o)).length);rw[<- hLN] at hk2 hc2 ⊢;have qa:=ai hk2;have tD:=ai hc2;clear hrow Az hk2 hc2 hLN hlt;go_wp2;go_roundw
          case rel=>exact⟨n+1,S2,HNL.o,by go_num,qa.o,tD.o⟩
          case measure=>simp[intOf];omega
     · obtain rfl:n=k.aj.length:=by omega
       have HKM:=ai iU;cases o with
       | none =>
        have hs0:¬(0:Int)<=sz:=by rw[ZX.o];decide
        obtain⟨g1,g2,g3,g4,g5,g6,g7⟩:=ado.o wr S' (mX k i none k.aj.length) rfl iU hch;have f0:=g6 (i*4);have f1:=g6 (i*4+1);have f2:=g6 (i*4+2);have f3:=g6 (i*4+3);have HG7:=ai g7;clear g6 g7 iU hch pL afK HMC;go_wp2;refine pE (v:=.tuple #[]) (by simp[results,Tryz.results147,go_sem]) rfl ?_;exact cV.o _ S' (HG7.o _ rfl).1 (HG7.o _ rfl).2
       | some s =>
        have hs0:(0:Int)<=sz:=by rw[ZX.o];show(0:Int)<=(s:Int);omega
        have hss:sz=(s:Int):=ZX.o;subst hss;obtain⟨p1,p2,⟨u0,u1,p3,p4⟩,p5,p6⟩:=amN.o wr S' s rfl iU hch;obtain⟨g1,g2,g3,g4,g5,_,_⟩:=ado.o wr S' (mX k i (some s) k.aj.length) rfl iU hch;have f0:=p5 (s*2);have f1:=p5 (s*2+1);have HP6:=ai p6;clear p5 p6 iU hch pL afK HMC;go_upto_region 20 with fail;go_region;obtain⟨U,hU⟩:=ex (((wr.setCell (Ad lb (s*2)) (.string (au k.frames i).data)).setCell (Ad lb (s*2+1)) (I (au k.frames i).refs)).drew);rw[<- hU];obtain⟨hku,hcu⟩:=HP6.o U hU;obtain⟨g1,g2,g3,g4,g5,g6,g7⟩:=ado.o U S' { mX k i (some s) k.aj.length with slots:=k.slots.set s ⟨(au k.frames i).data,(au k.frames i).refs⟩ } rfl hku hcu;have f0:=g6 (i*4);have f1:=g6 (i*4+1);have f2:=g6 (i*4+2);have f3:=g6 (i*4+3);have HG7:=ai g7;clear g6 g7 hku hcu hU p1 p2 p3 p4;go_wp2;refine pE (v:=.tuple #[]) (by simp[results,Tryz.results147,go_sem]) rfl ?_;exact cV.o _ S' (HG7.o _ rfl).1 (HG7.o _ rfl).2
end Go.Proofs.YtpgifpeohlllfaaGreat
