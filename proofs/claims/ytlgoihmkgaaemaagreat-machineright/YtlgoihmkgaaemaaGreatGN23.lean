import Derived.Test.YtlgoihmkgaaemaaGreatGN21
set_option maxHeartbeats 20000000
set_option linter.unusedVariables false
set_option maxRecDepth 100000
set_option linter.unusedSimpArgs false
namespace Go.Proofs.YtlgoihmkgaaemaaGreat
open Go.RowKit
def yo (k:aT) (sp:Int):aT×Int:=if fI k sp≠0 then (eG,fI k sp) else (jy k sp.toNat,0)
theorem l6 {W:World} {rb:Nat} (hr:W.heap[rb]?=some (.cells #[Nl,Nl,Nl,Nl,I 0] 30 (0,0))) (s f l p h:Value) {V:World} (hV:V=((((W.setCell (Ad rb 0) s).setCell (Ad rb 1) f).setCell (Ad rb 2) l).setCell (Ad rb 3) p).setCell (Ad rb 4) h) :
  V.heap[rb]?=some (.cells #[s,f,l,p,h] 30 (0,0))/\aD (fun b=>b=rb) W V:=by
 subst hV;refine⟨fh (fh (fh (fh (fh hr 0 s) 1 f) 2 l) 3 p) 4 h,?_⟩;have k:∀(A:World) (j:Nat) (v:Value),aD (fun b=>b=rb) A (A.setCell (Ad rb j) v):=fun A j v=>aD.set _ A (Ad rb j) v rfl
 exact((((k _ _ _).trans (k _ _ _) (fun _ _ g=>g)).trans (k _ _ _) (fun _ _ g=>g)).trans (k _ _ _) (fun _ _ g=>g)).trans (k _ _ _) (fun _ _ g=>g)
theorem VJ (e:bI) (w:World):Calls Tryz.prog 269 #[.agg #[I e.page,I e.kind,I e.loc]] w fun r w'=>r=.returned (.bool true)/\Below w.heap.size w w':=by
 go_enter Tryz.func269,Tryz.ntmps269;go_wp2;go_ret;simp[aK,pZ]
theorem YS (E8:rG) (k:aT) (a:jc) (sp:Int) (w:World) (hK:jd w a k) (hF:nu k) (hsp:cO sp) :
  Calls Tryz.prog 260 #[.agg (bg a k),I sp] w (cA w (yo k sp).1 [I (yo k sp).2]):=by
 obtain⟨WA,lO⟩:=ex ((w.alloc (.cells (bg a k) 30)).alloc (.cells #[Nl,Nl,Nl,Nl,I 0] 30));have hb0:Below w.heap.size w WA:=by simp_all [aK,pZ]
 have kb:WA.heap[w.heap.size]?=some (.cells (bg a k) 30 (0,0)):=by grind [br,bE]
 have rb:WA.heap[w.heap.size+1]?=some (.cells #[Nl,Nl,Nl,Nl,I 0] 30 (0,0)):=by
  grind [bE,World.size_alloc]
 have RB:Hid (∀V,Below WA.heap.size WA V->V.heap[w.heap.size+1]?=some (.cells #[Nl,Nl,Nl,Nl,I 0] 30 (0,0))):=fun V hb=>aO rb hb (aJ rb)
 have k0:WA.cell? (Ad w.heap.size 0)=some (.slice a.aS k.aM.length a.cS):=au kb 0 rfl;have k1:WA.cell? (Ad w.heap.size 1)=some (.slice a.aF k.frames.length a.cF):=au kb 1 rfl;have k2:WA.cell? (Ad w.heap.size 2)=some (.slice a.aL k.slots.length a.cL):=au kb 2 rfl;have k3:WA.cell? (Ad w.heap.size 3)=some (.slice a.aP k.aj.length a.cP):=au kb 3 rfl;have k4:WA.cell? (Ad w.heap.size 4)=some (I k.hand):=au kb 4 rfl;have se:=ai lO;have gK:=ai hb0;have hrl:=aJ rb;have Ax:=ai (yr k a sp WA (hK.below hb0) hF hsp);by_cases c:fI k sp=0
 · obtain⟨hR,Jb,hj,ui⟩:=rQ c;obtain⟨j,hje⟩:∃j:Nat,sp=(j:Int):=⟨sp.toNat,by omega⟩;subst hje;rw[lM] at hj ui;have hA:yo k (j:Int)=(jy k j,0):=by
    grind [yo]
   rw[hA];have hsm:=sS hR hF;have HOW:Hid (∀V mb,Below WA.heap.size WA V->WA.heap.size<=mb->V.heap[mb]?=some (.cells (nk a k) 158 (0,0))->Calls Tryz.prog 267 #[.pointer (some (Ad mb 0))] V fun e w'=>e=.returned (.tuple #[])/\∃S hs,cC k.aM hs/\bK WA.heap.size mb 158 (ij k) w' S (aV k hs)/\Below WA.heap.size WA w'):=fun V mb hV nJ hm2=>(DK E8 k a mb V (hK.below (hb0.trans (hV.mono hb0.size))) hsm hm2 WA.heap.size nJ).mono fun e w' ⟨h1,S,hs,h2,h3,h4,h5⟩=>⟨h1,S,hs,h2,h3,aD.below hV h5 hV.size (fun b e=>by omega)⟩
   have xq:Hid (Calls Tryz.prog 76 #[.agg (bg a k),I (j:Int)] WA fun e w'=>∃mb,e=.returned (.tuple #[.pointer (some (Ad mb 0)),I 0])/\WA.heap.size<=mb/\w'.heap[mb]?=some (.cells (nk a k) 158 (0,0))/\Below WA.heap.size WA w'):=Ax.o.mono fun e w' ⟨h1,h2⟩=>by
    grind
   have hsk:(jy k j).aM=k.aM:=(mY k j (fun _=>true)).1;have HFG:Hid (∀V S mb hs,cC k.aM hs->bK WA.heap.size mb 158 (ij k) V S (aV k hs)->Below WA.heap.size WA V->Calls Tryz.prog 268 #[.pointer (some (Ad mb 0)),I (j:Int),.func (.func 269) #[] #[]] V fun e w'=>∃aS nS cS aF nF cF aL nL cL pb nP cP hd va vp lv,e=.returned (.tuple #[])/\(w'.cell? (Ad mb 0)=some (.slice aS nS cS)/\w'.cell? (Ad mb 1)=some (.slice aF nF cF)/\w'.cell? (Ad mb 2)=some (.slice aL nL cL)/\w'.cell? (Ad mb 3)=some (.slice (some (Ad pb 0)) nP cP)/\w'.cell? (Ad mb 4)=some (I hd))/\(j:Int)<(nP:Int)/\¬mb=pb/\(w'.cell? (Ad pb (j*3))=some lv/\w'.cell? (Ad pb (j*3+1))=some va/\w'.cell? (Ad pb (j*3+2))=some vp)/\(w'.frozen? (Ad pb (j*3))=false/\w'.frozen? (Ad pb (j*3+1))=false/\w'.frozen? (Ad pb (j*3+2))=false)/\((((w'.setCell (Ad pb (j*3)) (.bool false)).setCell (Ad pb (j*3+1)) Nl).setCell (Ad pb (j*3+2)) Nl).heap[w.heap.size+1]?=some (.cells #[Nl,Nl,Nl,Nl,I 0] 30 (0,0)))/\(∀U,aD (fun b=>b=w.heap.size+1) (((w'.setCell (Ad pb (j*3)) (.bool false)).setCell (Ad pb (j*3+1)) Nl).setCell (Ad pb (j*3+2)) Nl) U->cA w (jy k j) [I 0] (.returned (.tuple #[.agg #[.slice aS nS cS,.slice aF nF cF,.slice aL nL cL,.slice (some (Ad pb 0)) nP cP,I hd],I 0])) U)):=fun V S mb hs hsame hV hbV=>by
    refine(Ch 269 [] 0 (.inr (.inr ⟨rfl,rfl⟩)) (aV k hs) S V j (fun _=>true) hV (hR.wT hsame) hj (fun V' e _=>VJ e V')).mono fun e w' ⟨e1,S',hk',hc'⟩=>?_
    rw[uP] at hk';have hjl:j<(aV (dD k j (fun _=>true)) hs).aj.length:=by
     show j<(dD k j (fun _=>true)).aj.length;rw[gL,fJ];exact hj
    obtain⟨pb,cP,A⟩:=hk'.toKr.sp (by omega);have hz:=hk'.zero hjl A.v;have hbl:Below WA.heap.size WA w':=aD.below hbV hc'.kp hbV.size (fun b hb=>(hV.yJ b hb).1);have hzk:bK WA.heap.size mb 158 (ij k) (((w'.setCell (Ad pb (j*3)) (.bool false)).setCell (Ad pb (j*3+1)) Nl).setCell (Ad pb (j*3+2)) Nl) _ (aV (jy k j) hs):=hz.1;have hbz:Below WA.heap.size WA (((w'.setCell (Ad pb (j*3)) (.bool false)).setCell (Ad pb (j*3+1)) Nl).setCell (Ad pb (j*3+2)) Nl):=aD.below hbl hz.2.kp hbl.size (fun b hb=>(hk'.yJ b hb).1);obtain⟨aS,nS,cS,eS⟩:∃b n d,S'.vS=.slice b n d:=by obtain⟨b,d,e,_⟩:=bj hk'.aM;exact⟨b,_,d,e⟩
    obtain⟨aF,nF,cF,eF⟩:∃b n d,S'.vF=.slice b n d:=by obtain⟨b,d,e,_⟩:=bj hk'.frames;exact⟨b,_,d,e⟩
    obtain⟨aL,nL,cL,eL⟩:∃b n d,S'.vL=.slice b n d:=by obtain⟨b,d,e,_⟩:=bj hk'.slots;exact⟨b,_,d,e⟩
    have c0:=hk'.c0;have c1:=hk'.c1;have c2:=hk'.c2;have c3:=hk'.c3;rw[eS] at c0;rw[eF] at c1;rw[eL] at c2;rw[A.v] at c3;have wY:Below w.heap.size w (((w'.setCell (Ad pb (j*3)) (.bool false)).setCell (Ad pb (j*3+1)) Nl).setCell (Ad pb (j*3+2)) Nl):=hb0.trans (hbz.mono hb0.size);refine⟨aS,nS,cS,aF,nF,cF,aL,nL,cL,pb,_,cP,_,_,_,_,e1,⟨c0,c1,c2,c3,hk'.c4⟩,by omega,fun e=>by have:=A.lab;rw[<- e,hk'.lH] at this;simp at this,⟨A.x0 j hjl,A.x1 j hjl,A.x2 j hjl⟩,⟨A.fz _,A.fz _,A.fz _⟩,RB.o _ hbz,fun U hU=>⟨_,hs,by rw[hsk];omega,by rw[eS,eF,eL,A.v];rfl,(hzk.toKr.kp hU (fun b hb e=>by have:=(hzk.yJ b hb).1;omega)).mono hb0.size,aD.below wY hU wY.size (fun b e=>by omega)⟩⟩
   obtain⟨P,hP⟩:=ex (cA w (jy k j) [I 0]);rw[<- hP] at HFG;show Calls _ _ _ _ (cA w (jy k j) [I 0]);rw[<- hP];unfold bg at xq se ⊢;clear hK hF hsp hA c hP lO hb0 kb rb Ax hR hj ui Jb hsm hsk;go_enter Tryz.func260,Tryz.ntmps260;go_upto_region 1 with fail;rw[<- se.o];go_upto_region 6 with(first
    | (go_at_call 76;refine xq.o.mono ?_;rintro e w1 ⟨mb,rfl,nJ,hm2,hb1⟩;have Sg:=ai nJ;have Jv:=ai hm2;have cN:=ai hb1;clear nJ hm2 hb1)
    | (go_at_call 267;refine(HOW.o _ _ cN.o Sg.o Jv.o).mono ?_;rintro e w2 ⟨rfl,S,hs,hs2,hk2,hb2⟩;have rX:=ai hs2;have pU:=ai hk2;have gQ:=ai hb2;clear hs2 hk2 hb2)
    | (go_at_call 268;refine(HFG.o _ _ _ _ rX.o pU.o gQ.o).mono ?_;rintro e w3 ⟨aS,nS,cS,aF,nF,cF,aL,nL,cL,pb,nP,cP,hd,va,vp,lv,rfl,⟨p0,p1,p2,p3,p4⟩,hjn,hne,⟨x0,x1,x2⟩,⟨f0,f1,f2⟩,hr3,hfin⟩;have R3:=ai hr3;have Ay:=ai hfin;clear hr3 hfin))
   go_upto_region 7 with fail;have o:∀i,(((w3.setCell (Ad pb (j*3)) (.bool false)).setCell (Ad pb (j*3+1)) Nl).setCell (Ad pb (j*3+2)) Nl).cell? (Ad mb i)=w3.cell? (Ad mb i):=fun i=>(cu _ _ _ _ _ _ hne).trans ((cu _ _ _ _ _ _ hne).trans (cu _ _ _ _ _ _ hne))
   have q0:=(o 0).trans p0;have q1:=(o 1).trans p1;have q2:=(o 2).trans p2;have q3:=(o 3).trans p3;have q4:=(o 4).trans p4;obtain⟨W3,hW3⟩:=ex ((((w3.setCell (Ad pb (j*3)) (.bool false)).setCell (Ad pb (j*3+1)) Nl).setCell (Ad pb (j*3+2)) Nl));rw[<- hW3] at q0 q1 q2 q3 q4 R3 Ay ⊢;clear hW3 o p0 p1 p2 p3 p4 x0 x1 x2 f0 f1 f2;obtain⟨y0,y1,y2,y3,y4⟩:=iH R3.o;have f0:=aR R3.o 0;have f1:=aR R3.o 1;have f2:=aR R3.o 2;have f3:=aR R3.o 3;have f4:=aR R3.o 4;have h5:=ai (fun V=>l6 R3.o (.slice aS nS cS) (.slice aF nF cF) (.slice aL nL cL) (.slice (some (Ad pb 0)) nP cP) (I hd) (V:=V));go_wp2;obtain⟨r1,r2⟩:=h5.out _ rfl;obtain⟨y0,y1,y2,y3,y4⟩:=iH r1;refine bO (v:=.tuple #[.agg #[.slice aS nS cS,.slice aF nF cF,.slice aL nL cL,.slice (some (Ad pb 0)) nP cP,I hd],I 0]) (by simp[results,Tryz.results260,go_sem,y0,y1,y2,y3,y4]) rfl ?_;exact Ay.o _ r2
 · have hA:yo k sp=(eG,fI k sp):=by grind [yo]
   rw[hA];have Rb:=ai (Bb Ax.o c);obtain⟨C,hC⟩:=ex (fI k sp);rw[<- hC] at Rb c ⊢;have cb:(C != 0)=true:=by grind
   have dz:Hid (∀V,Below w.heap.size w V->cA w eG [I C] (.returned (.tuple #[.agg #[Nl,Nl,Nl,Nl,I 0],I C])) V):=fun V hV=>qH _ hV
   obtain⟨P,hP⟩:=ex (cA w eG [I C]);rw[<- hP] at dz ⊢;unfold bg at Rb se ⊢;clear hK hF hsp hA hC c hP lO hb0 kb rb Ax;go_enter Tryz.func260,Tryz.ntmps260;go_upto_region 1 with fail;rw[<- se.o];go_upto_region 3 with(go_at_call 76;refine Rb.o.mono ?_;rintro e w1 ⟨rfl,hb1⟩;have gQ:=ai (gK.o.trans (hb1.mono gK.o.size));have R1:=ai (RB.o _ hb1);clear hb1)
   obtain⟨y0,y1,y2,y3,y4⟩:=iH R1.o;have f0:=aR R1.o 0;have f1:=aR R1.o 1;have f2:=aR R1.o 2;have f3:=aR R1.o 3;have f4:=aR R1.o 4;have h5:=ai (fun V=>l6 R1.o Nl Nl Nl Nl (I 0) (V:=V));go_wp2;obtain⟨r1,r2⟩:=h5.out _ rfl;obtain⟨y0,y1,y2,y3,y4⟩:=iH r1;refine bO (v:=.tuple #[.agg #[Nl,Nl,Nl,Nl,I 0],I C]) (by simp[results,Tryz.results260,go_sem,y0,y1,y2,y3,y4]) rfl ?_;exact dz.o _ (aD.below gQ.o r2 gQ.o.size (fun b e=>by omega))
open Go.RowKit
theorem YP (l:List aX) (ao:Option Addr) (n cap:Nat) (page aQ q:Int) (x y z:Nat) (w:World) (h:fZ w (.slice ao n cap) l) (hf:dO l) (hp:cO page) (hn:cO aQ) (hx:w.cell? (Ad x 0)=some (I page)) (hy:w.cell? (Ad y 0)=some (I aQ)) (hz:w.cell? (Ad z 0)=some (I q)) :
  Calls Tryz.prog 275 #[.slice ao n cap,.pointer (some (Ad x 0)),.pointer (some (Ad y 0)),.pointer (some (Ad z 0))] w fun e w'=>∃ar nr cr,e=.returned (.tuple #[.slice ar nr cr,I (dK l page aQ q).2])/\eu w.heap.size w' (.slice ar nr cr) (dK l page aQ q).1/\Below w.heap.size w w':=by
 have HM:Hid (Calls Tryz.prog 115 #[.slice ao n cap,I page,I aQ,I q] w fun e w'=>∃ar nr cr,e=.returned (.tuple #[.slice ar nr cr,I (dK l page aQ q).2])/\eu w.heap.size w' (.slice ar nr cr) (dK l page aQ q).1/\Below w.heap.size w w'):=(RV l (.slice ao n cap) page aQ q w h hf hp hn).mono fun e w' ⟨r,h1,h2,h3⟩=>by
  obtain⟨ar,cr,er,_⟩:=bj h2
  grind
 clear h hf hp hn;go_enter Tryz.func275,Tryz.ntmps275;go_wp2_with (go_at_call 115;refine HM.o.mono ?_;rintro e w1 ⟨ar,nr,cr,rfl,h2,h3⟩;have H2:=ai h2;have H3:=ai h3;clear h2 h3)
 refine bO (v:=.tuple #[.slice ar nr cr,I (dK l page aQ q).2]) (by simp[results]) rfl ?_
 grind [Hid.o]
theorem SI (l:List aX) (ao:Option Addr) (n cap:Nat) (page aQ:Int) (x y:Nat) (w:World) (h:fZ w (.slice ao n cap) l) (hf:dO l) (hp:cO page) (hn:cO aQ) (hx:w.cell? (Ad x 0)=some (I page)) (hy:w.cell? (Ad y 0)=some (I aQ)) :
  Calls Tryz.prog 279 #[.slice ao n cap,.pointer (some (Ad x 0)),.pointer (some (Ad y 0))] w fun e w'=>∃ar nr cr,e=.returned (.tuple #[.slice ar nr cr,I (cR l page aQ).2])/\eu w.heap.size w' (.slice ar nr cr) (cR l page aQ).1/\Below w.heap.size w w':=by
 have HM:Hid (Calls Tryz.prog 280 #[.slice ao n cap,I page,I aQ] w fun e w'=>∃ar nr cr,e=.returned (.tuple #[.slice ar nr cr,I (cR l page aQ).2])/\eu w.heap.size w' (.slice ar nr cr) (cR l page aQ).1/\Below w.heap.size w w'):=(XF l (.slice ao n cap) page aQ w h hf hp hn).mono fun e w' ⟨r,h1,h2,h3⟩=>by
  obtain⟨ar,cr,er,_⟩:=bj h2
  grind
 clear h hf hp hn;go_enter Tryz.func279,Tryz.ntmps279;go_wp2_with (go_at_call 280;refine HM.o.mono ?_;rintro e w1 ⟨ar,nr,cr,rfl,h2,h3⟩;have H2:=ai h2;have H3:=ai h3;clear h2 h3)
 refine bO (v:=.tuple #[.slice ar nr cr,I (cR l page aQ).2]) (by simp[results]) rfl ?_
 grind [Hid.o]
theorem Oq (l:List aX) (ao:Option Addr) (n cap:Nat) (page aQ q:Int) (x y z:Nat) (w:World) (h:fZ w (.slice ao n cap) l) (hf:dO l) (hp:cO page) (hn:cO aQ) (hx:w.cell? (Ad x 0)=some (I page)) (hy:w.cell? (Ad y 0)=some (I aQ)) (hz:w.cell? (Ad z 0)=some (I q)) :
  Calls Tryz.prog 276 #[.slice ao n cap,.pointer (some (Ad x 0)),.pointer (some (Ad y 0)),.pointer (some (Ad z 0))] w fun e w'=>∃ar nr cr,e=.returned (.tuple #[.slice ar nr cr,I (bV l page aQ q).2])/\eu w.heap.size w' (.slice ar nr cr) (bV l page aQ q).1/\Below w.heap.size w w':=by
 have HM:Hid (Calls Tryz.prog 277 #[.slice ao n cap,I page,I aQ,I q] w fun e w'=>∃ar nr cr,e=.returned (.tuple #[.slice ar nr cr,I (bV l page aQ q).2])/\eu w.heap.size w' (.slice ar nr cr) (bV l page aQ q).1/\Below w.heap.size w w'):=(RU l (.slice ao n cap) page aQ q w h hf hp hn).mono fun e w' ⟨r,h1,h2,h3⟩=>by
  obtain⟨ar,cr,er,_⟩:=bj h2
  grind
 clear h hf hp hn;go_enter Tryz.func276,Tryz.ntmps276;go_wp2_with (go_at_call 277;refine HM.o.mono ?_;rintro e w1 ⟨ar,nr,cr,rfl,h2,h3⟩;have H2:=ai h2;have H3:=ai h3;clear h2 h3)
 refine bO (v:=.tuple #[.slice ar nr cr,I (bV l page aQ q).2]) (by simp[results]) rfl ?_
 grind [Hid.o]
theorem SJ (l:List aX) (ao:Option Addr) (n cap:Nat) (e:bI) (x:Nat) (w:World) (hx:w.cell? (Ad x 0)=some (.slice ao n cap)) (h:fZ w (.slice ao n cap) l) (hf:dO l) :
  Calls Tryz.prog 285 #[.agg #[I e.page,I e.kind,I e.loc],.pointer (some (Ad x 0))] w fun r w'=>r=.returned (.bool (jm l e))/\Below w.heap.size w w':=by
 obtain⟨WA,lO⟩:=ex (w.alloc (.cells #[I e.page,I e.kind,I e.loc] 174));have hb:Below w.heap.size w WA:=by grind [Below.refl,Below.alloc]
 have hxl:x<w.heap.size:=oQ w _ hx;have xA:WA.cell? (Ad x 0)=some (.slice ao n cap):=(hb.cell (p:=(Ad x 0)) hxl).trans hx;have BN:WA.heap[w.heap.size]?=some (.cells #[I e.page,I e.kind,I e.loc] 174 (0,0)):=by grind [bE]
 have e0:WA.cell? (Ad w.heap.size 0)=some (I e.page):=au BN 0 rfl;have HF:=ai (yI l (.slice ao n cap) e.page WA (h.below hb) hf);have HB:=ai hb;have se:=ai lO;unfold jm;obtain⟨r,hr⟩:=ex (aY l e.page);rw[<- hr] at HF ⊢;obtain⟨⟨pg,ps,pr,zr⟩,ok⟩:=r;have LF:Hid (Calls Tryz.prog 77 #[.slice ao n cap,I e.page] WA fun e w'=>e=.returned (.tuple #[.agg #[I pg,I ps,I pr,.bool zr],.bool ok])/\Below WA.heap.size WA w'):=HF.o;clear lO hb BN hr hx h hf HF;go_enter Tryz.func285,Tryz.ntmps285;go_upto_region 1 with fail;rw[<- se.o];go_wp2_with (go_at_call 77;refine LF.o.mono ?_;rintro e w1 ⟨rfl,hb1⟩;have cN:=ai (HB.o.trans (hb1.mono HB.o.size));clear hb1)
 go_ret;exact⟨by simp,cN.o.alloc cN.o.size _⟩
open Go.RowKit
def iy (k:aT) (sp:Int) (r:List aX×Int):aT×Int:=if fI k sp≠0 then (eG,fI k sp) else if r.2≠0 then (eG,r.2) else if eB k.aj-bh (ak k.aj sp.toNat).aU+bh r.1>(k.slots.length:Int) then (eG,8) else (gF k sp.toNat r.1,0)
theorem Fu (E8:rG) (k:aT) (a:jc) (sp:Int) (w:World) (hK:jd w a k) (hF:nu k) (hsp:cO sp) (r:List aX×Int) (L1:dO r.1) (F:FuncId) (E:List Value) (x y z:Nat)
  (hFE:(F=275/\E=[.pointer (some (Ad x 0)),.pointer (some (Ad y 0)),.pointer (some (Ad z 0))])∨(F=279/\E=[.pointer (some (Ad x 0)),.pointer (some (Ad y 0))])∨(F=276/\E=[.pointer (some (Ad x 0)),.pointer (some (Ad y 0)),.pointer (some (Ad z 0))]))
  (hC:∀V ao cap,Below w.heap.size w V->fZ V (.slice ao (ak k.aj sp.toNat).aU.length cap) (ak k.aj sp.toNat).aU->dO (ak k.aj sp.toNat).aU->Calls Tryz.prog F (Value.slice ao (ak k.aj sp.toNat).aU.length cap::E).toArray V fun e w'=>∃ar nr cr,e=.returned (.tuple #[.slice ar nr cr,I r.2])/\eu V.heap.size w' (.slice ar nr cr) r.1/\Below V.heap.size V w') :
  Calls Tryz.prog 274 #[.agg (bg a k),I sp,.func (.func F) #[] E.toArray] w (cA w (iy k sp r).1 [I (iy k sp r).2]):=by
 obtain⟨WA,lO⟩:=ex ((w.alloc (.cells (bg a k) 30)).alloc (.cells #[Nl,Nl,Nl,Nl,I 0] 30));have hb0:Below w.heap.size w WA:=by simp_all [aK,pZ]
 have kb:WA.heap[w.heap.size]?=some (.cells (bg a k) 30 (0,0)):=by grind [br,bE]
 have rb:WA.heap[w.heap.size+1]?=some (.cells #[Nl,Nl,Nl,Nl,I 0] 30 (0,0)):=by
  grind [bE,World.size_alloc]
 have RB:Hid (∀V,Below WA.heap.size WA V->V.heap[w.heap.size+1]?=some (.cells #[Nl,Nl,Nl,Nl,I 0] 30 (0,0))):=fun V hb=>aO rb hb (aJ rb)
 have k0:WA.cell? (Ad w.heap.size 0)=some (.slice a.aS k.aM.length a.cS):=au kb 0 rfl;have k1:WA.cell? (Ad w.heap.size 1)=some (.slice a.aF k.frames.length a.cF):=au kb 1 rfl;have k2:WA.cell? (Ad w.heap.size 2)=some (.slice a.aL k.slots.length a.cL):=au kb 2 rfl;have k3:WA.cell? (Ad w.heap.size 3)=some (.slice a.aP k.aj.length a.cP):=au kb 3 rfl;have k4:WA.cell? (Ad w.heap.size 4)=some (I k.hand):=au kb 4 rfl;have se:=ai lO;have gK:=ai hb0;have hrl:=aJ rb;have Ax:=ai (yr k a sp WA (hK.below hb0) hF hsp);have Ef:Hid (∀(V:World) (C:Int),Below w.heap.size w V->cA w eG [I C] (.returned (.tuple #[.agg #[Nl,Nl,Nl,Nl,I 0],I C])) V):=fun V C hV=>qH _ hV
 by_cases c:fI k sp=0
 · obtain⟨hR,Jb,hj,ui⟩:=rQ c;obtain⟨j,hje⟩:∃j:Nat,sp=(j:Int):=⟨sp.toNat,by omega⟩;subst hje;rw[lM] at hj ui hC;have hsm:=sS hR hF;have xq:Hid (Calls Tryz.prog 76 #[.agg (bg a k),I (j:Int)] WA fun e w'=>∃mb,e=.returned (.tuple #[.pointer (some (Ad mb 0)),I 0])/\WA.heap.size<=mb/\w'.heap[mb]?=some (.cells (nk a k) 158 (0,0))/\Below WA.heap.size WA w'):=Ax.o.mono fun e w' ⟨h1,h2⟩=>by
    grind
   obtain⟨pb,po,hpo,hpl,T5⟩:=hK.aj (by omega);obtain⟨va,ap,cp,v0,v1,v2,hha,hhp,_⟩:=T5 j hj;have E4:=hha;obtain⟨aa,ca,Ja,_⟩:=hha;subst Ja;have hrm:=DU k.aj k.aj.length;have hcc:=hR.c;have hA0:iy k (j:Int) r=if r.2≠0 then (eG,r.2) else if eB k.aj-bh (ak k.aj j).aU+bh r.1>(k.slots.length:Int) then (eG,8) else (gF k j r.1,0):=by
    unfold iy
    grind
   rw[hA0];obtain⟨vC,aaT⟩:=ex ((ak k.aj j).aU);have hfit:=(hF.sp j hj).aU;have HV1:Hid (∀V,Below WA.heap.size WA V->V.cell? (Ad pb (po+j*3+1))=some (.slice aa vC.length ca)):=fun V hV=>by rw[aaT];exact((hb0.trans (hV.mono hb0.size)).cell (p:=(Ad pb (po+j*3+1))) hpl).trans v1
   have HM3:Hid (∀(V:World) mb,V.heap[mb]?=some (.cells (nk a k) 158 (0,0))->V.cell? (Ad mb 3)=some (.slice (some (Ad pb po)) k.aj.length a.cP)):=fun V mb h=>by
    have:=au (v:=.slice a.aP k.aj.length a.cP) h 3 rfl;rw[hpo] at this;omega
   have hji:(j:Int)<(k.aj.length:Int):=by omega
   have HMP:Hid (∀V,Below WA.heap.size WA V->Calls Tryz.prog F (Value.slice aa vC.length ca::E).toArray V fun e w'=>∃ar nr cr,e=.returned (.tuple #[.slice ar nr cr,I r.2])/\eu V.heap.size w' (.slice ar nr cr) r.1/\Below V.heap.size V w'):=fun V hV=>by
    have hb:=hb0.trans (hV.mono hb0.size);rw[aaT];exact hC V aa ca hb (E4.below hb) hfit
   by_cases cm:r.2=0
   · rw[aA (fun x=>x cm)];have NL:Hid (∀V mb,Below WA.heap.size WA V->V.heap[mb]?=some (.cells (nk a k) 158 (0,0))->Calls Tryz.prog 143 #[.pointer (some (Ad mb 0))] V fun e w'=>e=.returned (I (eB k.aj))/\Below V.heap.size V w'):=fun V mb hV hm=>DV k.aj a.aP a.cP mb V (hK.aj.below (hb0.trans (hV.mono hb0.size))) (fun i hi=>(hF.sp i hi).aU) (by omega) (au hm 3 rfl)
     have HT1:Hid (∀V,Below WA.heap.size WA V->Calls Tryz.prog 70 #[.slice aa vC.length ca] V fun e w'=>e=.returned (I (bh vC))/\Below V.heap.size V w'):=fun V hV=>by
      rw[aaT];exact wM _ _ V (E4.below (hb0.trans (hV.mono hb0.size))) hfit
     have HOW:Hid (∀V mb,Below WA.heap.size WA V->WA.heap.size<=mb->V.heap[mb]?=some (.cells (nk a k) 158 (0,0))->Calls Tryz.prog 267 #[.pointer (some (Ad mb 0))] V fun e w'=>e=.returned (.tuple #[])/\∃S hs,cC k.aM hs/\bK WA.heap.size mb 158 (ij k) w' S (aV k hs)/\(∀b,S.lab b≠.no->b=mb∨V.heap.size<=b)/\aD (fun b=>b=mb) V w'):=fun V mb hV nJ hm2=>DK E8 k a mb V (hK.below (hb0.trans (hV.mono hb0.size))) hsm hm2 WA.heap.size nJ
     have hsk:(gF k j r.1).aM=k.aM:=(qx k hj r.1).1;have HFG:Hid (∀U V S mb hs xb ar nr cr,cC k.aM hs->Below WA.heap.size WA U->U.heap[xb]?=some (.cells #[.slice ar nr cr] 22 (0,0))->eu WA.heap.size U (.slice ar nr cr) r.1->(∀b,bZ (.slice ar nr cr) b->b≠mb)->xb≠mb->WA.heap.size<=mb->(∀b,S.lab b≠.no->b=mb∨U.heap.size<=b)->bK WA.heap.size mb 158 (ij k) V S (aV k hs)->aD (fun b=>b=mb) U V->Calls Tryz.prog 268 #[.pointer (some (Ad mb 0)),I (j:Int),.func (.func 285) #[] #[.pointer (some (Ad xb 0))]] V fun e w'=>∃aS nS cS aF nF cF aL nL cL pb nP cP hd va,e=.returned (.tuple #[])/\w'.cell? (Ad mb 3)=some (.slice (some (Ad pb 0)) nP cP)/\w'.cell? (Ad xb 0)=some (.slice ar nr cr)/\(j:Int)<(nP:Int)/\w'.cell? (Ad pb (j*3+1))=some va/\w'.frozen? (Ad pb (j*3+1))=false/\((((w'.setCell (Ad pb (j*3+1)) (.slice ar nr cr))).drew).cell? (Ad mb 0)=some (.slice aS nS cS)/\(((w'.setCell (Ad pb (j*3+1)) (.slice ar nr cr))).drew).cell? (Ad mb 1)=some (.slice aF nF cF)/\(((w'.setCell (Ad pb (j*3+1)) (.slice ar nr cr))).drew).cell? (Ad mb 2)=some (.slice aL nL cL)/\(((w'.setCell (Ad pb (j*3+1)) (.slice ar nr cr))).drew).cell? (Ad mb 3)=some (.slice (some (Ad pb 0)) nP cP)/\(((w'.setCell (Ad pb (j*3+1)) (.slice ar nr cr))).drew).cell? (Ad mb 4)=some (I hd))/\(((w'.setCell (Ad pb (j*3+1)) (.slice ar nr cr))).drew).heap[w.heap.size+1]?=some (.cells #[Nl,Nl,Nl,Nl,I 0] 30 (0,0))/\(∀U,aD (fun b=>b=w.heap.size+1) (((w'.setCell (Ad pb (j*3+1)) (.slice ar nr cr))).drew) U->cA w (gF k j r.1) [I 0] (.returned (.tuple #[.agg #[.slice aS nS cS,.slice aF nF cF,.slice aL nL cL,.slice (some (Ad pb 0)) nP cP,I hd],I 0])) U)):=fun U V S mb hs xb ar nr cr hsame hU LZ hor hrm hxm hmb hno hV hkV=>by
      have hUz:=hU.size;have hxl:=aJ LZ;have TZ:∀b,bZ (.slice ar nr cr) b->S.lab b=.no:=fun b hb=>y7.1 fun g=>by
       rcases hno b g with e | e
       · exact hrm b hb e
       · have:=(hor.lt b hb).2;omega
      have hnx:S.lab xb=.no:=y7.1 fun g=>by
       rcases hno xb g with e | e
       · omega
       · omega
      have hxV:V.heap[xb]?=some (.cells #[.slice ar nr cr] 22 (0,0)):=hkV.keep LZ hxm;have aj7:eu WA.heap.size V (.slice ar nr cr) r.1:=hkV.row hor (fun b hb=>hrm b hb);have hbV:Below WA.heap.size WA V:=aD.below hU hkV hUz (fun b e=>by omega);refine(Ch 285 [.pointer (some (Ad xb 0))] xb (.inr (.inl ⟨rfl,rfl⟩)) (aV k hs) S V j (jm r.1) hV (hR.wT hsame) hj (fun V' e hV'=>?_)).mono fun e w' ⟨e1,S',hk',hc'⟩=>?_
      · have hx2:V'.heap[xb]?=some (.cells #[.slice ar nr cr] 22 (0,0)):=hV'.keep hxV (fun g=>g hnx);have Ff:eu WA.heap.size V' (.slice ar nr cr) r.1:=hV'.row aj7 (fun b hb g=>g (TZ b hb));exact SJ r.1 ar nr cr e xb V' (au hx2 0 rfl) Ff.has L1
      · rw[uP] at hk';have hjl:j<(aV (dD k j (jm r.1)) hs).aj.length:=by
         show j<(dD k j (jm r.1)).aj.length;rw[gL,fJ];exact hj
        obtain⟨pb,cP,A⟩:=hk'.toKr.sp (by omega);have hx':w'.heap[xb]?=some (.cells #[.slice ar nr cr] 22 (0,0)):=hc'.keep hxV hnx;have ho':eu WA.heap.size w' (.slice ar nr cr) r.1:=hc'.kp.row aj7 (fun b hb g=>g (TZ b hb));have hz:=hk'.apn hjl A.v ho' (fun b hb=>hc'.no b (aj7.lt b hb).2 (TZ b hb));have es:ak (aV (dD k j (jm r.1)) hs).aj j=ek (ak k.aj j) (eZ (ak k.aj j).bc (jm r.1)):=by
         show ak (dD k j (jm r.1)).aj j=_;rw[gL];exact eV _ _ _ _ hj
        rw[es] at hz;have hzk:bK WA.heap.size mb 158 (ij k) (w'.setCell (Ad pb (j*3+1)) (.slice ar nr cr)) _ (aV (gF k j r.1) hs):=hz.1;have hzd:=hzk.below (aK _ _).drew;have hbl:Below WA.heap.size WA w':=aD.below hbV hc'.kp hbV.size (fun b hb=>(hV.yJ b hb).1);have hbz:Below WA.heap.size WA (((w'.setCell (Ad pb (j*3+1)) (.slice ar nr cr))).drew):=(aD.below hbl hz.2 hbl.size (fun b hb=>(hk'.yJ b hb).1)).drew;obtain⟨aS,nS,cS,eS⟩:∃b n d,S'.vS=.slice b n d:=by obtain⟨b,d,e,_⟩:=bj hk'.aM;exact⟨b,_,d,e⟩
        obtain⟨aF,nF,cF,eF⟩:∃b n d,S'.vF=.slice b n d:=by obtain⟨b,d,e,_⟩:=bj hk'.frames;exact⟨b,_,d,e⟩
        obtain⟨aL,nL,cL,eL⟩:∃b n d,S'.vL=.slice b n d:=by obtain⟨b,d,e,_⟩:=bj hk'.slots;exact⟨b,_,d,e⟩
        have d0:=hzd.c0;have d1:=hzd.c1;have d2:=hzd.c2;have d3:=hzd.c3;have d4:=hzd.c4;have c3:=hk'.c3;rw[A.v] at c3;simp only at d0 d1 d2 d3;rw[eS] at d0;rw[eF] at d1;rw[eL] at d2;rw[A.v] at d3;have wY:Below w.heap.size w (((w'.setCell (Ad pb (j*3+1)) (.slice ar nr cr))).drew):=hb0.trans (hbz.mono hb0.size);refine⟨aS,nS,cS,aF,nF,cF,aL,nL,cL,pb,_,cP,_,_,e1,c3,au hx' 0 rfl,by omega,A.x1 j hjl,A.fz _,⟨d0,d1,d2,d3,d4⟩,RB.o _ hbz,fun U hU=>⟨_,hs,by rw[hsk];omega,by simp only;rw[eS,eF,eL,A.v];rfl,(hzd.toKr.kp hU (fun b hb e=>by have:=(hzd.yJ b hb).1;omega)).mono hb0.size,aD.below wY hU wY.size (fun b e=>by omega)⟩⟩
     have HT2:Hid (∀V ar nr cr,fZ V (.slice ar nr cr) r.1->Calls Tryz.prog 70 #[.slice ar nr cr] V fun e w'=>e=.returned (I (bh r.1))/\Below V.heap.size V w'):=fun V ar nr cr h=>wM _ _ V h L1
     have hd1:=sU vC;have hd2:=sU r.1;rw[<- aaT];have Jv:Hid (∀(V:World) mb,V.heap[mb]?=some (.cells (nk a k) 158 (0,0))->V.cell? (Ad mb 2)=some (.slice a.aL k.slots.length a.cL)):=fun V mb h=>au h 2 rfl
     obtain⟨RM,hRM⟩:=ex (eB k.aj);obtain⟨T1,hT1⟩:=ex (bh vC);obtain⟨T2,hT2⟩:=ex (bh r.1);have amc:0<=RM/\RM<=65025*4:=by
      rw[hRM];unfold eB;omega
     rw[<- hT1] at hd1 HT1 ⊢;rw[<- hT2] at hd2 HT2 ⊢;rw[<- hRM] at NL ⊢;rw[cm] at HMP;obtain⟨P,hP⟩:=ex (cA w (gF k j r.1) [I 0]);rw[<- hP] at HFG;have HR0:=ai (fun V (h:Below w.heap.size w V)=>Ef.o V 8 h);obtain⟨P2,Vf⟩:=ex (cA w eG [I 8]);rw[<- Vf] at HR0;unfold bg at xq se ⊢;by_cases cr:RM-T1+T2>(k.slots.length:Int)
     · rw[aC cr];show Calls _ _ _ _ (cA w eG [I 8]);rw[<- Vf];have c2:(k.slots.length:Int)<RM-T1+T2:=cr;clear hK hF hsp hA0 c hP Vf lO hb0 kb rb Ax hC hR ui Jb hj T5 v0 v1 v2 E4 hhp hfit aaT cm hpo hRM hT1 hT2 hcc hrm hsm hsk cr L1 HFG HOW Ef;rcases hFE with⟨rfl,rfl⟩ | ⟨rfl,rfl⟩ | ⟨rfl,rfl⟩
       all_goals
        go_enter Tryz.func274,Tryz.ntmps274;go_upto_region 1 with fail;rw[<- se.o];go_upto_region 8 with(first
         | (go_at_call 76;refine xq.o.mono ?_;rintro e w1 ⟨mb,rfl,nJ,hm2,hb1⟩;have Rj:=ai hm2;have cN:=ai hb1;have m3:=HM3.o _ _ hm2;have u1:=HV1.o _ hb1;clear nJ hm2 hb1)
         | (go_at_call 275;refine(HMP.o _ cN.o).mono ?_;rintro e w2 ⟨ar,nr,cr,rfl,Ff,hb2⟩;have Hx:=ai Ff;have Xc:=ai hb2;have gQ:=ai (cN.o.trans (hb2.mono cN.o.size));clear Ff hb2)
         | (go_at_call 279;refine(HMP.o _ cN.o).mono ?_;rintro e w2 ⟨ar,nr,cr,rfl,Ff,hb2⟩;have Hx:=ai Ff;have Xc:=ai hb2;have gQ:=ai (cN.o.trans (hb2.mono cN.o.size));clear Ff hb2)
         | (go_at_call 276;refine(HMP.o _ cN.o).mono ?_;rintro e w2 ⟨ar,nr,cr,rfl,Ff,hb2⟩;have Hx:=ai Ff;have Xc:=ai hb2;have gQ:=ai (cN.o.trans (hb2.mono cN.o.size));clear Ff hb2))
        have mO:=ai (gQ.o.alloc gQ.o.size (.cells #[.slice ar nr cr] 22));have B3:=ai (bE w2 #[.slice ar nr cr] 22);have O3:Hid (eu WA.heap.size (w2.alloc (.cells #[.slice ar nr cr] 22)) (.slice ar nr cr) _):=(aD.alloc (fun _=>False) _ _).row (Hx.o.mono cN.o.size) (fun _ _ g=>g);have M3:=ai (br (aO Rj.o Xc.o (aJ Rj.o)) (.cells #[.slice ar nr cr] 22));have HMX:Hid (w2.heap.size≠mb):=(show w2.heap.size≠mb from fun e=>by have:=aJ (aO Rj.o Xc.o (aJ Rj.o));omega);obtain⟨W3,hW3⟩:=ex (w2.alloc (.cells #[.slice ar nr cr] 22));obtain⟨xb,LZ⟩:=ex w2.heap.size;rw[<- hW3] at mO B3 O3 M3 ⊢;rw[<- LZ] at B3 HMX ⊢;clear hW3 LZ;have CL:=jq W3;have q1:∀x:dV W3.heap.size W3,x.world.cell? (Ad xb 0)=some (.slice ar nr cr):=fun x=>au (aO B3.o x.keeps (aJ B3.o)) 0 rfl
        have q2:∀x:dV W3.heap.size W3,x.world.cell? (Ad mb 2)=some (.slice a.aL k.slots.length a.cL):=fun x=>Jv.o _ _ (aO M3.o x.keeps (aJ M3.o))
        have ME:=ai (fun V (hV:Below W3.heap.size W3 V)=>NL.o V mb (mO.o.trans (hV.mono mO.o.size)) (aO M3.o hV (aJ M3.o)));have MC:=ai (fun V (hV:Below W3.heap.size W3 V)=>HT1.o V (mO.o.trans (hV.mono mO.o.size)));have aeo:=ai (fun V (hV:Below W3.heap.size W3 V)=>HT2.o V ar nr cr (eu.has ((aD.b9 (D:=fun _=>False) hV).row O3.o (fun _ _ g=>g))));clear m3 u1;refine dx (by kernel_rfl) (by kernel_rfl) ?_
        repeat (first | go_big_quiet_step ((first | (go_at_call 143;exact gj _ ME.o) | (go_at_call 70;with_reducible exact gj _ MC.o) | (go_at_call 70;with_reducible exact gj _ aeo.o))) | quiet_step ((first | (go_at_call 143;exact gj _ ME.o) | (go_at_call 70;with_reducible exact gj _ MC.o) | (go_at_call 70;with_reducible exact gj _ aeo.o))))
        refine jk ?_;rintro _ ⟨X,rfl⟩;have lh:=ai (mO.o.trans (X.keeps.mono mO.o.size));have R1:=ai (RB.o _ lh.o);have tC:=ai (gK.o.trans (lh.o.mono gK.o.size));obtain⟨y0,y1,y2,y3,y4⟩:=iH R1.o;have f0:=aR R1.o 0;have f1:=aR R1.o 1;have f2:=aR R1.o 2;have f3:=aR R1.o 3;have f4:=aR R1.o 4;have h5:=ai (fun V=>l6 R1.o Nl Nl Nl Nl (I 0) (V:=V));go_wp2;obtain⟨r1,r2⟩:=h5.out _ rfl;obtain⟨y0,y1,y2,y3,y4⟩:=iH r1;refine bO (v:=.tuple #[.agg #[Nl,Nl,Nl,Nl,I 0],I 8]) (by simp[results,Tryz.results274,go_sem,y0,y1,y2,y3,y4]) rfl ?_;exact HR0.o _ (aD.below tC.o r2 tC.o.size (fun b e=>by omega))
     · rw[aA cr];show Calls _ _ _ _ (cA w (gF k j r.1) [I 0]);rw[<- hP];have c2:¬(k.slots.length:Int)<RM-T1+T2:=cr;clear hK hF hsp hA0 c hP Vf lO hb0 kb rb Ax hC hR ui Jb hj T5 v0 v1 v2 E4 hhp hfit aaT cm hpo hRM hT1 hT2 hcc hrm hsm hsk cr L1 Ef HR0;rcases hFE with⟨rfl,rfl⟩ | ⟨rfl,rfl⟩ | ⟨rfl,rfl⟩
       all_goals
        go_enter Tryz.func274,Tryz.ntmps274;go_upto_region 1 with fail;rw[<- se.o];go_upto_region 8 with(first
         | (go_at_call 76;refine xq.o.mono ?_;rintro e w1 ⟨mb,rfl,nJ,hm2,hb1⟩;have Sg:=ai nJ;have Rj:=ai hm2;have cN:=ai hb1;have m3:=HM3.o _ _ hm2;have u1:=HV1.o _ hb1;clear nJ hm2 hb1)
         | (go_at_call 275;refine(HMP.o _ cN.o).mono ?_;rintro e w2 ⟨ar,nr,cr,rfl,Ff,hb2⟩;have Hx:=ai Ff;have Xc:=ai hb2;have gQ:=ai (cN.o.trans (hb2.mono cN.o.size));clear Ff hb2)
         | (go_at_call 279;refine(HMP.o _ cN.o).mono ?_;rintro e w2 ⟨ar,nr,cr,rfl,Ff,hb2⟩;have Hx:=ai Ff;have Xc:=ai hb2;have gQ:=ai (cN.o.trans (hb2.mono cN.o.size));clear Ff hb2)
         | (go_at_call 276;refine(HMP.o _ cN.o).mono ?_;rintro e w2 ⟨ar,nr,cr,rfl,Ff,hb2⟩;have Hx:=ai Ff;have Xc:=ai hb2;have gQ:=ai (cN.o.trans (hb2.mono cN.o.size));clear Ff hb2))
        have mO:=ai (gQ.o.alloc gQ.o.size (.cells #[.slice ar nr cr] 22));have B3:=ai (bE w2 #[.slice ar nr cr] 22);have O3:Hid (eu WA.heap.size (w2.alloc (.cells #[.slice ar nr cr] 22)) (.slice ar nr cr) _):=(aD.alloc (fun _=>False) _ _).row (Hx.o.mono cN.o.size) (fun _ _ g=>g);have M3:=ai (br (aO Rj.o Xc.o (aJ Rj.o)) (.cells #[.slice ar nr cr] 22));have HMX:Hid (w2.heap.size≠mb):=(show w2.heap.size≠mb from fun e=>by have:=aJ (aO Rj.o Xc.o (aJ Rj.o));omega);have HMR:Hid (∀b,bZ (.slice ar nr cr) b->b≠mb):=(show ∀b,bZ (.slice ar nr cr) b->b≠mb from fun b hb e=>by have:=(Hx.o.lt b hb).1;have:=aJ Rj.o;omega);obtain⟨W3,hW3⟩:=ex (w2.alloc (.cells #[.slice ar nr cr] 22));obtain⟨xb,LZ⟩:=ex w2.heap.size;rw[<- hW3] at mO B3 O3 M3 ⊢;rw[<- LZ] at B3 HMX ⊢;clear hW3 LZ;have CL:=jq W3;have q1:∀x:dV W3.heap.size W3,x.world.cell? (Ad xb 0)=some (.slice ar nr cr):=fun x=>au (aO B3.o x.keeps (aJ B3.o)) 0 rfl
        have q2:∀x:dV W3.heap.size W3,x.world.cell? (Ad mb 2)=some (.slice a.aL k.slots.length a.cL):=fun x=>Jv.o _ _ (aO M3.o x.keeps (aJ M3.o))
        have ME:=ai (fun V (hV:Below W3.heap.size W3 V)=>NL.o V mb (mO.o.trans (hV.mono mO.o.size)) (aO M3.o hV (aJ M3.o)));have MC:=ai (fun V (hV:Below W3.heap.size W3 V)=>HT1.o V (mO.o.trans (hV.mono mO.o.size)));have aeo:=ai (fun V (hV:Below W3.heap.size W3 V)=>HT2.o V ar nr cr (eu.has ((aD.b9 (D:=fun _=>False) hV).row O3.o (fun _ _ g=>g))));clear m3 u1;refine dx (by kernel_rfl) (by kernel_rfl) ?_
        repeat (first | go_big_quiet_step ((first | (go_at_call 143;exact gj _ ME.o) | (go_at_call 70;with_reducible exact gj _ MC.o) | (go_at_call 70;with_reducible exact gj _ aeo.o))) | quiet_step ((first | (go_at_call 143;exact gj _ ME.o) | (go_at_call 70;with_reducible exact gj _ MC.o) | (go_at_call 70;with_reducible exact gj _ aeo.o))))
        refine jk ?_;rintro _ ⟨X,rfl⟩;have lh:=ai (mO.o.trans (X.keeps.mono mO.o.size));have MX:=ai (aO M3.o X.keeps (aJ M3.o));have BX:=ai (aO B3.o X.keeps (aJ B3.o));have OX:=ai ((aD.b9 (D:=fun _=>False) X.keeps).row O3.o (fun _ _ g=>g));clear CL q2 q1 ME MC aeo NL HT1 HT2;obtain⟨WX,hWX⟩:=ex X.world;rw[<- hWX] at lh MX BX OX ⊢;clear hWX;go_upto_region 12 with(first
         | (go_at_call 267;refine(HOW.o _ _ lh.o Sg.o MX.o).mono ?_;rintro e w4 ⟨rfl,S,hs,hs2,hk2,Ma,afu⟩;have rX:=ai hs2;have pU:=ai hk2;have Tx:=ai Ma;have aio:=ai afu;clear hs2 hk2 Ma afu)
         | (go_at_call 268;refine(HFG.o _ _ _ _ _ _ _ _ _ rX.o lh.o BX.o OX.o HMR.o HMX.o Sg.o Tx.o pU.o aio.o).mono ?_;rintro e w5 ⟨aS,nS,cS,aF,nF,cF,aL,nL,cL,pb2,nP,cP,hd,va,rfl,g3,gx,hjn,gv,gf,hcells,hr3,hfin⟩;have R3:=ai hr3;have Ay:=ai hfin;have OH:=ai hcells;clear hr3 hfin hcells))
        go_region;go_upto_region 13 with fail;obtain⟨W3,hW3⟩:=ex ((w5.setCell (Ad pb2 (j*3+1)) (.slice ar nr cr)).drew);rw[<- hW3] at OH R3 Ay ⊢;clear hW3;obtain⟨q0,q1,q2,q3,q4⟩:=OH.o;obtain⟨y0,y1,y2,y3,y4⟩:=iH R3.o;have f0:=aR R3.o 0;have f1:=aR R3.o 1;have f2:=aR R3.o 2;have f3:=aR R3.o 3;have f4:=aR R3.o 4;have h5:=ai (fun V=>l6 R3.o (.slice aS nS cS) (.slice aF nF cF) (.slice aL nL cL) (.slice (some (Ad pb2 0)) nP cP) (I hd) (V:=V));go_wp2;obtain⟨r1,r2⟩:=h5.out _ rfl;obtain⟨y0,y1,y2,y3,y4⟩:=iH r1;refine bO (v:=.tuple #[.agg #[.slice aS nS cS,.slice aF nF cF,.slice aL nL cL,.slice (some (Ad pb2 0)) nP cP,I hd],I 0]) (by simp[results,Tryz.results274,go_sem,y0,y1,y2,y3,y4]) rfl ?_;exact Ay.o _ r2
   · rw[aC cm];obtain⟨C,hC2⟩:=ex r.2;rw[<- hC2] at HMP cm ⊢;have cb:(C != 0)=true:=by simpa using cm
     have dz:=ai (fun V (h:Below w.heap.size w V)=>Ef.o V C h);obtain⟨P,hP⟩:=ex (cA w eG [I C]);show Calls _ _ _ _ (cA w eG [I C]);rw[<- hP] at dz ⊢;unfold bg at xq se ⊢;clear hK hF hsp hA0 hC hC2 c hP lO hb0 kb rb Ax hR ui Jb hj T5 v0 v1 v2 E4 hhp hfit aaT cm hpo hcc hrm hsm L1 Ef;rcases hFE with⟨rfl,rfl⟩ | ⟨rfl,rfl⟩ | ⟨rfl,rfl⟩
     all_goals
      go_enter Tryz.func274,Tryz.ntmps274;go_upto_region 1 with fail;rw[<- se.o];go_upto_region 7 with(first
       | (go_at_call 76;refine xq.o.mono ?_;rintro e w1 ⟨mb,rfl,nJ,hm2,hb1⟩;have cN:=ai hb1;have m3:=HM3.o _ _ hm2;have u1:=HV1.o _ hb1;clear nJ hm2 hb1)
       | (go_at_call 275;refine(HMP.o _ cN.o).mono ?_;rintro e w2 ⟨ar,nr,cr,rfl,Ff,hb2⟩;have gQ:=ai (cN.o.trans (hb2.mono cN.o.size));clear Ff hb2)
       | (go_at_call 279;refine(HMP.o _ cN.o).mono ?_;rintro e w2 ⟨ar,nr,cr,rfl,Ff,hb2⟩;have gQ:=ai (cN.o.trans (hb2.mono cN.o.size));clear Ff hb2)
       | (go_at_call 276;refine(HMP.o _ cN.o).mono ?_;rintro e w2 ⟨ar,nr,cr,rfl,Ff,hb2⟩;have gQ:=ai (cN.o.trans (hb2.mono cN.o.size));clear Ff hb2))
      have mO:=ai (gQ.o.alloc gQ.o.size (.cells #[.slice ar nr cr] 22));obtain⟨W3,hW3⟩:=ex (w2.alloc (.cells #[.slice ar nr cr] 22));rw[<- hW3] at mO ⊢;have R1:=ai (RB.o _ mO.o);have tC:=ai (gK.o.trans (mO.o.mono gK.o.size));clear hW3;obtain⟨y0,y1,y2,y3,y4⟩:=iH R1.o;have f0:=aR R1.o 0;have f1:=aR R1.o 1;have f2:=aR R1.o 2;have f3:=aR R1.o 3;have f4:=aR R1.o 4;have h5:=ai (fun V=>l6 R1.o Nl Nl Nl Nl (I 0) (V:=V));go_wp2;obtain⟨r1,r2⟩:=h5.out _ rfl;obtain⟨y0,y1,y2,y3,y4⟩:=iH r1;refine bO (v:=.tuple #[.agg #[Nl,Nl,Nl,Nl,I 0],I C]) (by simp[results,Tryz.results274,go_sem,y0,y1,y2,y3,y4]) rfl ?_;exact dz.o _ (aD.below tC.o r2 tC.o.size (fun b e=>by omega))
 · have hA:iy k sp r=(eG,fI k sp):=by grind [iy]
   rw[hA];have Rb:=ai (Bb Ax.o c);obtain⟨C,hC2⟩:=ex (fI k sp);rw[<- hC2] at Rb c ⊢;have cb:(C != 0)=true:=by grind
   have dz:=ai (fun V (h:Below w.heap.size w V)=>Ef.o V C h);obtain⟨P,hP⟩:=ex (cA w eG [I C]);rw[<- hP] at dz ⊢;unfold bg at Rb se ⊢;clear hK hF hsp hA hC hC2 c hP lO hb0 kb rb Ax L1 hFE Ef;go_enter Tryz.func274,Tryz.ntmps274;go_upto_region 1 with fail;rw[<- se.o];go_upto_region 3 with(go_at_call 76;refine Rb.o.mono ?_;rintro e w1 ⟨rfl,hb1⟩;have tC:=ai (gK.o.trans (hb1.mono gK.o.size));have R1:=ai (RB.o _ hb1);clear hb1)
   obtain⟨y0,y1,y2,y3,y4⟩:=iH R1.o;have f0:=aR R1.o 0;have f1:=aR R1.o 1;have f2:=aR R1.o 2;have f3:=aR R1.o 3;have f4:=aR R1.o 4;have h5:=ai (fun V=>l6 R1.o Nl Nl Nl Nl (I 0) (V:=V));go_wp2;obtain⟨r1,r2⟩:=h5.out _ rfl;obtain⟨y0,y1,y2,y3,y4⟩:=iH r1;refine bO (v:=.tuple #[.agg #[Nl,Nl,Nl,Nl,I 0],I C]) (by simp[results,Tryz.results274,go_sem,y0,y1,y2,y3,y4]) rfl ?_;exact dz.o _ (aD.below tC.o r2 tC.o.size (fun b e=>by omega))
open Go.RowKit
theorem Ii {l:List aX} {hs:List bJ} {en:Int} (h:lu l hs en=0):bk l=0/\gX hs=true/\(hs.length:Int)=bh l:=by
 rw[Ih] at h;unfold Hg at h;by_cases c:bk l=0
 · rw[aC c] at h;by_cases d:(decide ((hs.length:Int)=kT l l.length)&&(gX hs&&(zi l hs hs.length&&A7 l en)))=true
   · simp only[eQ,kX] at d;refine⟨c,d.2.1,?_⟩;unfold bh;rw[aC c];exact d.1
   · rw[aA d] at h;cases h
 · rw[aA c] at h;exact absurd h c
def ni (l:List aX) (hs:List bJ) (nf ns:Int):aT:=⟨hs,List.replicate nf.toNat gM,List.replicate ns.toNat nK,[⟨true,l,[]⟩],0⟩
def sD (l:List aX) (hs:List bJ) (en nf ns:Int):aT×Int:=if lu l hs en≠0 then (eG,lu l hs en) else if nf<3 then (eG,9) else if nf>64∨ns<0∨ns>512 then (eG,3) else if bh l>ns then (eG,8) else (ni l hs nf ns,0)
def sB (n:Nat):Array Value:=madeCells #[.string ⟨#[]⟩,I 0,.bool false,.bool false] (n*4)
def sA (n:Nat):Array Value:=madeCells #[.string ⟨#[]⟩,I 0] (n*2)
theorem afY:(Tryz.prog.info? 169).map (fun i=>(i.zero,i.size,i.bytes))=some (some (.agg #[.string ⟨#[]⟩,I 0,.bool false,.bool false]),4,32):=by kernel_rfl
theorem afX:(Tryz.prog.info? 171).map (fun i=>(i.zero,i.size,i.bytes))=some (some (.agg #[.string ⟨#[]⟩,I 0]),2,24):=by kernel_rfl
theorem akM (V:World) (n:Int) (h0:0<=n) (hn:n<=1000):(Instr.makeSlice 26 (I n) (I n)).run Tryz.prog V=.ok (.slice (some (Ad V.heap.size 0)) n.toNat n.toNat) (V.alloc (.cells (sB n.toNat) 169)):=by
 obtain⟨i0,hi,hz0,hz1,hz2⟩:=ju afY;have h:=run_make (P:=Tryz.prog) V 26 169 i0 _ Tryz.underlying26 hi hz0 .i64 .i64 n n h0 (AB _) (by rw[hz2];omega) (by omega);rw[hz1] at h;exact h
theorem akL (V:World) (n:Int) (h0:0<=n) (hn:n<=1000):(Instr.makeSlice 27 (I n) (I n)).run Tryz.prog V=.ok (.slice (some (Ad V.heap.size 0)) n.toNat n.toNat) (V.alloc (.cells (sA n.toNat) 171)):=by
 obtain⟨i0,hi,hz0,hz1,hz2⟩:=ju afX;have h:=run_make (P:=Tryz.prog) V 27 171 i0 _ Tryz.underlying27 hi hz0 .i64 .i64 n n h0 (AB _) (by rw[hz2];omega) (by omega);rw[hz1] at h;exact h
theorem Ub {α:Type} (x d:α) (n i:Nat) (hi:i<n):(List.replicate n x).getD i d=x:=by
 rw[fG,List.getElem?_replicate,aC hi];rfl
theorem QB (c:Array Value) (n i j m:Nat) (hc:c.size=m) (hi:i<n) (hj:j<m):(madeCells c (n*m))[i*m+j]?=c[j]?:=by
 have h1:i*m+j<n*m:=by
  have:(i+1)*m<=n*m:=Nat.mul_le_mul_right m hi;rw[Nat.add_mul,Nat.one_mul] at this;omega
 have h2:(i*m+j)%m=j:=by rw[Nat.mul_comm,Nat.mul_add_mod,Nat.mod_eq_of_lt hj]
 have h3:j<c.size:=by omega
 unfold madeCells;simp[h1,hc,h2];rw[getElem!_pos c j h3,acP h3]
theorem aby {W:World} {l:List aX} {hs:List bJ} {nf ns:Nat} {va:Value} {ao:Option Addr} {cap fb sb pb:Nat} (ha:fZ W va l) (hh:iT W ao hs) (hf:W.heap[fb]?=some (.cells (sB nf) 169 (0,0))) (hl:W.heap[sb]?=some (.cells (sA ns) 171 (0,0))) (hp:W.heap[pb]?=some (.cells #[.bool true,va,Nl] 99 (0,0))) :
  jd W ⟨ao,cap,some (Ad fb 0),nf,some (Ad sb 0),ns,some (Ad pb 0),1⟩ ⟨hs,List.replicate nf gM,List.replicate ns nK,[⟨true,l,[]⟩],0⟩:=by
 refine⟨hh,fun _=>⟨fb,0,rfl,aJ hf,fun i hi j hj=>?_⟩,fun _=>⟨sb,0,rfl,aJ hl,fun i hi j hj=>?_⟩,fun _=>⟨pb,0,rfl,aJ hp,fun i hi=>?_⟩⟩
 · rw[uK] at hi;rw[Ub _ _ _ _ hi];have e:=QB #[.string ⟨#[]⟩,I 0,.bool false,.bool false] nf i j 4 rfl hi hj;rw[lU]
   match j,hj with
   | 0,_=>exact au hf _ e
   | 1,_=>exact au hf _ e
   | 2,_=>exact au hf _ e
   | 3,_=>exact au hf _ e
   | j+4,h=>exact absurd h (by omega)
 · rw[uK] at hi;rw[Ub _ _ _ _ hi];have e:=QB #[.string ⟨#[]⟩,I 0] ns i j 2 rfl hi hj;rw[lU]
   match j,hj with
   | 0,_=>exact au hl _ e
   | 1,_=>exact au hl _ e
   | j+2,h=>exact absurd h (by omega)
 · obtain rfl:i=0:=by
    have:i<1:=hi;omega
   exact⟨va,none,0,au hp 0 rfl,au hp 1 rfl,au hp 2 rfl,ha,fun h=>absurd h (ky _),aI _⟩
theorem VH {l:List aX} {hs:List bJ} {en:Int} (h:lu l hs en=0) (nf ns:Nat) (hf:nf<=1000) (hn:ns<=1000):Fx ⟨hs,List.replicate nf gM,List.replicate ns nK,[⟨true,l,[]⟩],0⟩:=by
 obtain⟨h1,h2,h3⟩:=Ii h;have h4:=sU l;have h5:=oq _ h1;refine⟨by show hs.length<=_;omega,fun i hi=>?_,by show(List.replicate nf gM).length<=_;rw[uK];omega,by show(List.replicate ns nK).length<=_;rw[uK];omega,by show 1<=1000000;omega,fun i hi=>?_,fun i hi=>?_⟩
 · have:=Ij h2 i hi;show(bl hs i).dZ.length<=_;omega
 · obtain rfl:i=0:=by
    have:i<1:=hi;omega
   show l.length<=_;omega
 · obtain rfl:i=0:=by
    have:i<1:=hi;omega
   exact uH _
end Go.Proofs.YtlgoihmkgaaemaaGreat
