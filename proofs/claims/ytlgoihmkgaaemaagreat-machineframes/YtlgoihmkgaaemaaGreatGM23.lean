import Derived.Test.YtlgoihmkgaaemaaGreatGM21
set_option maxHeartbeats 20000000
set_option linter.unusedVariables false
set_option maxRecDepth 100000
set_option linter.unusedSimpArgs false
namespace Go.Proofs.YtlgoihmkgaaemaaGreat
open Go.RowKit
def xV (k:aR) (sp:Int):aR×Int:=if fB k sp≠0 then (ed,fB k sp) else (js k sp.toNat,0)
theorem lV {W:World} {rb:Nat} (hr:W.heap[rb]?=some (.cells #[Nl,Nl,Nl,Nl,I 0] 30 (0,0))) (s f l p h:Value) {V:World} (hV:V=((((W.setCell (Ad rb 0) s).setCell (Ad rb 1) f).setCell (Ad rb 2) l).setCell (Ad rb 3) p).setCell (Ad rb 4) h) :
  V.heap[rb]?=some (.cells #[s,f,l,p,h] 30 (0,0))/\aC (fun b=>b=rb) W V:=by
 subst hV;refine⟨fF (fF (fF (fF (fF hr 0 s) 1 f) 2 l) 3 p) 4 h,?_⟩;have k:∀(A:World) (j:Nat) (v:Value),aC (fun b=>b=rb) A (A.setCell (Ad rb j) v):=fun A j v=>aC.set _ A (Ad rb j) v rfl
 exact((((k _ _ _).trans (k _ _ _) (fun _ _ g=>g)).trans (k _ _ _) (fun _ _ g=>g)).trans (k _ _ _) (fun _ _ g=>g)).trans (k _ _ _) (fun _ _ g=>g)
theorem Vo (e:bC) (w:World):Calls Tryz.prog 269 #[.agg #[I e.page,I e.kind,I e.loc]] w fun r w'=>r=.returned (.bool true)/\Below w.heap.size w w':=by
 go_enter Tryz.func269,Tryz.ntmps269;go_wp2;go_ret;simp[aJ,pR]
theorem Yr (GV:ra) (k:aR) (a:ja) (sp:Int) (w:World) (hK:jo w a k) (hF:o7 k) (hsp:cK sp) :
  Calls Tryz.prog 260 #[.agg (bc a k),I sp] w (b9 w (xV k sp).1 [I (xV k sp).2]):=by
 obtain⟨WA,mj⟩:=ex ((w.alloc (.cells (bc a k) 30)).alloc (.cells #[Nl,Nl,Nl,Nl,I 0] 30));have hb0:Below w.heap.size w WA:=by simp_all [aJ,pR]
 have kb:WA.heap[w.heap.size]?=some (.cells (bc a k) 30 (0,0)):=by grind [bl,bD]
 have rb:WA.heap[w.heap.size+1]?=some (.cells #[Nl,Nl,Nl,Nl,I 0] 30 (0,0)):=by
  grind [bD,World.size_alloc]
 have RB:Hid (∀V,Below WA.heap.size WA V->V.heap[w.heap.size+1]?=some (.cells #[Nl,Nl,Nl,Nl,I 0] 30 (0,0))):=fun V hb=>aN rb hb (aI rb)
 have k0:WA.cell? (Ad w.heap.size 0)=some (.slice a.aS k.aM.length a.cS):=aq kb 0 rfl;have k1:WA.cell? (Ad w.heap.size 1)=some (.slice a.aF k.frames.length a.cF):=aq kb 1 rfl;have k2:WA.cell? (Ad w.heap.size 2)=some (.slice a.aL k.slots.length a.cL):=aq kb 2 rfl;have k3:WA.cell? (Ad w.heap.size 3)=some (.slice a.aP k.aj.length a.cP):=aq kb 3 rfl;have k4:WA.cell? (Ad w.heap.size 4)=some (I k.hand):=aq kb 4 rfl;have se:=ai mj;have gG:=ai hb0;have hrl:=aI rb;have Ah:=ai (xX k a sp WA (hK.below hb0) hF hsp);by_cases c:fB k sp=0
 · obtain⟨hR,IQ,hj,tX⟩:=rC c;obtain⟨j,hje⟩:∃j:Nat,sp=(j:Int):=⟨sp.toNat,by omega⟩;subst hje;rw[lD] at hj tX;have hA:xV k (j:Int)=(js k j,0):=by
    grind [xV]
   rw[hA];have hsm:=sG hR hF;have HOW:Hid (∀V mb,Below WA.heap.size WA V->WA.heap.size<=mb->V.heap[mb]?=some (.cells (m9 a k) 158 (0,0))->Calls Tryz.prog 267 #[.pointer (some (Ad mb 0))] V fun e w'=>e=.returned (.tuple #[])/\∃S hs,cE k.aM hs/\bH WA.heap.size mb 158 (ie k) w' S (aU k hs)/\Below WA.heap.size WA w'):=fun V mb hV nC hm2=>(Dy GV k a mb V (hK.below (hb0.trans (hV.mono hb0.size))) hsm hm2 WA.heap.size nC).mono fun e w' ⟨h1,S,hs,h2,h3,h4,h5⟩=>⟨h1,S,hs,h2,h3,aC.below hV h5 hV.size (fun b e=>by omega)⟩
   have wX:Hid (Calls Tryz.prog 76 #[.agg (bc a k),I (j:Int)] WA fun e w'=>∃mb,e=.returned (.tuple #[.pointer (some (Ad mb 0)),I 0])/\WA.heap.size<=mb/\w'.heap[mb]?=some (.cells (m9 a k) 158 (0,0))/\Below WA.heap.size WA w'):=Ah.o.mono fun e w' ⟨h1,h2⟩=>by
    grind
   have hsk:(js k j).aM=k.aM:=(mU k j (fun _=>true)).1;have HFG:Hid (∀V S mb hs,cE k.aM hs->bH WA.heap.size mb 158 (ie k) V S (aU k hs)->Below WA.heap.size WA V->Calls Tryz.prog 268 #[.pointer (some (Ad mb 0)),I (j:Int),.func (.func 269) #[] #[]] V fun e w'=>∃aS nS cS aF nF cF aL nL cL pb nP cP hd va vp lv,e=.returned (.tuple #[])/\(w'.cell? (Ad mb 0)=some (.slice aS nS cS)/\w'.cell? (Ad mb 1)=some (.slice aF nF cF)/\w'.cell? (Ad mb 2)=some (.slice aL nL cL)/\w'.cell? (Ad mb 3)=some (.slice (some (Ad pb 0)) nP cP)/\w'.cell? (Ad mb 4)=some (I hd))/\(j:Int)<(nP:Int)/\¬mb=pb/\(w'.cell? (Ad pb (j*3))=some lv/\w'.cell? (Ad pb (j*3+1))=some va/\w'.cell? (Ad pb (j*3+2))=some vp)/\(w'.frozen? (Ad pb (j*3))=false/\w'.frozen? (Ad pb (j*3+1))=false/\w'.frozen? (Ad pb (j*3+2))=false)/\((((w'.setCell (Ad pb (j*3)) (.bool false)).setCell (Ad pb (j*3+1)) Nl).setCell (Ad pb (j*3+2)) Nl).heap[w.heap.size+1]?=some (.cells #[Nl,Nl,Nl,Nl,I 0] 30 (0,0)))/\(∀U,aC (fun b=>b=w.heap.size+1) (((w'.setCell (Ad pb (j*3)) (.bool false)).setCell (Ad pb (j*3+1)) Nl).setCell (Ad pb (j*3+2)) Nl) U->b9 w (js k j) [I 0] (.returned (.tuple #[.agg #[.slice aS nS cS,.slice aF nF cF,.slice aL nL cL,.slice (some (Ad pb 0)) nP cP,I hd],I 0])) U)):=fun V S mb hs hsame hV hbV=>by
    refine(BC 269 [] 0 (.inr (.inr ⟨rfl,rfl⟩)) (aU k hs) S V j (fun _=>true) hV (hR.xR hsame) hj (fun V' e _=>Vo e V')).mono fun e w' ⟨e1,S',hk',hc'⟩=>?_
    rw[uF] at hk';have hjl:j<(aU (dz k j (fun _=>true)) hs).aj.length:=by
     show j<(dz k j (fun _=>true)).aj.length;rw[gF,fC];exact hj
    obtain⟨pb,cP,A⟩:=hk'.toKr.sp (by omega);have hz:=hk'.zero hjl A.v;have hbl:Below WA.heap.size WA w':=aC.below hbV hc'.kp hbV.size (fun b hb=>(hV.yq b hb).1);have hzk:bH WA.heap.size mb 158 (ie k) (((w'.setCell (Ad pb (j*3)) (.bool false)).setCell (Ad pb (j*3+1)) Nl).setCell (Ad pb (j*3+2)) Nl) _ (aU (js k j) hs):=hz.1;have hbz:Below WA.heap.size WA (((w'.setCell (Ad pb (j*3)) (.bool false)).setCell (Ad pb (j*3+1)) Nl).setCell (Ad pb (j*3+2)) Nl):=aC.below hbl hz.2.kp hbl.size (fun b hb=>(hk'.yq b hb).1);obtain⟨aS,nS,cS,eS⟩:∃b n d,S'.vS=.slice b n d:=by obtain⟨b,d,e,_⟩:=bh hk'.aM;exact⟨b,_,d,e⟩
    obtain⟨aF,nF,cF,eF⟩:∃b n d,S'.vF=.slice b n d:=by obtain⟨b,d,e,_⟩:=bh hk'.frames;exact⟨b,_,d,e⟩
    obtain⟨aL,nL,cL,eL⟩:∃b n d,S'.vL=.slice b n d:=by obtain⟨b,d,e,_⟩:=bh hk'.slots;exact⟨b,_,d,e⟩
    have c0:=hk'.c0;have c1:=hk'.c1;have c2:=hk'.c2;have c3:=hk'.c3;rw[eS] at c0;rw[eF] at c1;rw[eL] at c2;rw[A.v] at c3;have wM:Below w.heap.size w (((w'.setCell (Ad pb (j*3)) (.bool false)).setCell (Ad pb (j*3+1)) Nl).setCell (Ad pb (j*3+2)) Nl):=hb0.trans (hbz.mono hb0.size);refine⟨aS,nS,cS,aF,nF,cF,aL,nL,cL,pb,_,cP,_,_,_,_,e1,⟨c0,c1,c2,c3,hk'.c4⟩,by omega,fun e=>by have:=A.lab;rw[<- e,hk'.lH] at this;simp at this,⟨A.x0 j hjl,A.x1 j hjl,A.x2 j hjl⟩,⟨A.fz _,A.fz _,A.fz _⟩,RB.o _ hbz,fun U hU=>⟨_,hs,by rw[hsk];omega,by rw[eS,eF,eL,A.v];rfl,(hzk.toKr.kp hU (fun b hb e=>by have:=(hzk.yq b hb).1;omega)).mono hb0.size,aC.below wM hU wM.size (fun b e=>by omega)⟩⟩
   obtain⟨P,hP⟩:=ex (b9 w (js k j) [I 0]);rw[<- hP] at HFG;show Calls _ _ _ _ (b9 w (js k j) [I 0]);rw[<- hP];unfold bc at wX se ⊢;clear hK hF hsp hA c hP mj hb0 kb rb Ah hR hj tX IQ hsm hsk;go_enter Tryz.func260,Tryz.ntmps260;go_upto_region 1 with fail;rw[<- se.o];go_upto_region 6 with(first
    | (go_at_call 76;refine wX.o.mono ?_;rintro e w1 ⟨mb,rfl,nC,hm2,hb1⟩;have RO:=ai nC;have Jk:=ai hm2;have cM:=ai hb1;clear nC hm2 hb1)
    | (go_at_call 267;refine(HOW.o _ _ cM.o RO.o Jk.o).mono ?_;rintro e w2 ⟨rfl,S,hs,hs2,hk2,hb2⟩;have rJ:=ai hs2;have pM:=ai hk2;have gP:=ai hb2;clear hs2 hk2 hb2)
    | (go_at_call 268;refine(HFG.o _ _ _ _ rJ.o pM.o gP.o).mono ?_;rintro e w3 ⟨aS,nS,cS,aF,nF,cF,aL,nL,cL,pb,nP,cP,hd,va,vp,lv,rfl,⟨p0,p1,p2,p3,p4⟩,hjn,hne,⟨x0,x1,x2⟩,⟨f0,f1,f2⟩,hr3,hfin⟩;have R3:=ai hr3;have Ai:=ai hfin;clear hr3 hfin))
   go_upto_region 7 with fail;have o:∀i,(((w3.setCell (Ad pb (j*3)) (.bool false)).setCell (Ad pb (j*3+1)) Nl).setCell (Ad pb (j*3+2)) Nl).cell? (Ad mb i)=w3.cell? (Ad mb i):=fun i=>(b7 _ _ _ _ _ _ hne).trans ((b7 _ _ _ _ _ _ hne).trans (b7 _ _ _ _ _ _ hne))
   have q0:=(o 0).trans p0;have q1:=(o 1).trans p1;have q2:=(o 2).trans p2;have q3:=(o 3).trans p3;have q4:=(o 4).trans p4;obtain⟨W3,hW3⟩:=ex ((((w3.setCell (Ad pb (j*3)) (.bool false)).setCell (Ad pb (j*3+1)) Nl).setCell (Ad pb (j*3+2)) Nl));rw[<- hW3] at q0 q1 q2 q3 q4 R3 Ai ⊢;clear hW3 o p0 p1 p2 p3 p4 x0 x1 x2 f0 f1 f2;obtain⟨y0,y1,y2,y3,y4⟩:=iI R3.o;have f0:=aQ R3.o 0;have f1:=aQ R3.o 1;have f2:=aQ R3.o 2;have f3:=aQ R3.o 3;have f4:=aQ R3.o 4;have h5:=ai (fun V=>lV R3.o (.slice aS nS cS) (.slice aF nF cF) (.slice aL nL cL) (.slice (some (Ad pb 0)) nP cP) (I hd) (V:=V));go_wp2;obtain⟨r1,r2⟩:=h5.out _ rfl;obtain⟨y0,y1,y2,y3,y4⟩:=iI r1;refine bK (v:=.tuple #[.agg #[.slice aS nS cS,.slice aF nF cF,.slice aL nL cL,.slice (some (Ad pb 0)) nP cP,I hd],I 0]) (by simp[results,Tryz.results260,go_sem,y0,y1,y2,y3,y4]) rfl ?_;exact Ai.o _ r2
 · have hA:xV k sp=(ed,fB k sp):=by grind [xV]
   rw[hA];have QU:=ai (AQ Ah.o c);obtain⟨C,hC⟩:=ex (fB k sp);rw[<- hC] at QU c ⊢;have cb:(C != 0)=true:=by grind
   have dm:Hid (∀V,Below w.heap.size w V->b9 w ed [I C] (.returned (.tuple #[.agg #[Nl,Nl,Nl,Nl,I 0],I C])) V):=fun V hV=>qw _ hV
   obtain⟨P,hP⟩:=ex (b9 w ed [I C]);rw[<- hP] at dm ⊢;unfold bc at QU se ⊢;clear hK hF hsp hA hC c hP mj hb0 kb rb Ah;go_enter Tryz.func260,Tryz.ntmps260;go_upto_region 1 with fail;rw[<- se.o];go_upto_region 3 with(go_at_call 76;refine QU.o.mono ?_;rintro e w1 ⟨rfl,hb1⟩;have gP:=ai (gG.o.trans (hb1.mono gG.o.size));have R1:=ai (RB.o _ hb1);clear hb1)
   obtain⟨y0,y1,y2,y3,y4⟩:=iI R1.o;have f0:=aQ R1.o 0;have f1:=aQ R1.o 1;have f2:=aQ R1.o 2;have f3:=aQ R1.o 3;have f4:=aQ R1.o 4;have h5:=ai (fun V=>lV R1.o Nl Nl Nl Nl (I 0) (V:=V));go_wp2;obtain⟨r1,r2⟩:=h5.out _ rfl;obtain⟨y0,y1,y2,y3,y4⟩:=iI r1;refine bK (v:=.tuple #[.agg #[Nl,Nl,Nl,Nl,I 0],I C]) (by simp[results,Tryz.results260,go_sem,y0,y1,y2,y3,y4]) rfl ?_;exact dm.o _ (aC.below gP.o r2 gP.o.size (fun b e=>by omega))
open Go.RowKit
theorem Yo (l:List aX) (ao:Option Addr) (n cap:Nat) (page aO q:Int) (x y z:Nat) (w:World) (h:gu w (.slice ao n cap) l) (hf:dH l) (hp:cK page) (hn:cK aO) (hx:w.cell? (Ad x 0)=some (I page)) (hy:w.cell? (Ad y 0)=some (I aO)) (hz:w.cell? (Ad z 0)=some (I q)) :
  Calls Tryz.prog 275 #[.slice ao n cap,.pointer (some (Ad x 0)),.pointer (some (Ad y 0)),.pointer (some (Ad z 0))] w fun e w'=>∃ar nr cr,e=.returned (.tuple #[.slice ar nr cr,I (dD l page aO q).2])/\dV w.heap.size w' (.slice ar nr cr) (dD l page aO q).1/\Below w.heap.size w w':=by
 have HM:Hid (Calls Tryz.prog 115 #[.slice ao n cap,I page,I aO,I q] w fun e w'=>∃ar nr cr,e=.returned (.tuple #[.slice ar nr cr,I (dD l page aO q).2])/\dV w.heap.size w' (.slice ar nr cr) (dD l page aO q).1/\Below w.heap.size w w'):=(Ru l (.slice ao n cap) page aO q w h hf hp hn).mono fun e w' ⟨r,h1,h2,h3⟩=>by
  obtain⟨ar,cr,er,_⟩:=bh h2
  grind
 clear h hf hp hn;go_enter Tryz.func275,Tryz.ntmps275;go_wp2_with (go_at_call 115;refine HM.o.mono ?_;rintro e w1 ⟨ar,nr,cr,rfl,h2,h3⟩;have H2:=ai h2;have H3:=ai h3;clear h2 h3)
 refine bK (v:=.tuple #[.slice ar nr cr,I (dD l page aO q).2]) (by simp[results]) rfl ?_
 grind [Hid.o]
theorem Sl (l:List aX) (ao:Option Addr) (n cap:Nat) (page aO:Int) (x y:Nat) (w:World) (h:gu w (.slice ao n cap) l) (hf:dH l) (hp:cK page) (hn:cK aO) (hx:w.cell? (Ad x 0)=some (I page)) (hy:w.cell? (Ad y 0)=some (I aO)) :
  Calls Tryz.prog 279 #[.slice ao n cap,.pointer (some (Ad x 0)),.pointer (some (Ad y 0))] w fun e w'=>∃ar nr cr,e=.returned (.tuple #[.slice ar nr cr,I (cN l page aO).2])/\dV w.heap.size w' (.slice ar nr cr) (cN l page aO).1/\Below w.heap.size w w':=by
 have HM:Hid (Calls Tryz.prog 280 #[.slice ao n cap,I page,I aO] w fun e w'=>∃ar nr cr,e=.returned (.tuple #[.slice ar nr cr,I (cN l page aO).2])/\dV w.heap.size w' (.slice ar nr cr) (cN l page aO).1/\Below w.heap.size w w'):=(Xd l (.slice ao n cap) page aO w h hf hp hn).mono fun e w' ⟨r,h1,h2,h3⟩=>by
  obtain⟨ar,cr,er,_⟩:=bh h2
  grind
 clear h hf hp hn;go_enter Tryz.func279,Tryz.ntmps279;go_wp2_with (go_at_call 280;refine HM.o.mono ?_;rintro e w1 ⟨ar,nr,cr,rfl,h2,h3⟩;have H2:=ai h2;have H3:=ai h3;clear h2 h3)
 refine bK (v:=.tuple #[.slice ar nr cr,I (cN l page aO).2]) (by simp[results]) rfl ?_
 grind [Hid.o]
theorem N6 (l:List aX) (ao:Option Addr) (n cap:Nat) (page aO q:Int) (x y z:Nat) (w:World) (h:gu w (.slice ao n cap) l) (hf:dH l) (hp:cK page) (hn:cK aO) (hx:w.cell? (Ad x 0)=some (I page)) (hy:w.cell? (Ad y 0)=some (I aO)) (hz:w.cell? (Ad z 0)=some (I q)) :
  Calls Tryz.prog 276 #[.slice ao n cap,.pointer (some (Ad x 0)),.pointer (some (Ad y 0)),.pointer (some (Ad z 0))] w fun e w'=>∃ar nr cr,e=.returned (.tuple #[.slice ar nr cr,I (bR l page aO q).2])/\dV w.heap.size w' (.slice ar nr cr) (bR l page aO q).1/\Below w.heap.size w w':=by
 have HM:Hid (Calls Tryz.prog 277 #[.slice ao n cap,I page,I aO,I q] w fun e w'=>∃ar nr cr,e=.returned (.tuple #[.slice ar nr cr,I (bR l page aO q).2])/\dV w.heap.size w' (.slice ar nr cr) (bR l page aO q).1/\Below w.heap.size w w'):=(Rt l (.slice ao n cap) page aO q w h hf hp hn).mono fun e w' ⟨r,h1,h2,h3⟩=>by
  obtain⟨ar,cr,er,_⟩:=bh h2
  grind
 clear h hf hp hn;go_enter Tryz.func276,Tryz.ntmps276;go_wp2_with (go_at_call 277;refine HM.o.mono ?_;rintro e w1 ⟨ar,nr,cr,rfl,h2,h3⟩;have H2:=ai h2;have H3:=ai h3;clear h2 h3)
 refine bK (v:=.tuple #[.slice ar nr cr,I (bR l page aO q).2]) (by simp[results]) rfl ?_
 grind [Hid.o]
theorem Sm (l:List aX) (ao:Option Addr) (n cap:Nat) (e:bC) (x:Nat) (w:World) (hx:w.cell? (Ad x 0)=some (.slice ao n cap)) (h:gu w (.slice ao n cap) l) (hf:dH l) :
  Calls Tryz.prog 285 #[.agg #[I e.page,I e.kind,I e.loc],.pointer (some (Ad x 0))] w fun r w'=>r=.returned (.bool (jf l e))/\Below w.heap.size w w':=by
 obtain⟨WA,mj⟩:=ex (w.alloc (.cells #[I e.page,I e.kind,I e.loc] 174));have hb:Below w.heap.size w WA:=by grind [Below.refl,Below.alloc]
 have hxl:x<w.heap.size:=oJ w _ hx;have xA:WA.cell? (Ad x 0)=some (.slice ao n cap):=(hb.cell (p:=(Ad x 0)) hxl).trans hx;have BN:WA.heap[w.heap.size]?=some (.cells #[I e.page,I e.kind,I e.loc] 174 (0,0)):=by grind [bD]
 have e0:WA.cell? (Ad w.heap.size 0)=some (I e.page):=aq BN 0 rfl;have HF:=ai (yo l (.slice ao n cap) e.page WA (h.below hb) hf);have HB:=ai hb;have se:=ai mj;unfold jf;obtain⟨r,hr⟩:=ex (aW l e.page);rw[<- hr] at HF ⊢;obtain⟨⟨pg,ps,pr,zr⟩,ok⟩:=r;have Lp:Hid (Calls Tryz.prog 77 #[.slice ao n cap,I e.page] WA fun e w'=>e=.returned (.tuple #[.agg #[I pg,I ps,I pr,.bool zr],.bool ok])/\Below WA.heap.size WA w'):=HF.o;clear mj hb BN hr hx h hf HF;go_enter Tryz.func285,Tryz.ntmps285;go_upto_region 1 with fail;rw[<- se.o];go_wp2_with (go_at_call 77;refine Lp.o.mono ?_;rintro e w1 ⟨rfl,hb1⟩;have cM:=ai (HB.o.trans (hb1.mono HB.o.size));clear hb1)
 go_ret;exact⟨by simp,cM.o.alloc cM.o.size _⟩
open Go.RowKit
def iq (k:aR) (sp:Int) (r:List aX×Int):aR×Int:=if fB k sp≠0 then (ed,fB k sp) else if r.2≠0 then (ed,r.2) else if dZ k.aj-bg (ak k.aj sp.toNat).aT+bg r.1>(k.slots.length:Int) then (ed,8) else (gA k sp.toNat r.1,0)
theorem Fe (GV:ra) (k:aR) (a:ja) (sp:Int) (w:World) (hK:jo w a k) (hF:o7 k) (hsp:cK sp) (r:List aX×Int) (LN:dH r.1) (F:FuncId) (E:List Value) (x y z:Nat)
  (hFE:(F=275/\E=[.pointer (some (Ad x 0)),.pointer (some (Ad y 0)),.pointer (some (Ad z 0))])∨(F=279/\E=[.pointer (some (Ad x 0)),.pointer (some (Ad y 0))])∨(F=276/\E=[.pointer (some (Ad x 0)),.pointer (some (Ad y 0)),.pointer (some (Ad z 0))]))
  (hC:∀V ao cap,Below w.heap.size w V->gu V (.slice ao (ak k.aj sp.toNat).aT.length cap) (ak k.aj sp.toNat).aT->dH (ak k.aj sp.toNat).aT->Calls Tryz.prog F (Value.slice ao (ak k.aj sp.toNat).aT.length cap::E).toArray V fun e w'=>∃ar nr cr,e=.returned (.tuple #[.slice ar nr cr,I r.2])/\dV V.heap.size w' (.slice ar nr cr) r.1/\Below V.heap.size V w') :
  Calls Tryz.prog 274 #[.agg (bc a k),I sp,.func (.func F) #[] E.toArray] w (b9 w (iq k sp r).1 [I (iq k sp r).2]):=by
 obtain⟨WA,mj⟩:=ex ((w.alloc (.cells (bc a k) 30)).alloc (.cells #[Nl,Nl,Nl,Nl,I 0] 30));have hb0:Below w.heap.size w WA:=by simp_all [aJ,pR]
 have kb:WA.heap[w.heap.size]?=some (.cells (bc a k) 30 (0,0)):=by grind [bl,bD]
 have rb:WA.heap[w.heap.size+1]?=some (.cells #[Nl,Nl,Nl,Nl,I 0] 30 (0,0)):=by
  grind [bD,World.size_alloc]
 have RB:Hid (∀V,Below WA.heap.size WA V->V.heap[w.heap.size+1]?=some (.cells #[Nl,Nl,Nl,Nl,I 0] 30 (0,0))):=fun V hb=>aN rb hb (aI rb)
 have k0:WA.cell? (Ad w.heap.size 0)=some (.slice a.aS k.aM.length a.cS):=aq kb 0 rfl;have k1:WA.cell? (Ad w.heap.size 1)=some (.slice a.aF k.frames.length a.cF):=aq kb 1 rfl;have k2:WA.cell? (Ad w.heap.size 2)=some (.slice a.aL k.slots.length a.cL):=aq kb 2 rfl;have k3:WA.cell? (Ad w.heap.size 3)=some (.slice a.aP k.aj.length a.cP):=aq kb 3 rfl;have k4:WA.cell? (Ad w.heap.size 4)=some (I k.hand):=aq kb 4 rfl;have se:=ai mj;have gG:=ai hb0;have hrl:=aI rb;have Ah:=ai (xX k a sp WA (hK.below hb0) hF hsp);have G8:Hid (∀(V:World) (C:Int),Below w.heap.size w V->b9 w ed [I C] (.returned (.tuple #[.agg #[Nl,Nl,Nl,Nl,I 0],I C])) V):=fun V C hV=>qw _ hV
 by_cases c:fB k sp=0
 · obtain⟨hR,IQ,hj,tX⟩:=rC c;obtain⟨j,hje⟩:∃j:Nat,sp=(j:Int):=⟨sp.toNat,by omega⟩;subst hje;rw[lD] at hj tX hC;have hsm:=sG hR hF;have wX:Hid (Calls Tryz.prog 76 #[.agg (bc a k),I (j:Int)] WA fun e w'=>∃mb,e=.returned (.tuple #[.pointer (some (Ad mb 0)),I 0])/\WA.heap.size<=mb/\w'.heap[mb]?=some (.cells (m9 a k) 158 (0,0))/\Below WA.heap.size WA w'):=Ah.o.mono fun e w' ⟨h1,h2⟩=>by
    grind
   obtain⟨pb,po,hpo,hpl,TI⟩:=hK.aj (by omega);obtain⟨va,ap,cp,v0,v1,v2,hha,Z7,_⟩:=TI j hj;have EO:=hha;obtain⟨aa,ca,IP,_⟩:=hha;subst IP;have hrm:=DF k.aj k.aj.length;have hcc:=hR.c;have hA0:iq k (j:Int) r=if r.2≠0 then (ed,r.2) else if dZ k.aj-bg (ak k.aj j).aT+bg r.1>(k.slots.length:Int) then (ed,8) else (gA k j r.1,0):=by
    unfold iq
    grind
   rw[hA0];obtain⟨wC,aak⟩:=ex ((ak k.aj j).aT);have hfit:=(hF.sp j hj).aT;have HV1:Hid (∀V,Below WA.heap.size WA V->V.cell? (Ad pb (po+j*3+1))=some (.slice aa wC.length ca)):=fun V hV=>by rw[aak];exact((hb0.trans (hV.mono hb0.size)).cell (p:=(Ad pb (po+j*3+1))) hpl).trans v1
   have HM3:Hid (∀(V:World) mb,V.heap[mb]?=some (.cells (m9 a k) 158 (0,0))->V.cell? (Ad mb 3)=some (.slice (some (Ad pb po)) k.aj.length a.cP)):=fun V mb h=>by
    have:=aq (v:=.slice a.aP k.aj.length a.cP) h 3 rfl;rw[hpo] at this;omega
   have hji:(j:Int)<(k.aj.length:Int):=by omega
   have HMP:Hid (∀V,Below WA.heap.size WA V->Calls Tryz.prog F (Value.slice aa wC.length ca::E).toArray V fun e w'=>∃ar nr cr,e=.returned (.tuple #[.slice ar nr cr,I r.2])/\dV V.heap.size w' (.slice ar nr cr) r.1/\Below V.heap.size V w'):=fun V hV=>by
    have hb:=hb0.trans (hV.mono hb0.size);rw[aak];exact hC V aa ca hb (EO.below hb) hfit
   by_cases cm:r.2=0
   · rw[au (fun x=>x cm)];have Nv:Hid (∀V mb,Below WA.heap.size WA V->V.heap[mb]?=some (.cells (m9 a k) 158 (0,0))->Calls Tryz.prog 143 #[.pointer (some (Ad mb 0))] V fun e w'=>e=.returned (I (dZ k.aj))/\Below V.heap.size V w'):=fun V mb hV hm=>DG k.aj a.aP a.cP mb V (hK.aj.below (hb0.trans (hV.mono hb0.size))) (fun i hi=>(hF.sp i hi).aT) (by omega) (aq hm 3 rfl)
     have HT1:Hid (∀V,Below WA.heap.size WA V->Calls Tryz.prog 70 #[.slice aa wC.length ca] V fun e w'=>e=.returned (I (bg wC))/\Below V.heap.size V w'):=fun V hV=>by
      rw[aak];exact wu _ _ V (EO.below (hb0.trans (hV.mono hb0.size))) hfit
     have HOW:Hid (∀V mb,Below WA.heap.size WA V->WA.heap.size<=mb->V.heap[mb]?=some (.cells (m9 a k) 158 (0,0))->Calls Tryz.prog 267 #[.pointer (some (Ad mb 0))] V fun e w'=>e=.returned (.tuple #[])/\∃S hs,cE k.aM hs/\bH WA.heap.size mb 158 (ie k) w' S (aU k hs)/\(∀b,S.lab b≠.no->b=mb∨V.heap.size<=b)/\aC (fun b=>b=mb) V w'):=fun V mb hV nC hm2=>Dy GV k a mb V (hK.below (hb0.trans (hV.mono hb0.size))) hsm hm2 WA.heap.size nC
     have hsk:(gA k j r.1).aM=k.aM:=(qg k hj r.1).1;have HFG:Hid (∀U V S mb hs xb ar nr cr,cE k.aM hs->Below WA.heap.size WA U->U.heap[xb]?=some (.cells #[.slice ar nr cr] 22 (0,0))->dV WA.heap.size U (.slice ar nr cr) r.1->(∀b,bW (.slice ar nr cr) b->b≠mb)->xb≠mb->WA.heap.size<=mb->(∀b,S.lab b≠.no->b=mb∨U.heap.size<=b)->bH WA.heap.size mb 158 (ie k) V S (aU k hs)->aC (fun b=>b=mb) U V->Calls Tryz.prog 268 #[.pointer (some (Ad mb 0)),I (j:Int),.func (.func 285) #[] #[.pointer (some (Ad xb 0))]] V fun e w'=>∃aS nS cS aF nF cF aL nL cL pb nP cP hd va,e=.returned (.tuple #[])/\w'.cell? (Ad mb 3)=some (.slice (some (Ad pb 0)) nP cP)/\w'.cell? (Ad xb 0)=some (.slice ar nr cr)/\(j:Int)<(nP:Int)/\w'.cell? (Ad pb (j*3+1))=some va/\w'.frozen? (Ad pb (j*3+1))=false/\((((w'.setCell (Ad pb (j*3+1)) (.slice ar nr cr))).drew).cell? (Ad mb 0)=some (.slice aS nS cS)/\(((w'.setCell (Ad pb (j*3+1)) (.slice ar nr cr))).drew).cell? (Ad mb 1)=some (.slice aF nF cF)/\(((w'.setCell (Ad pb (j*3+1)) (.slice ar nr cr))).drew).cell? (Ad mb 2)=some (.slice aL nL cL)/\(((w'.setCell (Ad pb (j*3+1)) (.slice ar nr cr))).drew).cell? (Ad mb 3)=some (.slice (some (Ad pb 0)) nP cP)/\(((w'.setCell (Ad pb (j*3+1)) (.slice ar nr cr))).drew).cell? (Ad mb 4)=some (I hd))/\(((w'.setCell (Ad pb (j*3+1)) (.slice ar nr cr))).drew).heap[w.heap.size+1]?=some (.cells #[Nl,Nl,Nl,Nl,I 0] 30 (0,0))/\(∀U,aC (fun b=>b=w.heap.size+1) (((w'.setCell (Ad pb (j*3+1)) (.slice ar nr cr))).drew) U->b9 w (gA k j r.1) [I 0] (.returned (.tuple #[.agg #[.slice aS nS cS,.slice aF nF cF,.slice aL nL cL,.slice (some (Ad pb 0)) nP cP,I hd],I 0])) U)):=fun U V S mb hs xb ar nr cr hsame hU LM hor hrm hxm hmb hno hV hkV=>by
      have hUz:=hU.size;have hxl:=aI LM;have TE:∀b,bW (.slice ar nr cr) b->S.lab b=.no:=fun b hb=>yM.1 fun g=>by
       rcases hno b g with e | e
       · exact hrm b hb e
       · have:=(hor.lt b hb).2;omega
      have hnx:S.lab xb=.no:=yM.1 fun g=>by
       rcases hno xb g with e | e
       · omega
       · omega
      have hxV:V.heap[xb]?=some (.cells #[.slice ar nr cr] 22 (0,0)):=hkV.keep LM hxm;have aiM:dV WA.heap.size V (.slice ar nr cr) r.1:=hkV.row hor (fun b hb=>hrm b hb);have hbV:Below WA.heap.size WA V:=aC.below hU hkV hUz (fun b e=>by omega);refine(BC 285 [.pointer (some (Ad xb 0))] xb (.inr (.inl ⟨rfl,rfl⟩)) (aU k hs) S V j (jf r.1) hV (hR.xR hsame) hj (fun V' e hV'=>?_)).mono fun e w' ⟨e1,S',hk',hc'⟩=>?_
      · have hx2:V'.heap[xb]?=some (.cells #[.slice ar nr cr] 22 (0,0)):=hV'.keep hxV (fun g=>g hnx);have E1:dV WA.heap.size V' (.slice ar nr cr) r.1:=hV'.row aiM (fun b hb g=>g (TE b hb));exact Sm r.1 ar nr cr e xb V' (aq hx2 0 rfl) E1.has LN
      · rw[uF] at hk';have hjl:j<(aU (dz k j (jf r.1)) hs).aj.length:=by
         show j<(dz k j (jf r.1)).aj.length;rw[gF,fC];exact hj
        obtain⟨pb,cP,A⟩:=hk'.toKr.sp (by omega);have hx':w'.heap[xb]?=some (.cells #[.slice ar nr cr] 22 (0,0)):=hc'.keep hxV hnx;have ho':dV WA.heap.size w' (.slice ar nr cr) r.1:=hc'.kp.row aiM (fun b hb g=>g (TE b hb));have hz:=hk'.anD hjl A.v ho' (fun b hb=>hc'.no b (aiM.lt b hb).2 (TE b hb));have es:ak (aU (dz k j (jf r.1)) hs).aj j=dU (ak k.aj j) (eQ (ak k.aj j).bf (jf r.1)):=by
         show ak (dz k j (jf r.1)).aj j=_;rw[gF];exact eI _ _ _ _ hj
        rw[es] at hz;have hzk:bH WA.heap.size mb 158 (ie k) (w'.setCell (Ad pb (j*3+1)) (.slice ar nr cr)) _ (aU (gA k j r.1) hs):=hz.1;have hzd:=hzk.below (aJ _ _).drew;have hbl:Below WA.heap.size WA w':=aC.below hbV hc'.kp hbV.size (fun b hb=>(hV.yq b hb).1);have hbz:Below WA.heap.size WA (((w'.setCell (Ad pb (j*3+1)) (.slice ar nr cr))).drew):=(aC.below hbl hz.2 hbl.size (fun b hb=>(hk'.yq b hb).1)).drew;obtain⟨aS,nS,cS,eS⟩:∃b n d,S'.vS=.slice b n d:=by obtain⟨b,d,e,_⟩:=bh hk'.aM;exact⟨b,_,d,e⟩
        obtain⟨aF,nF,cF,eF⟩:∃b n d,S'.vF=.slice b n d:=by obtain⟨b,d,e,_⟩:=bh hk'.frames;exact⟨b,_,d,e⟩
        obtain⟨aL,nL,cL,eL⟩:∃b n d,S'.vL=.slice b n d:=by obtain⟨b,d,e,_⟩:=bh hk'.slots;exact⟨b,_,d,e⟩
        have d0:=hzd.c0;have d1:=hzd.c1;have d2:=hzd.c2;have d3:=hzd.c3;have d4:=hzd.c4;have c3:=hk'.c3;rw[A.v] at c3;simp only at d0 d1 d2 d3;rw[eS] at d0;rw[eF] at d1;rw[eL] at d2;rw[A.v] at d3;have wM:Below w.heap.size w (((w'.setCell (Ad pb (j*3+1)) (.slice ar nr cr))).drew):=hb0.trans (hbz.mono hb0.size);refine⟨aS,nS,cS,aF,nF,cF,aL,nL,cL,pb,_,cP,_,_,e1,c3,aq hx' 0 rfl,by omega,A.x1 j hjl,A.fz _,⟨d0,d1,d2,d3,d4⟩,RB.o _ hbz,fun U hU=>⟨_,hs,by rw[hsk];omega,by simp only;rw[eS,eF,eL,A.v];rfl,(hzd.toKr.kp hU (fun b hb e=>by have:=(hzd.yq b hb).1;omega)).mono hb0.size,aC.below wM hU wM.size (fun b e=>by omega)⟩⟩
     have HT2:Hid (∀V ar nr cr,gu V (.slice ar nr cr) r.1->Calls Tryz.prog 70 #[.slice ar nr cr] V fun e w'=>e=.returned (I (bg r.1))/\Below V.heap.size V w'):=fun V ar nr cr h=>wu _ _ V h LN
     have hd1:=sH wC;have hd2:=sH r.1;rw[<- aak];have Jk:Hid (∀(V:World) mb,V.heap[mb]?=some (.cells (m9 a k) 158 (0,0))->V.cell? (Ad mb 2)=some (.slice a.aL k.slots.length a.cL)):=fun V mb h=>aq h 2 rfl
     obtain⟨RM,hRM⟩:=ex (dZ k.aj);obtain⟨T1,hT1⟩:=ex (bg wC);obtain⟨T2,hT2⟩:=ex (bg r.1);have akK:0<=RM/\RM<=65025*4:=by
      rw[hRM];unfold dZ;omega
     rw[<- hT1] at hd1 HT1 ⊢;rw[<- hT2] at hd2 HT2 ⊢;rw[<- hRM] at Nv ⊢;rw[cm] at HMP;obtain⟨P,hP⟩:=ex (b9 w (gA k j r.1) [I 0]);rw[<- hP] at HFG;have HR0:=ai (fun V (h:Below w.heap.size w V)=>G8.o V 8 h);obtain⟨P2,UK⟩:=ex (b9 w ed [I 8]);rw[<- UK] at HR0;unfold bc at wX se ⊢;by_cases cr:RM-T1+T2>(k.slots.length:Int)
     · rw[aB cr];show Calls _ _ _ _ (b9 w ed [I 8]);rw[<- UK];have c2:(k.slots.length:Int)<RM-T1+T2:=cr;clear hK hF hsp hA0 c hP UK mj hb0 kb rb Ah hC hR tX IQ hj TI v0 v1 v2 EO Z7 hfit aak cm hpo hRM hT1 hT2 hcc hrm hsm hsk cr LN HFG HOW G8;rcases hFE with⟨rfl,rfl⟩ | ⟨rfl,rfl⟩ | ⟨rfl,rfl⟩
       all_goals
        go_enter Tryz.func274,Tryz.ntmps274;go_upto_region 1 with fail;rw[<- se.o];go_upto_region 8 with(first
         | (go_at_call 76;refine wX.o.mono ?_;rintro e w1 ⟨mb,rfl,nC,hm2,hb1⟩;have QY:=ai hm2;have cM:=ai hb1;have m3:=HM3.o _ _ hm2;have u1:=HV1.o _ hb1;clear nC hm2 hb1)
         | (go_at_call 275;refine(HMP.o _ cM.o).mono ?_;rintro e w2 ⟨ar,nr,cr,rfl,E1,hb2⟩;have Hj:=ai E1;have WE:=ai hb2;have gP:=ai (cM.o.trans (hb2.mono cM.o.size));clear E1 hb2)
         | (go_at_call 279;refine(HMP.o _ cM.o).mono ?_;rintro e w2 ⟨ar,nr,cr,rfl,E1,hb2⟩;have Hj:=ai E1;have WE:=ai hb2;have gP:=ai (cM.o.trans (hb2.mono cM.o.size));clear E1 hb2)
         | (go_at_call 276;refine(HMP.o _ cM.o).mono ?_;rintro e w2 ⟨ar,nr,cr,rfl,E1,hb2⟩;have Hj:=ai E1;have WE:=ai hb2;have gP:=ai (cM.o.trans (hb2.mono cM.o.size));clear E1 hb2))
        have m7:=ai (gP.o.alloc gP.o.size (.cells #[.slice ar nr cr] 22));have B3:=ai (bD w2 #[.slice ar nr cr] 22);have O3:Hid (dV WA.heap.size (w2.alloc (.cells #[.slice ar nr cr] 22)) (.slice ar nr cr) _):=(aC.alloc (fun _=>False) _ _).row (Hj.o.mono cM.o.size) (fun _ _ g=>g);have M3:=ai (bl (aN QY.o WE.o (aI QY.o)) (.cells #[.slice ar nr cr] 22));have HMX:Hid (w2.heap.size≠mb):=(show w2.heap.size≠mb from fun e=>by have:=aI (aN QY.o WE.o (aI QY.o));omega);obtain⟨W3,hW3⟩:=ex (w2.alloc (.cells #[.slice ar nr cr] 22));obtain⟨xb,LM⟩:=ex w2.heap.size;rw[<- hW3] at m7 B3 O3 M3 ⊢;rw[<- LM] at B3 HMX ⊢;clear hW3 LM;have Cv:=jh W3;have q1:∀x:dM W3.heap.size W3,x.world.cell? (Ad xb 0)=some (.slice ar nr cr):=fun x=>aq (aN B3.o x.keeps (aI B3.o)) 0 rfl
        have q2:∀x:dM W3.heap.size W3,x.world.cell? (Ad mb 2)=some (.slice a.aL k.slots.length a.cL):=fun x=>Jk.o _ _ (aN M3.o x.keeps (aI M3.o))
        have Mq:=ai (fun V (hV:Below W3.heap.size W3 V)=>Nv.o V mb (m7.o.trans (hV.mono m7.o.size)) (aN M3.o hV (aI M3.o)));have Mo:=ai (fun V (hV:Below W3.heap.size W3 V)=>HT1.o V (m7.o.trans (hV.mono m7.o.size)));have adN:=ai (fun V (hV:Below W3.heap.size W3 V)=>HT2.o V ar nr cr (dV.has ((aC.bY (D:=fun _=>False) hV).row O3.o (fun _ _ g=>g))));clear m3 u1;refine di (by kernel_rfl) (by kernel_rfl) ?_
        repeat (first | go_big_quiet_step ((first | (go_at_call 143;exact fW _ Mq.o) | (go_at_call 70;with_reducible exact fW _ Mo.o) | (go_at_call 70;with_reducible exact fW _ adN.o))) | quiet_step ((first | (go_at_call 143;exact fW _ Mq.o) | (go_at_call 70;with_reducible exact fW _ Mo.o) | (go_at_call 70;with_reducible exact fW _ adN.o))))
        refine jd ?_;rintro _ ⟨X,rfl⟩;have kX:=ai (m7.o.trans (X.keeps.mono m7.o.size));have R1:=ai (RB.o _ kX.o);have sX:=ai (gG.o.trans (kX.o.mono gG.o.size));obtain⟨y0,y1,y2,y3,y4⟩:=iI R1.o;have f0:=aQ R1.o 0;have f1:=aQ R1.o 1;have f2:=aQ R1.o 2;have f3:=aQ R1.o 3;have f4:=aQ R1.o 4;have h5:=ai (fun V=>lV R1.o Nl Nl Nl Nl (I 0) (V:=V));go_wp2;obtain⟨r1,r2⟩:=h5.out _ rfl;obtain⟨y0,y1,y2,y3,y4⟩:=iI r1;refine bK (v:=.tuple #[.agg #[Nl,Nl,Nl,Nl,I 0],I 8]) (by simp[results,Tryz.results274,go_sem,y0,y1,y2,y3,y4]) rfl ?_;exact HR0.o _ (aC.below sX.o r2 sX.o.size (fun b e=>by omega))
     · rw[au cr];show Calls _ _ _ _ (b9 w (gA k j r.1) [I 0]);rw[<- hP];have c2:¬(k.slots.length:Int)<RM-T1+T2:=cr;clear hK hF hsp hA0 c hP UK mj hb0 kb rb Ah hC hR tX IQ hj TI v0 v1 v2 EO Z7 hfit aak cm hpo hRM hT1 hT2 hcc hrm hsm hsk cr LN G8 HR0;rcases hFE with⟨rfl,rfl⟩ | ⟨rfl,rfl⟩ | ⟨rfl,rfl⟩
       all_goals
        go_enter Tryz.func274,Tryz.ntmps274;go_upto_region 1 with fail;rw[<- se.o];go_upto_region 8 with(first
         | (go_at_call 76;refine wX.o.mono ?_;rintro e w1 ⟨mb,rfl,nC,hm2,hb1⟩;have RO:=ai nC;have QY:=ai hm2;have cM:=ai hb1;have m3:=HM3.o _ _ hm2;have u1:=HV1.o _ hb1;clear nC hm2 hb1)
         | (go_at_call 275;refine(HMP.o _ cM.o).mono ?_;rintro e w2 ⟨ar,nr,cr,rfl,E1,hb2⟩;have Hj:=ai E1;have WE:=ai hb2;have gP:=ai (cM.o.trans (hb2.mono cM.o.size));clear E1 hb2)
         | (go_at_call 279;refine(HMP.o _ cM.o).mono ?_;rintro e w2 ⟨ar,nr,cr,rfl,E1,hb2⟩;have Hj:=ai E1;have WE:=ai hb2;have gP:=ai (cM.o.trans (hb2.mono cM.o.size));clear E1 hb2)
         | (go_at_call 276;refine(HMP.o _ cM.o).mono ?_;rintro e w2 ⟨ar,nr,cr,rfl,E1,hb2⟩;have Hj:=ai E1;have WE:=ai hb2;have gP:=ai (cM.o.trans (hb2.mono cM.o.size));clear E1 hb2))
        have m7:=ai (gP.o.alloc gP.o.size (.cells #[.slice ar nr cr] 22));have B3:=ai (bD w2 #[.slice ar nr cr] 22);have O3:Hid (dV WA.heap.size (w2.alloc (.cells #[.slice ar nr cr] 22)) (.slice ar nr cr) _):=(aC.alloc (fun _=>False) _ _).row (Hj.o.mono cM.o.size) (fun _ _ g=>g);have M3:=ai (bl (aN QY.o WE.o (aI QY.o)) (.cells #[.slice ar nr cr] 22));have HMX:Hid (w2.heap.size≠mb):=(show w2.heap.size≠mb from fun e=>by have:=aI (aN QY.o WE.o (aI QY.o));omega);have HMR:Hid (∀b,bW (.slice ar nr cr) b->b≠mb):=(show ∀b,bW (.slice ar nr cr) b->b≠mb from fun b hb e=>by have:=(Hj.o.lt b hb).1;have:=aI QY.o;omega);obtain⟨W3,hW3⟩:=ex (w2.alloc (.cells #[.slice ar nr cr] 22));obtain⟨xb,LM⟩:=ex w2.heap.size;rw[<- hW3] at m7 B3 O3 M3 ⊢;rw[<- LM] at B3 HMX ⊢;clear hW3 LM;have Cv:=jh W3;have q1:∀x:dM W3.heap.size W3,x.world.cell? (Ad xb 0)=some (.slice ar nr cr):=fun x=>aq (aN B3.o x.keeps (aI B3.o)) 0 rfl
        have q2:∀x:dM W3.heap.size W3,x.world.cell? (Ad mb 2)=some (.slice a.aL k.slots.length a.cL):=fun x=>Jk.o _ _ (aN M3.o x.keeps (aI M3.o))
        have Mq:=ai (fun V (hV:Below W3.heap.size W3 V)=>Nv.o V mb (m7.o.trans (hV.mono m7.o.size)) (aN M3.o hV (aI M3.o)));have Mo:=ai (fun V (hV:Below W3.heap.size W3 V)=>HT1.o V (m7.o.trans (hV.mono m7.o.size)));have adN:=ai (fun V (hV:Below W3.heap.size W3 V)=>HT2.o V ar nr cr (dV.has ((aC.bY (D:=fun _=>False) hV).row O3.o (fun _ _ g=>g))));clear m3 u1;refine di (by kernel_rfl) (by kernel_rfl) ?_
        repeat (first | go_big_quiet_step ((first | (go_at_call 143;exact fW _ Mq.o) | (go_at_call 70;with_reducible exact fW _ Mo.o) | (go_at_call 70;with_reducible exact fW _ adN.o))) | quiet_step ((first | (go_at_call 143;exact fW _ Mq.o) | (go_at_call 70;with_reducible exact fW _ Mo.o) | (go_at_call 70;with_reducible exact fW _ adN.o))))
        refine jd ?_;rintro _ ⟨X,rfl⟩;have kX:=ai (m7.o.trans (X.keeps.mono m7.o.size));have MX:=ai (aN M3.o X.keeps (aI M3.o));have BX:=ai (aN B3.o X.keeps (aI B3.o));have OX:=ai ((aC.bY (D:=fun _=>False) X.keeps).row O3.o (fun _ _ g=>g));clear Cv q2 q1 Mq Mo adN Nv HT1 HT2;obtain⟨WX,hWX⟩:=ex X.world;rw[<- hWX] at kX MX BX OX ⊢;clear hWX;go_upto_region 12 with(first
         | (go_at_call 267;refine(HOW.o _ _ kX.o RO.o MX.o).mono ?_;rintro e w4 ⟨rfl,S,hs,hs2,hk2,LS,aeL⟩;have rJ:=ai hs2;have pM:=ai hk2;have Mr:=ai LS;have ahz:=ai aeL;clear hs2 hk2 LS aeL)
         | (go_at_call 268;refine(HFG.o _ _ _ _ _ _ _ _ _ rJ.o kX.o BX.o OX.o HMR.o HMX.o RO.o Mr.o pM.o ahz.o).mono ?_;rintro e w5 ⟨aS,nS,cS,aF,nF,cF,aL,nL,cL,pb2,nP,cP,hd,va,rfl,g3,gx,hjn,gv,gf,hcells,hr3,hfin⟩;have R3:=ai hr3;have Ai:=ai hfin;have Oj:=ai hcells;clear hr3 hfin hcells))
        go_region;go_upto_region 13 with fail;obtain⟨W3,hW3⟩:=ex ((w5.setCell (Ad pb2 (j*3+1)) (.slice ar nr cr)).drew);rw[<- hW3] at Oj R3 Ai ⊢;clear hW3;obtain⟨q0,q1,q2,q3,q4⟩:=Oj.o;obtain⟨y0,y1,y2,y3,y4⟩:=iI R3.o;have f0:=aQ R3.o 0;have f1:=aQ R3.o 1;have f2:=aQ R3.o 2;have f3:=aQ R3.o 3;have f4:=aQ R3.o 4;have h5:=ai (fun V=>lV R3.o (.slice aS nS cS) (.slice aF nF cF) (.slice aL nL cL) (.slice (some (Ad pb2 0)) nP cP) (I hd) (V:=V));go_wp2;obtain⟨r1,r2⟩:=h5.out _ rfl;obtain⟨y0,y1,y2,y3,y4⟩:=iI r1;refine bK (v:=.tuple #[.agg #[.slice aS nS cS,.slice aF nF cF,.slice aL nL cL,.slice (some (Ad pb2 0)) nP cP,I hd],I 0]) (by simp[results,Tryz.results274,go_sem,y0,y1,y2,y3,y4]) rfl ?_;exact Ai.o _ r2
   · rw[aB cm];obtain⟨C,hC2⟩:=ex r.2;rw[<- hC2] at HMP cm ⊢;have cb:(C != 0)=true:=by simpa using cm
     have dm:=ai (fun V (h:Below w.heap.size w V)=>G8.o V C h);obtain⟨P,hP⟩:=ex (b9 w ed [I C]);show Calls _ _ _ _ (b9 w ed [I C]);rw[<- hP] at dm ⊢;unfold bc at wX se ⊢;clear hK hF hsp hA0 hC hC2 c hP mj hb0 kb rb Ah hR tX IQ hj TI v0 v1 v2 EO Z7 hfit aak cm hpo hcc hrm hsm LN G8;rcases hFE with⟨rfl,rfl⟩ | ⟨rfl,rfl⟩ | ⟨rfl,rfl⟩
     all_goals
      go_enter Tryz.func274,Tryz.ntmps274;go_upto_region 1 with fail;rw[<- se.o];go_upto_region 7 with(first
       | (go_at_call 76;refine wX.o.mono ?_;rintro e w1 ⟨mb,rfl,nC,hm2,hb1⟩;have cM:=ai hb1;have m3:=HM3.o _ _ hm2;have u1:=HV1.o _ hb1;clear nC hm2 hb1)
       | (go_at_call 275;refine(HMP.o _ cM.o).mono ?_;rintro e w2 ⟨ar,nr,cr,rfl,E1,hb2⟩;have gP:=ai (cM.o.trans (hb2.mono cM.o.size));clear E1 hb2)
       | (go_at_call 279;refine(HMP.o _ cM.o).mono ?_;rintro e w2 ⟨ar,nr,cr,rfl,E1,hb2⟩;have gP:=ai (cM.o.trans (hb2.mono cM.o.size));clear E1 hb2)
       | (go_at_call 276;refine(HMP.o _ cM.o).mono ?_;rintro e w2 ⟨ar,nr,cr,rfl,E1,hb2⟩;have gP:=ai (cM.o.trans (hb2.mono cM.o.size));clear E1 hb2))
      have m7:=ai (gP.o.alloc gP.o.size (.cells #[.slice ar nr cr] 22));obtain⟨W3,hW3⟩:=ex (w2.alloc (.cells #[.slice ar nr cr] 22));rw[<- hW3] at m7 ⊢;have R1:=ai (RB.o _ m7.o);have sX:=ai (gG.o.trans (m7.o.mono gG.o.size));clear hW3;obtain⟨y0,y1,y2,y3,y4⟩:=iI R1.o;have f0:=aQ R1.o 0;have f1:=aQ R1.o 1;have f2:=aQ R1.o 2;have f3:=aQ R1.o 3;have f4:=aQ R1.o 4;have h5:=ai (fun V=>lV R1.o Nl Nl Nl Nl (I 0) (V:=V));go_wp2;obtain⟨r1,r2⟩:=h5.out _ rfl;obtain⟨y0,y1,y2,y3,y4⟩:=iI r1;refine bK (v:=.tuple #[.agg #[Nl,Nl,Nl,Nl,I 0],I C]) (by simp[results,Tryz.results274,go_sem,y0,y1,y2,y3,y4]) rfl ?_;exact dm.o _ (aC.below sX.o r2 sX.o.size (fun b e=>by omega))
 · have hA:iq k sp r=(ed,fB k sp):=by grind [iq]
   rw[hA];have QU:=ai (AQ Ah.o c);obtain⟨C,hC2⟩:=ex (fB k sp);rw[<- hC2] at QU c ⊢;have cb:(C != 0)=true:=by grind
   have dm:=ai (fun V (h:Below w.heap.size w V)=>G8.o V C h);obtain⟨P,hP⟩:=ex (b9 w ed [I C]);rw[<- hP] at dm ⊢;unfold bc at QU se ⊢;clear hK hF hsp hA hC hC2 c hP mj hb0 kb rb Ah LN hFE G8;go_enter Tryz.func274,Tryz.ntmps274;go_upto_region 1 with fail;rw[<- se.o];go_upto_region 3 with(go_at_call 76;refine QU.o.mono ?_;rintro e w1 ⟨rfl,hb1⟩;have sX:=ai (gG.o.trans (hb1.mono gG.o.size));have R1:=ai (RB.o _ hb1);clear hb1)
   obtain⟨y0,y1,y2,y3,y4⟩:=iI R1.o;have f0:=aQ R1.o 0;have f1:=aQ R1.o 1;have f2:=aQ R1.o 2;have f3:=aQ R1.o 3;have f4:=aQ R1.o 4;have h5:=ai (fun V=>lV R1.o Nl Nl Nl Nl (I 0) (V:=V));go_wp2;obtain⟨r1,r2⟩:=h5.out _ rfl;obtain⟨y0,y1,y2,y3,y4⟩:=iI r1;refine bK (v:=.tuple #[.agg #[Nl,Nl,Nl,Nl,I 0],I C]) (by simp[results,Tryz.results274,go_sem,y0,y1,y2,y3,y4]) rfl ?_;exact dm.o _ (aC.below sX.o r2 sX.o.size (fun b e=>by omega))
open Go.RowKit
theorem Hu {l:List aX} {hs:List bG} {en:Int} (h:kI l hs en=0):bj l=0/\gS hs=true/\(hs.length:Int)=bg l:=by
 rw[Ht] at h;unfold GZ at h;by_cases c:bj l=0
 · rw[aB c] at h;by_cases d:(decide ((hs.length:Int)=kP l l.length)&&(gS hs&&(yS l hs hs.length&&AJ l en)))=true
   · simp only[eG,kR] at d;refine⟨c,d.2.1,?_⟩;unfold bg;rw[aB c];exact d.1
   · rw[au d] at h;cases h
 · rw[au c] at h;exact absurd h c
def lI (l:List aX) (hs:List bG) (nf ns:Int):aR:=⟨hs,List.replicate nf.toNat gM,List.replicate ns.toNat nR,[⟨true,l,[]⟩],0⟩
def rT (l:List aX) (hs:List bG) (en nf ns:Int):aR×Int:=if kI l hs en≠0 then (ed,kI l hs en) else if nf<3 then (ed,9) else if nf>64∨ns<0∨ns>512 then (ed,3) else if bg l>ns then (ed,8) else (lI l hs nf ns,0)
def rR (n:Nat):Array Value:=madeCells #[.string ⟨#[]⟩,I 0,.bool false,.bool false] (n*4)
def rQ (n:Nat):Array Value:=madeCells #[.string ⟨#[]⟩,I 0] (n*2)
theorem afe:(Tryz.prog.info? 169).map (fun i=>(i.zero,i.size,i.bytes))=some (some (.agg #[.string ⟨#[]⟩,I 0,.bool false,.bool false]),4,32):=by kernel_rfl
theorem afd:(Tryz.prog.info? 171).map (fun i=>(i.zero,i.size,i.bytes))=some (some (.agg #[.string ⟨#[]⟩,I 0]),2,24):=by kernel_rfl
theorem ajq (V:World) (n:Int) (h0:0<=n) (hn:n<=1000):(Instr.makeSlice 26 (I n) (I n)).run Tryz.prog V=.ok (.slice (some (Ad V.heap.size 0)) n.toNat n.toNat) (V.alloc (.cells (rR n.toNat) 169)):=by
 obtain⟨i0,hi,hz0,hz1,hz2⟩:=jm afe;have h:=run_make (P:=Tryz.prog) V 26 169 i0 _ Tryz.underlying26 hi hz0 .i64 .i64 n n h0 (Am _) (by rw[hz2];omega) (by omega);rw[hz1] at h;exact h
theorem ajp (V:World) (n:Int) (h0:0<=n) (hn:n<=1000):(Instr.makeSlice 27 (I n) (I n)).run Tryz.prog V=.ok (.slice (some (Ad V.heap.size 0)) n.toNat n.toNat) (V.alloc (.cells (rQ n.toNat) 171)):=by
 obtain⟨i0,hi,hz0,hz1,hz2⟩:=jm afd;have h:=run_make (P:=Tryz.prog) V 27 171 i0 _ Tryz.underlying27 hi hz0 .i64 .i64 n n h0 (Am _) (by rw[hz2];omega) (by omega);rw[hz1] at h;exact h
theorem TQ {α:Type} (x d:α) (n i:Nat) (hi:i<n):(List.replicate n x).getD i d=x:=by
 rw[fy,List.getElem?_replicate,aB hi];rfl
theorem Qm (c:Array Value) (n i j m:Nat) (hc:c.size=m) (hi:i<n) (hj:j<m):(madeCells c (n*m))[i*m+j]?=c[j]?:=by
 have h1:i*m+j<n*m:=by
  have:(i+1)*m<=n*m:=Nat.mul_le_mul_right m hi;rw[Nat.add_mul,Nat.one_mul] at this;omega
 have h2:(i*m+j)%m=j:=by rw[Nat.mul_comm,Nat.mul_add_mod,Nat.mod_eq_of_lt hj]
 have h3:j<c.size:=by omega
 unfold madeCells;simp[h1,hc,h2];rw[getElem!_pos c j h3,acb h3]
theorem aaV {W:World} {l:List aX} {hs:List bG} {nf ns:Nat} {va:Value} {ao:Option Addr} {cap fb sb pb:Nat} (ha:gu W va l) (hh:jn W ao hs) (hf:W.heap[fb]?=some (.cells (rR nf) 169 (0,0))) (hl:W.heap[sb]?=some (.cells (rQ ns) 171 (0,0))) (hp:W.heap[pb]?=some (.cells #[.bool true,va,Nl] 99 (0,0))) :
  jo W ⟨ao,cap,some (Ad fb 0),nf,some (Ad sb 0),ns,some (Ad pb 0),1⟩ ⟨hs,List.replicate nf gM,List.replicate ns nR,[⟨true,l,[]⟩],0⟩:=by
 refine⟨hh,fun _=>⟨fb,0,rfl,aI hf,fun i hi j hj=>?_⟩,fun _=>⟨sb,0,rfl,aI hl,fun i hi j hj=>?_⟩,fun _=>⟨pb,0,rfl,aI hp,fun i hi=>?_⟩⟩
 · rw[uA] at hi;rw[TQ _ _ _ _ hi];have e:=Qm #[.string ⟨#[]⟩,I 0,.bool false,.bool false] nf i j 4 rfl hi hj;rw[lO]
   match j,hj with
   | 0,_=>exact aq hf _ e
   | 1,_=>exact aq hf _ e
   | 2,_=>exact aq hf _ e
   | 3,_=>exact aq hf _ e
   | j+4,h=>exact absurd h (by omega)
 · rw[uA] at hi;rw[TQ _ _ _ _ hi];have e:=Qm #[.string ⟨#[]⟩,I 0] ns i j 2 rfl hi hj;rw[lO]
   match j,hj with
   | 0,_=>exact aq hl _ e
   | 1,_=>exact aq hl _ e
   | j+2,h=>exact absurd h (by omega)
 · obtain rfl:i=0:=by
    have:i<1:=hi;omega
   exact⟨va,none,0,aq hp 0 rfl,aq hp 1 rfl,aq hp 2 rfl,ha,fun h=>absurd h (kr _),aH _⟩
theorem Vm {l:List aX} {hs:List bG} {en:Int} (h:kI l hs en=0) (nf ns:Nat) (hf:nf<=1000) (hn:ns<=1000):Fh ⟨hs,List.replicate nf gM,List.replicate ns nR,[⟨true,l,[]⟩],0⟩:=by
 obtain⟨h1,h2,h3⟩:=Hu h;have h4:=sH l;have h5:=oa _ h1;refine⟨by show hs.length<=_;omega,fun i hi=>?_,by show(List.replicate nf gM).length<=_;rw[uA];omega,by show(List.replicate ns nR).length<=_;rw[uA];omega,by show 1<=1000000;omega,fun i hi=>?_,fun i hi=>?_⟩
 · have:=Hv h2 i hi;show(bu hs i).eO.length<=_;omega
 · obtain rfl:i=0:=by
    have:i<1:=hi;omega
   show l.length<=_;omega
 · obtain rfl:i=0:=by
    have:i<1:=hi;omega
   exact rN _
end Go.Proofs.YtlgoihmkgaaemaaGreat
