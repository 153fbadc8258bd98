import Derived.Test.YtlgoihmkgaaemaaGreatGO23
set_option maxHeartbeats 20000000
set_option linter.unusedVariables false
set_option maxRecDepth 100000
set_option linter.unusedSimpArgs false
namespace Go.Proofs.YtlgoihmkgaaemaaGreat
open Go.RowKit
def iz (k:aR) (sp:Int) (r:List aY×Int):aR×Int:=if cT k sp≠0 then (dX,cT k sp) else if r.2≠0 then (dX,r.2) else if eD k.aj-bh (ak k.aj sp.toNat).aT+bh r.1>(k.slots.length:Int) then (dX,8) else (gI k sp.toNat r.1,0)
theorem FC (Hi:rO) (k:aR) (a:iH) (sp:Int) (w:World) (hK:jg w a k) (hF:nZ k) (hsp:cN sp) (r:List aY×Int) (Mg:dO r.1) (F:FuncId) (E:List Value) (x y z:Nat)
  (hFE:(F=275/\E=[.pointer (some (Ad x 0)),.pointer (some (Ad y 0)),.pointer (some (Ad z 0))])∨(F=279/\E=[.pointer (some (Ad x 0)),.pointer (some (Ad y 0))])∨(F=276/\E=[.pointer (some (Ad x 0)),.pointer (some (Ad y 0)),.pointer (some (Ad z 0))]))
  (hC:∀V ao cap,Below w.heap.size w V->gD V (.slice ao (ak k.aj sp.toNat).aT.length cap) (ak k.aj sp.toNat).aT->dO (ak k.aj sp.toNat).aT->Calls Tryz.prog F (Value.slice ao (ak k.aj sp.toNat).aT.length cap::E).toArray V fun e w'=>∃ar nr cr,e=.returned (.tuple #[.slice ar nr cr,I r.2])/\ez V.heap.size w' (.slice ar nr cr) r.1/\Below V.heap.size V w') :
  Calls Tryz.prog 274 #[.agg (bc a k),I sp,.func (.func F) #[] E.toArray] w (cu w (iz k sp r).1 [I (iz k sp r).2]):=by
 obtain⟨WA,lu⟩:=ex ((w.alloc (.cells (bc a k) 30)).alloc (.cells #[Nl,Nl,Nl,Nl,I 0] 30));have hb0:Below w.heap.size w WA:=by simp_all [aK,qj]
 have kb:WA.heap[w.heap.size]?=some (.cells (bc a k) 30 (0,0)):=by grind [bk,bB]
 have rb:WA.heap[w.heap.size+1]?=some (.cells #[Nl,Nl,Nl,Nl,I 0] 30 (0,0)):=by
  grind [bB,World.size_alloc]
 have RB:Hid (∀V,Below WA.heap.size WA V->V.heap[w.heap.size+1]?=some (.cells #[Nl,Nl,Nl,Nl,I 0] 30 (0,0))):=fun V hb=>aN rb hb (aJ rb)
 have k0:WA.cell? (Ad w.heap.size 0)=some (.slice a.aS k.aM.length a.cS):=aq kb 0 rfl;have k1:WA.cell? (Ad w.heap.size 1)=some (.slice a.aF k.frames.length a.cF):=aq kb 1 rfl;have k2:WA.cell? (Ad w.heap.size 2)=some (.slice a.aL k.slots.length a.cL):=aq kb 2 rfl;have k3:WA.cell? (Ad w.heap.size 3)=some (.slice a.aP k.aj.length a.cP):=aq kb 3 rfl;have k4:WA.cell? (Ad w.heap.size 4)=some (I k.hand):=aq kb 4 rfl;have sB:=ai lu;have gB:=ai hb0;have hrl:=aJ rb;have AG:=ai (vA k a sp WA (hK.below hb0) hF hsp);have Hu:Hid (∀(V:World) (C:Int),Below w.heap.size w V->cu w dX [I C] (.returned (.tuple #[.agg #[Nl,Nl,Nl,Nl,I 0],I C])) V):=fun V C hV=>qN _ hV
 by_cases c:cT k sp=0
 · obtain⟨hR,Jg,hj,uu⟩:=pS c;obtain⟨j,hje⟩:∃j:Nat,sp=(j:Int):=⟨sp.toNat,by omega⟩;subst hje;rw[jz] at hj uu hC;have hsm:=qA hR hF;have xu:Hid (Calls Tryz.prog 76 #[.agg (bc a k),I (j:Int)] WA fun e w'=>∃mb,e=.returned (.tuple #[.pointer (some (Ad mb 0)),I 0])/\WA.heap.size<=mb/\w'.heap[mb]?=some (.cells (lQ a k) 158 (0,0))/\Below WA.heap.size WA w'):=AG.o.mono fun e w' ⟨h1,h2⟩=>by
    grind
   obtain⟨pb,po,hpo,hpl,Us⟩:=hK.aj (by omega);obtain⟨va,ap,cp,v0,v1,v2,hha,hhp,_⟩:=Us j hj;have E7:=hha;obtain⟨aa,ca,H8,_⟩:=hha;subst H8;have hrm:=DZ k.aj k.aj.length;have hcc:=hR.c;have hA0:iz k (j:Int) r=if r.2≠0 then (dX,r.2) else if eD k.aj-bh (ak k.aj j).aT+bh r.1>(k.slots.length:Int) then (dX,8) else (gI k j r.1,0):=by
    unfold iz
    grind
   rw[hA0];obtain⟨wU,aa4⟩:=ex ((ak k.aj j).aT);have hfit:=(hF.sp j hj).aT;have HV1:Hid (∀V,Below WA.heap.size WA V->V.cell? (Ad pb (po+j*3+1))=some (.slice aa wU.length ca)):=fun V hV=>by rw[aa4];exact((hb0.trans (hV.mono hb0.size)).cell (p:=(Ad pb (po+j*3+1))) hpl).trans v1
   have Ym:Hid (∀(V:World) mb,V.heap[mb]?=some (.cells (lQ a k) 158 (0,0))->V.cell? (Ad mb 3)=some (.slice (some (Ad pb po)) k.aj.length a.cP)):=fun V mb h=>by
    have:=aq (v:=.slice a.aP k.aj.length a.cP) h 3 rfl;rw[hpo] at this;omega
   have hji:(j:Int)<(k.aj.length:Int):=by omega
   have UX:Hid (∀V,Below WA.heap.size WA V->Calls Tryz.prog F (Value.slice aa wU.length ca::E).toArray V fun e w'=>∃ar nr cr,e=.returned (.tuple #[.slice ar nr cr,I r.2])/\ez V.heap.size w' (.slice ar nr cr) r.1/\Below V.heap.size V w'):=fun V hV=>by
    have hb:=hb0.trans (hV.mono hb0.size);rw[aa4];exact hC V aa ca hb (E7.below hb) hfit
   by_cases cm:r.2=0
   · rw[au (fun x=>x cm)];have N0:Hid (∀V mb,Below WA.heap.size WA V->V.heap[mb]?=some (.cells (lQ a k) 158 (0,0))->Calls Tryz.prog 143 #[.pointer (some (Ad mb 0))] V fun e w'=>e=.returned (I (eD k.aj))/\Below V.heap.size V w'):=fun V mb hV hm=>D3 k.aj a.aP a.cP mb V (hK.aj.below (hb0.trans (hV.mono hb0.size))) (fun i hi=>(hF.sp i hi).aT) (by omega) (aq hm 3 rfl)
     have HT1:Hid (∀V,Below WA.heap.size WA V->Calls Tryz.prog 70 #[.slice aa wU.length ca] V fun e w'=>e=.returned (I (bh wU))/\Below V.heap.size V w'):=fun V hV=>by
      rw[aa4];exact wQ _ _ V (E7.below (hb0.trans (hV.mono hb0.size))) hfit
     have HOW:Hid (∀V mb,Below WA.heap.size WA V->WA.heap.size<=mb->V.heap[mb]?=some (.cells (lQ a k) 158 (0,0))->Calls Tryz.prog 267 #[.pointer (some (Ad mb 0))] V fun e w'=>e=.returned (.tuple #[])/\∃S hs,cA k.aM hs/\bJ WA.heap.size mb 158 (iq k) w' S (aU k hs)/\(∀b,S.lab b≠.no->b=mb∨V.heap.size<=b)/\aC (fun b=>b=mb) V w'):=fun V mb hV ni hm2=>DT Hi k a mb V (hK.below (hb0.trans (hV.mono hb0.size))) hsm hm2 WA.heap.size ni
     have hsk:(gI k j r.1).aM=k.aM:=(qE k hj r.1).1;have HFG:Hid (∀U V S mb hs xb ar nr cr,cA k.aM hs->Below WA.heap.size WA U->U.heap[xb]?=some (.cells #[.slice ar nr cr] 22 (0,0))->ez WA.heap.size U (.slice ar nr cr) r.1->(∀b,bX (.slice ar nr cr) b->b≠mb)->xb≠mb->WA.heap.size<=mb->(∀b,S.lab b≠.no->b=mb∨U.heap.size<=b)->bJ WA.heap.size mb 158 (iq k) V S (aU k hs)->aC (fun b=>b=mb) U V->Calls Tryz.prog 268 #[.pointer (some (Ad mb 0)),I (j:Int),.func (.func 285) #[] #[.pointer (some (Ad xb 0))]] V fun e w'=>∃aS nS cS aF nF cF aL nL cL pb nP cP hd va,e=.returned (.tuple #[])/\w'.cell? (Ad mb 3)=some (.slice (some (Ad pb 0)) nP cP)/\w'.cell? (Ad xb 0)=some (.slice ar nr cr)/\(j:Int)<(nP:Int)/\w'.cell? (Ad pb (j*3+1))=some va/\w'.frozen? (Ad pb (j*3+1))=false/\((((w'.setCell (Ad pb (j*3+1)) (.slice ar nr cr))).drew).cell? (Ad mb 0)=some (.slice aS nS cS)/\(((w'.setCell (Ad pb (j*3+1)) (.slice ar nr cr))).drew).cell? (Ad mb 1)=some (.slice aF nF cF)/\(((w'.setCell (Ad pb (j*3+1)) (.slice ar nr cr))).drew).cell? (Ad mb 2)=some (.slice aL nL cL)/\(((w'.setCell (Ad pb (j*3+1)) (.slice ar nr cr))).drew).cell? (Ad mb 3)=some (.slice (some (Ad pb 0)) nP cP)/\(((w'.setCell (Ad pb (j*3+1)) (.slice ar nr cr))).drew).cell? (Ad mb 4)=some (I hd))/\(((w'.setCell (Ad pb (j*3+1)) (.slice ar nr cr))).drew).heap[w.heap.size+1]?=some (.cells #[Nl,Nl,Nl,Nl,I 0] 30 (0,0))/\(∀U,aC (fun b=>b=w.heap.size+1) (((w'.setCell (Ad pb (j*3+1)) (.slice ar nr cr))).drew) U->cu w (gI k j r.1) [I 0] (.returned (.tuple #[.agg #[.slice aS nS cS,.slice aF nF cF,.slice aL nL cL,.slice (some (Ad pb 0)) nP cP,I hd],I 0])) U)):=fun U V S mb hs xb ar nr cr hsame hU Mf hor hrm hxm hmb hno hV hkV=>by
      have hUz:=hU.size;have hxl:=aJ Mf;have Uo:∀b,bX (.slice ar nr cr) b->S.lab b=.no:=fun b hb=>zg.1 fun g=>by
       rcases hno b g with e | e
       · exact hrm b hb e
       · have:=(hor.lt b hb).2;omega
      have hnx:S.lab xb=.no:=zg.1 fun g=>by
       rcases hno xb g with e | e
       · omega
       · omega
      have hxV:V.heap[xb]?=some (.cells #[.slice ar nr cr] 22 (0,0)):=hkV.keep Mf hxm;have ajD:ez WA.heap.size V (.slice ar nr cr) r.1:=hkV.row hor (fun b hb=>hrm b hb);have hbV:Below WA.heap.size WA V:=aC.below hU hkV hUz (fun b e=>by omega);refine(Cj 285 [.pointer (some (Ad xb 0))] xb (.inr (.inl ⟨rfl,rfl⟩)) (aU k hs) S V j (jr r.1) hV (hR.vJ hsame) hj (fun V' e hV'=>?_)).mono fun e w' ⟨e1,S',hk',hc'⟩=>?_
      · have hx2:V'.heap[xb]?=some (.cells #[.slice ar nr cr] 22 (0,0)):=hV'.keep hxV (fun g=>g hnx);have Fj:ez WA.heap.size V' (.slice ar nr cr) r.1:=hV'.row ajD (fun b hb g=>g (Uo b hb));exact S8 r.1 ar nr cr e xb V' (aq hx2 0 rfl) Fj.has Mg
      · rw[uX] at hk';have hjl:j<(aU (dH k j (jr r.1)) hs).aj.length:=by
         show j<(dH k j (jr r.1)).aj.length;rw[gN,fC];exact hj
        obtain⟨pb,cP,A⟩:=hk'.toKr.sp (by omega);have hx':w'.heap[xb]?=some (.cells #[.slice ar nr cr] 22 (0,0)):=hc'.keep hxV hnx;have ho':ez WA.heap.size w' (.slice ar nr cr) r.1:=hc'.kp.row ajD (fun b hb g=>g (Uo b hb));have hz:=hk'.aoO hjl A.v ho' (fun b hb=>hc'.no b (ajD.lt b hb).2 (Uo b hb));have es:ak (aU (dH k j (jr r.1)) hs).aj j=ek (ak k.aj j) (fe (ak k.aj j).bf (jr r.1)):=by
         show ak (dH k j (jr r.1)).aj j=_;rw[gN];exact eT _ _ _ _ hj
        rw[es] at hz;have hzk:bJ WA.heap.size mb 158 (iq k) (w'.setCell (Ad pb (j*3+1)) (.slice ar nr cr)) _ (aU (gI k j r.1) hs):=hz.1;have hzd:=hzk.below (aK _ _).drew;have hbl:Below WA.heap.size WA w':=aC.below hbV hc'.kp hbV.size (fun b hb=>(hV.yL b hb).1);have hbz:Below WA.heap.size WA (((w'.setCell (Ad pb (j*3+1)) (.slice ar nr cr))).drew):=(aC.below hbl hz.2 hbl.size (fun b hb=>(hk'.yL b hb).1)).drew;obtain⟨aS,nS,cS,eS⟩:∃b n d,S'.vS=.slice b n d:=by obtain⟨b,d,e,_⟩:=bg hk'.aM;exact⟨b,_,d,e⟩
        obtain⟨aF,nF,cF,eF⟩:∃b n d,S'.vF=.slice b n d:=by obtain⟨b,d,e,_⟩:=bg hk'.frames;exact⟨b,_,d,e⟩
        obtain⟨aL,nL,cL,eL⟩:∃b n d,S'.vL=.slice b n d:=by obtain⟨b,d,e,_⟩:=bg hk'.slots;exact⟨b,_,d,e⟩
        have d0:=hzd.c0;have d1:=hzd.c1;have d2:=hzd.c2;have d3:=hzd.c3;have d4:=hzd.c4;have c3:=hk'.c3;rw[A.v] at c3;simp only at d0 d1 d2 d3;rw[eS] at d0;rw[eF] at d1;rw[eL] at d2;rw[A.v] at d3;have xf:Below w.heap.size w (((w'.setCell (Ad pb (j*3+1)) (.slice ar nr cr))).drew):=hb0.trans (hbz.mono hb0.size);refine⟨aS,nS,cS,aF,nF,cF,aL,nL,cL,pb,_,cP,_,_,e1,c3,aq hx' 0 rfl,by omega,A.x1 j hjl,A.fz _,⟨d0,d1,d2,d3,d4⟩,RB.o _ hbz,fun U hU=>⟨_,hs,by rw[hsk];omega,by simp only;rw[eS,eF,eL,A.v];rfl,(hzd.toKr.kp hU (fun b hb e=>by have:=(hzd.yL b hb).1;omega)).mono hb0.size,aC.below xf hU xf.size (fun b e=>by omega)⟩⟩
     have HT2:Hid (∀V ar nr cr,gD V (.slice ar nr cr) r.1->Calls Tryz.prog 70 #[.slice ar nr cr] V fun e w'=>e=.returned (I (bh r.1))/\Below V.heap.size V w'):=fun V ar nr cr h=>wQ _ _ V h Mg
     have hd1:=qO wU;have hd2:=qO r.1;rw[<- aa4];have Gx:Hid (∀(V:World) mb,V.heap[mb]?=some (.cells (lQ a k) 158 (0,0))->V.cell? (Ad mb 2)=some (.slice a.aL k.slots.length a.cL)):=fun V mb h=>aq h 2 rfl
     obtain⟨RM,hRM⟩:=ex (eD k.aj);obtain⟨T1,hT1⟩:=ex (bh wU);obtain⟨T2,hT2⟩:=ex (bh r.1);have alM:0<=RM/\RM<=65025*4:=by
      rw[hRM];unfold eD;omega
     rw[<- hT1] at hd1 HT1 ⊢;rw[<- hT2] at hd2 HT2 ⊢;rw[<- hRM] at N0 ⊢;rw[cm] at UX;obtain⟨P,hP⟩:=ex (cu w (gI k j r.1) [I 0]);rw[<- hP] at HFG;have HR0:=ai (fun V (h:Below w.heap.size w V)=>Hu.o V 8 h);obtain⟨P2,VA⟩:=ex (cu w dX [I 8]);rw[<- VA] at HR0;unfold bc at xu sB ⊢;by_cases cr:RM-T1+T2>(k.slots.length:Int)
     · rw[aB cr];show Calls _ _ _ _ (cu w dX [I 8]);rw[<- VA];have c2:(k.slots.length:Int)<RM-T1+T2:=cr;clear hK hF hsp hA0 c hP VA lu hb0 kb rb AG hC hR uu Jg hj Us v0 v1 v2 E7 hhp hfit aa4 cm hpo hRM hT1 hT2 hcc hrm hsm hsk cr Mg HFG HOW Hu;rcases hFE with⟨rfl,rfl⟩ | ⟨rfl,rfl⟩ | ⟨rfl,rfl⟩
       all_goals
        go_enter Tryz.func274,Tryz.ntmps274;go_upto_region 1 with fail;rw[<- sB.o];go_upto_region 8 with(first
         | (go_at_call 76;refine xu.o.mono ?_;rintro e w1 ⟨mb,rfl,ni,hm2,hb1⟩;have RG:=ai hm2;have cH:=ai hb1;have m3:=Ym.o _ _ hm2;have u1:=HV1.o _ hb1;clear ni hm2 hb1)
         | (go_at_call 275;refine(UX.o _ cH.o).mono ?_;rintro e w2 ⟨ar,nr,cr,rfl,Fj,hb2⟩;have C3:=ai Fj;have XB:=ai hb2;have gK:=ai (cH.o.trans (hb2.mono cH.o.size));clear Fj hb2)
         | (go_at_call 279;refine(UX.o _ cH.o).mono ?_;rintro e w2 ⟨ar,nr,cr,rfl,Fj,hb2⟩;have C3:=ai Fj;have XB:=ai hb2;have gK:=ai (cH.o.trans (hb2.mono cH.o.size));clear Fj hb2)
         | (go_at_call 276;refine(UX.o _ cH.o).mono ?_;rintro e w2 ⟨ar,nr,cr,rfl,Fj,hb2⟩;have C3:=ai Fj;have XB:=ai hb2;have gK:=ai (cH.o.trans (hb2.mono cH.o.size));clear Fj hb2))
        have mQ:=ai (gK.o.alloc gK.o.size (.cells #[.slice ar nr cr] 22));have B3:=ai (bB w2 #[.slice ar nr cr] 22);have O3:Hid (ez WA.heap.size (w2.alloc (.cells #[.slice ar nr cr] 22)) (.slice ar nr cr) _):=(aC.alloc (fun _=>False) _ _).row (C3.o.mono cH.o.size) (fun _ _ g=>g);have M3:=ai (bk (aN RG.o XB.o (aJ RG.o)) (.cells #[.slice ar nr cr] 22));have HMX:Hid (w2.heap.size≠mb):=(show w2.heap.size≠mb from fun e=>by have:=aJ (aN RG.o XB.o (aJ RG.o));omega);obtain⟨W3,hW3⟩:=ex (w2.alloc (.cells #[.slice ar nr cr] 22));obtain⟨xb,Mf⟩:=ex w2.heap.size;rw[<- hW3] at mQ B3 O3 M3 ⊢;rw[<- Mf] at B3 HMX ⊢;clear hW3 Mf;have CM:=jt W3;have q1:∀x:dW W3.heap.size W3,x.world.cell? (Ad xb 0)=some (.slice ar nr cr):=fun x=>aq (aN B3.o x.keeps (aJ B3.o)) 0 rfl
        have q2:∀x:dW W3.heap.size W3,x.world.cell? (Ad mb 2)=some (.slice a.aL k.slots.length a.cL):=fun x=>Gx.o _ _ (aN M3.o x.keeps (aJ M3.o))
        have MT:=ai (fun V (hV:Below W3.heap.size W3 V)=>N0.o V mb (mQ.o.trans (hV.mono mQ.o.size)) (aN M3.o hV (aJ M3.o)));have MQ:=ai (fun V (hV:Below W3.heap.size W3 V)=>HT1.o V (mQ.o.trans (hV.mono mQ.o.size)));have aeo:=ai (fun V (hV:Below W3.heap.size W3 V)=>HT2.o V ar nr cr (ez.has ((aC.bZ (D:=fun _=>False) hV).row O3.o (fun _ _ g=>g))));clear m3 u1;refine dA (by kernel_rfl) (by kernel_rfl) ?_
        repeat (first | go_big_quiet_step ((first | (go_at_call 143;exact gw _ MT.o) | (go_at_call 70;with_reducible exact gw _ MQ.o) | (go_at_call 70;with_reducible exact gw _ aeo.o))) | quiet_step ((first | (go_at_call 143;exact gw _ MT.o) | (go_at_call 70;with_reducible exact gw _ MQ.o) | (go_at_call 70;with_reducible exact gw _ aeo.o))))
        refine jo ?_;rintro _ ⟨X,rfl⟩;have jm:=ai (mQ.o.trans (X.keeps.mono mQ.o.size));have R1:=ai (RB.o _ jm.o);have sQ:=ai (gB.o.trans (jm.o.mono gB.o.size));obtain⟨y0,y1,y2,y3,y4⟩:=iT R1.o;have f0:=aO R1.o 0;have f1:=aO R1.o 1;have f2:=aO R1.o 2;have f3:=aO R1.o 3;have f4:=aO R1.o 4;have h5:=ai (fun V=>l9 R1.o Nl Nl Nl Nl (I 0) (V:=V));go_wp2;obtain⟨r1,r2⟩:=h5.out _ rfl;obtain⟨y0,y1,y2,y3,y4⟩:=iT r1;refine bI (v:=.tuple #[.agg #[Nl,Nl,Nl,Nl,I 0],I 8]) (by simp[results,Tryz.results274,go_sem,y0,y1,y2,y3,y4]) rfl ?_;exact HR0.o _ (aC.below sQ.o r2 sQ.o.size (fun b e=>by omega))
     · rw[au cr];show Calls _ _ _ _ (cu w (gI k j r.1) [I 0]);rw[<- hP];have c2:¬(k.slots.length:Int)<RM-T1+T2:=cr;clear hK hF hsp hA0 c hP VA lu hb0 kb rb AG hC hR uu Jg hj Us v0 v1 v2 E7 hhp hfit aa4 cm hpo hRM hT1 hT2 hcc hrm hsm hsk cr Mg Hu HR0;rcases hFE with⟨rfl,rfl⟩ | ⟨rfl,rfl⟩ | ⟨rfl,rfl⟩
       all_goals
        go_enter Tryz.func274,Tryz.ntmps274;go_upto_region 1 with fail;rw[<- sB.o];go_upto_region 8 with(first
         | (go_at_call 76;refine xu.o.mono ?_;rintro e w1 ⟨mb,rfl,ni,hm2,hb1⟩;have SC:=ai ni;have RG:=ai hm2;have cH:=ai hb1;have m3:=Ym.o _ _ hm2;have u1:=HV1.o _ hb1;clear ni hm2 hb1)
         | (go_at_call 275;refine(UX.o _ cH.o).mono ?_;rintro e w2 ⟨ar,nr,cr,rfl,Fj,hb2⟩;have C3:=ai Fj;have XB:=ai hb2;have gK:=ai (cH.o.trans (hb2.mono cH.o.size));clear Fj hb2)
         | (go_at_call 279;refine(UX.o _ cH.o).mono ?_;rintro e w2 ⟨ar,nr,cr,rfl,Fj,hb2⟩;have C3:=ai Fj;have XB:=ai hb2;have gK:=ai (cH.o.trans (hb2.mono cH.o.size));clear Fj hb2)
         | (go_at_call 276;refine(UX.o _ cH.o).mono ?_;rintro e w2 ⟨ar,nr,cr,rfl,Fj,hb2⟩;have C3:=ai Fj;have XB:=ai hb2;have gK:=ai (cH.o.trans (hb2.mono cH.o.size));clear Fj hb2))
        have mQ:=ai (gK.o.alloc gK.o.size (.cells #[.slice ar nr cr] 22));have B3:=ai (bB w2 #[.slice ar nr cr] 22);have O3:Hid (ez WA.heap.size (w2.alloc (.cells #[.slice ar nr cr] 22)) (.slice ar nr cr) _):=(aC.alloc (fun _=>False) _ _).row (C3.o.mono cH.o.size) (fun _ _ g=>g);have M3:=ai (bk (aN RG.o XB.o (aJ RG.o)) (.cells #[.slice ar nr cr] 22));have HMX:Hid (w2.heap.size≠mb):=(show w2.heap.size≠mb from fun e=>by have:=aJ (aN RG.o XB.o (aJ RG.o));omega);have HMR:Hid (∀b,bX (.slice ar nr cr) b->b≠mb):=(show ∀b,bX (.slice ar nr cr) b->b≠mb from fun b hb e=>by have:=(C3.o.lt b hb).1;have:=aJ RG.o;omega);obtain⟨W3,hW3⟩:=ex (w2.alloc (.cells #[.slice ar nr cr] 22));obtain⟨xb,Mf⟩:=ex w2.heap.size;rw[<- hW3] at mQ B3 O3 M3 ⊢;rw[<- Mf] at B3 HMX ⊢;clear hW3 Mf;have CM:=jt W3;have q1:∀x:dW W3.heap.size W3,x.world.cell? (Ad xb 0)=some (.slice ar nr cr):=fun x=>aq (aN B3.o x.keeps (aJ B3.o)) 0 rfl
        have q2:∀x:dW W3.heap.size W3,x.world.cell? (Ad mb 2)=some (.slice a.aL k.slots.length a.cL):=fun x=>Gx.o _ _ (aN M3.o x.keeps (aJ M3.o))
        have MT:=ai (fun V (hV:Below W3.heap.size W3 V)=>N0.o V mb (mQ.o.trans (hV.mono mQ.o.size)) (aN M3.o hV (aJ M3.o)));have MQ:=ai (fun V (hV:Below W3.heap.size W3 V)=>HT1.o V (mQ.o.trans (hV.mono mQ.o.size)));have aeo:=ai (fun V (hV:Below W3.heap.size W3 V)=>HT2.o V ar nr cr (ez.has ((aC.bZ (D:=fun _=>False) hV).row O3.o (fun _ _ g=>g))));clear m3 u1;refine dA (by kernel_rfl) (by kernel_rfl) ?_
        repeat (first | go_big_quiet_step ((first | (go_at_call 143;exact gw _ MT.o) | (go_at_call 70;with_reducible exact gw _ MQ.o) | (go_at_call 70;with_reducible exact gw _ aeo.o))) | quiet_step ((first | (go_at_call 143;exact gw _ MT.o) | (go_at_call 70;with_reducible exact gw _ MQ.o) | (go_at_call 70;with_reducible exact gw _ aeo.o))))
        refine jo ?_;rintro _ ⟨X,rfl⟩;have jm:=ai (mQ.o.trans (X.keeps.mono mQ.o.size));have MX:=ai (aN M3.o X.keeps (aJ M3.o));have BX:=ai (aN B3.o X.keeps (aJ B3.o));have OX:=ai ((aC.bZ (D:=fun _=>False) X.keeps).row O3.o (fun _ _ g=>g));clear CM q2 q1 MT MQ aeo N0 HT1 HT2;obtain⟨WX,hWX⟩:=ex X.world;rw[<- hWX] at jm MX BX OX ⊢;clear hWX;go_upto_region 12 with(first
         | (go_at_call 267;refine(HOW.o _ _ jm.o SC.o MX.o).mono ?_;rintro e w4 ⟨rfl,S,hs,hs2,hk2,Mn,afr⟩;have sk:=ai hs2;have pq:=ai hk2;have TR:=ai Mn;have ais:=ai afr;clear hs2 hk2 Mn afr)
         | (go_at_call 268;refine(HFG.o _ _ _ _ _ _ _ _ _ sk.o jm.o BX.o OX.o HMR.o HMX.o SC.o TR.o pq.o ais.o).mono ?_;rintro e w5 ⟨aS,nS,cS,aF,nF,cF,aL,nL,cL,pb2,nP,cP,hd,va,rfl,g3,gx,hjn,gv,gf,hcells,hr3,hfin⟩;have R3:=ai hr3;have yg:=ai hfin;have I5:=ai hcells;clear hr3 hfin hcells))
        go_region;go_upto_region 13 with fail;obtain⟨W3,hW3⟩:=ex ((w5.setCell (Ad pb2 (j*3+1)) (.slice ar nr cr)).drew);rw[<- hW3] at I5 R3 yg ⊢;clear hW3;obtain⟨q0,q1,q2,q3,q4⟩:=I5.o;obtain⟨y0,y1,y2,y3,y4⟩:=iT R3.o;have f0:=aO R3.o 0;have f1:=aO R3.o 1;have f2:=aO R3.o 2;have f3:=aO R3.o 3;have f4:=aO R3.o 4;have h5:=ai (fun V=>l9 R3.o (.slice aS nS cS) (.slice aF nF cF) (.slice aL nL cL) (.slice (some (Ad pb2 0)) nP cP) (I hd) (V:=V));go_wp2;obtain⟨r1,r2⟩:=h5.out _ rfl;obtain⟨y0,y1,y2,y3,y4⟩:=iT r1;refine bI (v:=.tuple #[.agg #[.slice aS nS cS,.slice aF nF cF,.slice aL nL cL,.slice (some (Ad pb2 0)) nP cP,I hd],I 0]) (by simp[results,Tryz.results274,go_sem,y0,y1,y2,y3,y4]) rfl ?_;exact yg.o _ r2
   · rw[aB cm];obtain⟨C,hC2⟩:=ex r.2;rw[<- hC2] at UX cm ⊢;have cb:(C != 0)=true:=by simpa using cm
     have dB:=ai (fun V (h:Below w.heap.size w V)=>Hu.o V C h);obtain⟨P,hP⟩:=ex (cu w dX [I C]);show Calls _ _ _ _ (cu w dX [I C]);rw[<- hP] at dB ⊢;unfold bc at xu sB ⊢;clear hK hF hsp hA0 hC hC2 c hP lu hb0 kb rb AG hR uu Jg hj Us v0 v1 v2 E7 hhp hfit aa4 cm hpo hcc hrm hsm Mg Hu;rcases hFE with⟨rfl,rfl⟩ | ⟨rfl,rfl⟩ | ⟨rfl,rfl⟩
     all_goals
      go_enter Tryz.func274,Tryz.ntmps274;go_upto_region 1 with fail;rw[<- sB.o];go_upto_region 7 with(first
       | (go_at_call 76;refine xu.o.mono ?_;rintro e w1 ⟨mb,rfl,ni,hm2,hb1⟩;have cH:=ai hb1;have m3:=Ym.o _ _ hm2;have u1:=HV1.o _ hb1;clear ni hm2 hb1)
       | (go_at_call 275;refine(UX.o _ cH.o).mono ?_;rintro e w2 ⟨ar,nr,cr,rfl,Fj,hb2⟩;have gK:=ai (cH.o.trans (hb2.mono cH.o.size));clear Fj hb2)
       | (go_at_call 279;refine(UX.o _ cH.o).mono ?_;rintro e w2 ⟨ar,nr,cr,rfl,Fj,hb2⟩;have gK:=ai (cH.o.trans (hb2.mono cH.o.size));clear Fj hb2)
       | (go_at_call 276;refine(UX.o _ cH.o).mono ?_;rintro e w2 ⟨ar,nr,cr,rfl,Fj,hb2⟩;have gK:=ai (cH.o.trans (hb2.mono cH.o.size));clear Fj hb2))
      have mQ:=ai (gK.o.alloc gK.o.size (.cells #[.slice ar nr cr] 22));obtain⟨W3,hW3⟩:=ex (w2.alloc (.cells #[.slice ar nr cr] 22));rw[<- hW3] at mQ ⊢;have R1:=ai (RB.o _ mQ.o);have sQ:=ai (gB.o.trans (mQ.o.mono gB.o.size));clear hW3;obtain⟨y0,y1,y2,y3,y4⟩:=iT R1.o;have f0:=aO R1.o 0;have f1:=aO R1.o 1;have f2:=aO R1.o 2;have f3:=aO R1.o 3;have f4:=aO R1.o 4;have h5:=ai (fun V=>l9 R1.o Nl Nl Nl Nl (I 0) (V:=V));go_wp2;obtain⟨r1,r2⟩:=h5.out _ rfl;obtain⟨y0,y1,y2,y3,y4⟩:=iT r1;refine bI (v:=.tuple #[.agg #[Nl,Nl,Nl,Nl,I 0],I C]) (by simp[results,Tryz.results274,go_sem,y0,y1,y2,y3,y4]) rfl ?_;exact dB.o _ (aC.below sQ.o r2 sQ.o.size (fun b e=>by omega))
 · have hA:iz k sp r=(dX,cT k sp):=by grind [iz]
   rw[hA];have Rt:=ai (Bg AG.o c);obtain⟨C,hC2⟩:=ex (cT k sp);rw[<- hC2] at Rt c ⊢;have cb:(C != 0)=true:=by grind
   have dB:=ai (fun V (h:Below w.heap.size w V)=>Hu.o V C h);obtain⟨P,hP⟩:=ex (cu w dX [I C]);rw[<- hP] at dB ⊢;unfold bc at Rt sB ⊢;clear hK hF hsp hA hC hC2 c hP lu hb0 kb rb AG Mg hFE Hu;go_enter Tryz.func274,Tryz.ntmps274;go_upto_region 1 with fail;rw[<- sB.o];go_upto_region 3 with(go_at_call 76;refine Rt.o.mono ?_;rintro e w1 ⟨rfl,hb1⟩;have sQ:=ai (gB.o.trans (hb1.mono gB.o.size));have R1:=ai (RB.o _ hb1);clear hb1)
   obtain⟨y0,y1,y2,y3,y4⟩:=iT R1.o;have f0:=aO R1.o 0;have f1:=aO R1.o 1;have f2:=aO R1.o 2;have f3:=aO R1.o 3;have f4:=aO R1.o 4;have h5:=ai (fun V=>l9 R1.o Nl Nl Nl Nl (I 0) (V:=V));go_wp2;obtain⟨r1,r2⟩:=h5.out _ rfl;obtain⟨y0,y1,y2,y3,y4⟩:=iT r1;refine bI (v:=.tuple #[.agg #[Nl,Nl,Nl,Nl,I 0],I C]) (by simp[results,Tryz.results274,go_sem,y0,y1,y2,y3,y4]) rfl ?_;exact dB.o _ (aC.below sQ.o r2 sQ.o.size (fun b e=>by omega))
open Go.RowKit
theorem Io {l:List aY} {hs:List bG} {en:Int} (h:lG l hs en=0):bj l=0/\ia hs=true/\(hs.length:Int)=bh l:=by
 rw[Im] at h;unfold Hm at h;by_cases c:bj l=0
 · rw[aB c] at h;by_cases d:(decide ((hs.length:Int)=kY l l.length)&&(ia hs&&(zm l hs hs.length&&Bb l en)))=true
   · simp only[eO,lh] at d;refine⟨c,d.2.1,?_⟩;unfold bh;rw[aB c];exact d.1
   · rw[au d] at h;cases h
 · rw[au c] at h;exact absurd h c
def nj (l:List aY) (hs:List bG) (nf ns:Int):aR:=⟨hs,List.replicate nf.toNat gX,List.replicate ns.toNat oc,[⟨true,l,[]⟩],0⟩
def sJ (l:List aY) (hs:List bG) (en nf ns:Int):aR×Int:=if lG l hs en≠0 then (dX,lG l hs en) else if nf<3 then (dX,9) else if nf>64∨ns<0∨ns>512 then (dX,3) else if bh l>ns then (dX,8) else (nj l hs nf ns,0)
def sI (n:Nat):Array Value:=madeCells #[.string ⟨#[]⟩,I 0,.bool false,.bool false] (n*4)
def sH (n:Nat):Array Value:=madeCells #[.string ⟨#[]⟩,I 0] (n*2)
theorem afX:(Tryz.prog.info? 169).map (fun i=>(i.zero,i.size,i.bytes))=some (some (.agg #[.string ⟨#[]⟩,I 0,.bool false,.bool false]),4,32):=by kernel_rfl
theorem afW:(Tryz.prog.info? 171).map (fun i=>(i.zero,i.size,i.bytes))=some (some (.agg #[.string ⟨#[]⟩,I 0]),2,24):=by kernel_rfl
theorem akg (V:World) (n:Int) (h0:0<=n) (hn:n<=1000):(Instr.makeSlice 26 (I n) (I n)).run Tryz.prog V=.ok (.slice (some (Ad V.heap.size 0)) n.toNat n.toNat) (V.alloc (.cells (sI n.toNat) 169)):=by
 obtain⟨i0,hi,hz0,hz1,hz2⟩:=jy afX;have h:=run_make (P:=Tryz.prog) V 26 169 i0 _ Tryz.underlying26 hi hz0 .i64 .i64 n n h0 (AK _) (by rw[hz2];omega) (by omega);rw[hz1] at h;exact h
theorem akf (V:World) (n:Int) (h0:0<=n) (hn:n<=1000):(Instr.makeSlice 27 (I n) (I n)).run Tryz.prog V=.ok (.slice (some (Ad V.heap.size 0)) n.toNat n.toNat) (V.alloc (.cells (sH n.toNat) 171)):=by
 obtain⟨i0,hi,hz0,hz1,hz2⟩:=jy afW;have h:=run_make (P:=Tryz.prog) V 27 171 i0 _ Tryz.underlying27 hi hz0 .i64 .i64 n n h0 (AK _) (by rw[hz2];omega) (by omega);rw[hz1] at h;exact h
theorem Uy {α:Type} (x d:α) (n i:Nat) (hi:i<n):(List.replicate n x).getD i d=x:=by
 rw[fK,List.getElem?_replicate,aB hi];rfl
theorem QN (c:Array Value) (n i j m:Nat) (hc:c.size=m) (hi:i<n) (hj:j<m):(madeCells c (n*m))[i*m+j]?=c[j]?:=by
 have h1:i*m+j<n*m:=by
  have:(i+1)*m<=n*m:=Nat.mul_le_mul_right m hi;rw[Nat.add_mul,Nat.one_mul] at this;omega
 have h2:(i*m+j)%m=j:=by rw[Nat.mul_comm,Nat.mul_add_mod,Nat.mod_eq_of_lt hj]
 have h3:j<c.size:=by omega
 unfold madeCells;simp[h1,hc,h2];rw[getElem!_pos c j h3,acS h3]
theorem abI {W:World} {l:List aY} {hs:List bG} {nf ns:Nat} {va:Value} {ao:Option Addr} {cap fb sb pb:Nat} (ha:gD W va l) (hh:jB W ao hs) (hf:W.heap[fb]?=some (.cells (sI nf) 169 (0,0))) (hl:W.heap[sb]?=some (.cells (sH ns) 171 (0,0))) (hp:W.heap[pb]?=some (.cells #[.bool true,va,Nl] 99 (0,0))) :
  jg W ⟨ao,cap,some (Ad fb 0),nf,some (Ad sb 0),ns,some (Ad pb 0),1⟩ ⟨hs,List.replicate nf gX,List.replicate ns oc,[⟨true,l,[]⟩],0⟩:=by
 refine⟨hh,fun _=>⟨fb,0,rfl,aJ hf,fun i hi j hj=>?_⟩,fun _=>⟨sb,0,rfl,aJ hl,fun i hi j hj=>?_⟩,fun _=>⟨pb,0,rfl,aJ hp,fun i hi=>?_⟩⟩
 · rw[uS] at hi;rw[Uy _ _ _ _ hi];have e:=QN #[.string ⟨#[]⟩,I 0,.bool false,.bool false] nf i j 4 rfl hi hj;rw[lZ]
   match j,hj with
   | 0,_=>exact aq hf _ e
   | 1,_=>exact aq hf _ e
   | 2,_=>exact aq hf _ e
   | 3,_=>exact aq hf _ e
   | j+4,h=>exact absurd h (by omega)
 · rw[uS] at hi;rw[Uy _ _ _ _ hi];have e:=QN #[.string ⟨#[]⟩,I 0] ns i j 2 rfl hi hj;rw[lZ]
   match j,hj with
   | 0,_=>exact aq hl _ e
   | 1,_=>exact aq hl _ e
   | j+2,h=>exact absurd h (by omega)
 · obtain rfl:i=0:=by
    have:i<1:=hi;omega
   exact⟨va,none,0,aq hp 0 rfl,aq hp 1 rfl,aq hp 2 rfl,ha,fun h=>absurd h (jf _),aD _⟩
theorem V7 {l:List aY} {hs:List bG} {en:Int} (h:lG l hs en=0) (nf ns:Nat) (hf:nf<=1000) (hn:ns<=1000):FI ⟨hs,List.replicate nf gX,List.replicate ns oc,[⟨true,l,[]⟩],0⟩:=by
 obtain⟨h1,h2,h3⟩:=Io h;have h4:=qO l;have h5:=oC _ h1;refine⟨by show hs.length<=_;omega,fun i hi=>?_,by show(List.replicate nf gX).length<=_;rw[uS];omega,by show(List.replicate ns oc).length<=_;rw[uS];omega,by show 1<=1000000;omega,fun i hi=>?_,fun i hi=>?_⟩
 · have:=Ip h2 i hi;show(bu hs i).eZ.length<=_;omega
 · obtain rfl:i=0:=by
    have:i<1:=hi;omega
   show l.length<=_;omega
 · obtain rfl:i=0:=by
    have:i<1:=hi;omega
   exact sD _
end Go.Proofs.YtlgoihmkgaaemaaGreat
