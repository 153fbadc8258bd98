import Derived.Test.YtlgoihmkgaaemaaGreatGO27
import Derived.Test.YtlgoihmkgaaemaaGreatGO25
set_option maxHeartbeats 20000000
set_option linter.unusedVariables false
set_option maxRecDepth 100000
set_option linter.unusedSimpArgs false
namespace Go.Proofs.YtlgoihmkgaaemaaGreat
open Go.RowKit
def uC (k:aR) (sp:Int):aR×Int×Int:=if cT k sp≠0 then (dX,0,cT k sp) else if k.aj.length=4 then (dX,0,2) else if eD k.aj+bh (ak k.aj sp.toNat).aT>(k.slots.length:Int) then (dX,0,8) else (gM k sp.toNat,(k.aj.length:Int),0)
theorem Y4 {k:aR} (hR:aW k) {j:Nat} (hj:j<k.aj.length) {s:cZ} (hs:s=ak k.aj j) (n:Nat) (hn:n<=s.bf.length):(∀i,i<k.frames.length->-1000000<=(aH (dY k s.bf n).frames i).refs/\(aH (dY k s.bf n).frames i).refs<=1000000)/\(∀i,i<k.slots.length->-1000000<=(bE (dY k s.bf n).slots i).refs/\(bE (dY k s.bf n).slots i).refs<=1000000):=by
 subst hs;obtain⟨_,_,_,_,_,h6,h7⟩:=wA hR hj n hn;obtain⟨r1,r2⟩:=yt hR;have hen:=ot hR hj;have hl:∀(kd i:Int),(jS (ak k.aj j).aT kd i ((ak k.aj j).bf.take n)).length<=512:=fun kd i=>by
  grind [jS]
 refine⟨fun i hi=>?_,fun i hi=>?_⟩
 · rw[h6 i hi];have:=r1 i hi;have:=hl 1 i;show _<=(aH k.frames i).refs+_/\(aH k.frames i).refs+_<=_;omega
 · rw[h7 i hi];have:=r2 i hi;have:=hl 2 i;show _<=(bE k.slots i).refs+_/\(bE k.slots i).refs+_<=_;omega
def adl (WA W:World) (mb:Nat) (k:aR) (X:List Value) (v':Value):Prop:=∃S hs,cA k.aM hs/\bJ WA.heap.size mb 158 X W S (aU k hs)/\S.vP=v'/\Below WA.heap.size WA W
theorem V9 {w WA W:World} {mb:Nat} {k:aR} {X:List Value} {aG:Option Addr} {nG cG:Nat} (h:adl WA W mb k X (.slice aG nG cG)) (hRB:∀V,Below WA.heap.size WA V->V.heap[w.heap.size+1]?=some (.cells #[Nl,Nl,Nl,Nl,I 0] 30 (0,0))) (hb0:Below w.heap.size w WA) (hrl:w.heap.size+1<WA.heap.size) (vs:List Value) :
  ∃aS nS cS aF nF cF aL nL cL hd,(W.cell? (Ad mb 0)=some (.slice aS nS cS)/\W.cell? (Ad mb 1)=some (.slice aF nF cF)/\W.cell? (Ad mb 2)=some (.slice aL nL cL)/\W.cell? (Ad mb 3)=some (.slice aG nG cG)/\W.cell? (Ad mb 4)=some (I hd))/\W.heap[w.heap.size+1]?=some (.cells #[Nl,Nl,Nl,Nl,I 0] 30 (0,0))/\∀U,aC (fun b=>b=w.heap.size+1) W U->cu w k vs (.returned (.tuple (Value.agg #[.slice aS nS cS,.slice aF nF cF,.slice aL nL cL,.slice aG nG cG,I hd]::vs).toArray)) U:=by
 obtain⟨S,hs,hsame,rW,hv,hbl⟩:=h;obtain⟨aS,nS,cS,eS⟩:∃b n d,S.vS=.slice b n d:=by obtain⟨b,d,e,_⟩:=bg rW.aM;grind
 obtain⟨aF,nF,cF,eF⟩:∃b n d,S.vF=.slice b n d:=by obtain⟨b,d,e,_⟩:=bg rW.frames;grind
 obtain⟨aL,nL,cL,eL⟩:∃b n d,S.vL=.slice b n d:=by obtain⟨b,d,e,_⟩:=bg rW.slots;grind
 have xf:Below w.heap.size w W:=hb0.trans (hbl.mono hb0.size);refine⟨aS,nS,cS,aF,nF,cF,aL,nL,cL,_,⟨by grind [bJ.c0],by grind [bJ.c1],by grind [bJ.c2],by grind [bJ.c3],rW.c4⟩,hRB _ hbl,fun U hU=>⟨S,hs,hsame,by rw[eS,eF,eL,hv];rfl,(rW.toKr.kp hU (fun b hb e=>by have:=(rW.yL b hb).1;omega)).mono hb0.size,aC.below xf hU xf.size (fun b e=>by omega)⟩⟩
theorem Y7 (Hi:rO) (k:aR) (a:iH) (sp:Int) (w:World) (hK:jg w a k) (hF:nZ k) (hsp:cN sp) :
  Calls Tryz.prog 261 #[.agg (bc a k),I sp] w (cu w (uC k sp).1 [I (uC k sp).2.1,I (uC k sp).2.2]):=by
 obtain⟨WA,lu⟩:=ex ((w.alloc (.cells (bc a k) 30)).alloc (.cells #[Nl,Nl,Nl,Nl,I 0] 30));have hb0:Below w.heap.size w WA:=by simp_all [aK,qj]
 have kb:WA.heap[w.heap.size]?=some (.cells (bc a k) 30 (0,0)):=by grind [bk,bB]
 have rb:WA.heap[w.heap.size+1]?=some (.cells #[Nl,Nl,Nl,Nl,I 0] 30 (0,0)):=by
  grind [bB,World.size_alloc]
 have RB:Hid (∀V,Below WA.heap.size WA V->V.heap[w.heap.size+1]?=some (.cells #[Nl,Nl,Nl,Nl,I 0] 30 (0,0))):=fun V hb=>aN rb hb (aJ rb)
 have k0:WA.cell? (Ad w.heap.size 0)=some (.slice a.aS k.aM.length a.cS):=aq kb 0 rfl;have k1:WA.cell? (Ad w.heap.size 1)=some (.slice a.aF k.frames.length a.cF):=aq kb 1 rfl;have k2:WA.cell? (Ad w.heap.size 2)=some (.slice a.aL k.slots.length a.cL):=aq kb 2 rfl;have k3:WA.cell? (Ad w.heap.size 3)=some (.slice a.aP k.aj.length a.cP):=aq kb 3 rfl;have k4:WA.cell? (Ad w.heap.size 4)=some (I k.hand):=aq kb 4 rfl;have sB:=ai lu;have gB:=ai hb0;have hrl:=aJ rb;have AG:=ai (vA k a sp WA (hK.below hb0) hF hsp);have Hu:Hid (∀(V:World) (C:Int),Below w.heap.size w V->cu w dX [I 0,I C] (.returned (.tuple #[.agg #[Nl,Nl,Nl,Nl,I 0],I 0,I C])) V):=fun V C hV=>qN _ hV
 by_cases c:cT k sp=0
 · obtain⟨hR,Jg,hj,uu⟩:=pS c;obtain⟨j,hje⟩:∃j:Nat,sp=(j:Int):=⟨sp.toNat,by omega⟩;subst hje;rw[jz] at hj uu;have hsm:=qA hR hF;have xu:Hid (Calls Tryz.prog 76 #[.agg (bc a k),I (j:Int)] WA fun e w'=>∃mb,e=.returned (.tuple #[.pointer (some (Ad mb 0)),I 0])/\WA.heap.size<=mb/\w'.heap[mb]?=some (.cells (lQ a k) 158 (0,0))/\Below WA.heap.size WA w'):=AG.o.mono fun e w' ⟨h1,h2⟩=>by
    grind
   obtain⟨pb,po,hpo,hpl,Us⟩:=hK.aj (by omega);obtain⟨va,ap,cp,v0,v1,v2,hha,hhp,_⟩:=Us j hj;have E7:=hha;obtain⟨aa,ca,H8,_⟩:=hha;subst H8;have hrm:=DZ k.aj k.aj.length;have hcc:=hR.c;have hA0:uC k (j:Int)=if k.aj.length=4 then (dX,0,2) else if eD k.aj+bh (ak k.aj j).aT>(k.slots.length:Int) then (dX,0,8) else (gM k j,(k.aj.length:Int),0):=by
    unfold uC
    grind
   rw[hA0];have hfit:=(hF.sp j hj).aT;have xf:∀{V:World},Below WA.heap.size WA V->Below w.heap.size w V:=fun hV=>hb0.trans (hV.mono hb0.size)
   have hji:(j:Int)<(k.aj.length:Int):=by omega
   have hsj:=hR.sp hj;have hek:∀n,n<(ak k.aj j).bf.length->((aX (ak k.aj j).bf n).kind=1->0<=(aX (ak k.aj j).bf n).loc/\(aX (ak k.aj j).bf n).loc<(k.frames.length:Int))/\((aX (ak k.aj j).bf n).kind≠1->0<=(aX (ak k.aj j).bf n).loc/\(aX (ak k.aj j).bf n).loc<(k.slots.length:Int)):=fun n hn=>by
    obtain⟨_,e2⟩:=hsj.Mq _ (jT (d:=gY) hn);rcases e2 with⟨e4,e5,e6⟩ | ⟨e4,e5,e6⟩
    · exact⟨fun _=>⟨e5,e6⟩,fun g=>absurd e4 g⟩
    · exact⟨fun g=>absurd (e4.symm.trans g) (by decide),fun _=>⟨e5,e6⟩⟩
   have hen:=ot hR hj;have har:=oC _ hsj.aT;have Yu:=fun n hn=>wA hR hj n hn
   obtain⟨sj,adI⟩:=ex (ak k.aj j);have PN:gM k j={ dY k sj.bf sj.bf.length with aj:=(dY k sj.bf sj.bf.length).aj++[sj] }:=by rw[adI];rfl
   rw[<- adI] at v0 v1 v2 E7 hhp hfit hek hen har uu Yu ⊢;obtain⟨lv,wU,sF⟩:=sj;simp only at v0 v1 v2 E7 hhp hfit hek hen har uu Yu PN;have HV:Hid (∀V,Below WA.heap.size WA V->V.cell? (Ad pb (po+j*3))=some (.bool lv)/\V.cell? (Ad pb (po+j*3+1))=some (.slice aa wU.length ca)/\V.cell? (Ad pb (po+j*3+2))=some (.slice ap sF.length cp)):=fun V hV=>⟨((xf hV).cell (p:=(Ad pb (po+j*3))) hpl).trans v0,((xf hV).cell (p:=(Ad pb (po+j*3+1))) hpl).trans v1,((xf hV).cell (p:=(Ad pb (po+j*3+2))) hpl).trans v2⟩
   have Ym:Hid (∀(V:World) mb,V.heap[mb]?=some (.cells (lQ a k) 158 (0,0))->V.cell? (Ad mb 3)=some (.slice (some (Ad pb po)) k.aj.length a.cP)):=fun V mb h=>by
    have:=aq (v:=.slice a.aP k.aj.length a.cP) h 3 rfl;rw[hpo] at this;omega
   have Gx:Hid (∀(V:World) mb,V.heap[mb]?=some (.cells (lQ a k) 158 (0,0))->V.cell? (Ad mb 2)=some (.slice a.aL k.slots.length a.cL)):=fun V mb h=>aq h 2 rfl
   by_cases c4:k.aj.length=4
   · rw[aB c4];have dB:=ai (fun V (h:Below w.heap.size w V)=>Hu.o V 2 h);obtain⟨P,hP⟩:=ex (cu w dX [I 0,I 2]);show Calls _ _ _ _ (cu w dX [I 0,I 2]);rw[<- hP] at dB ⊢;have c4i:(k.aj.length:Int)=4:=by omega
     unfold bc at xu sB ⊢;clear hK hF hsp hA0 c hP lu hb0 kb rb AG hR Jg hj Us v0 v1 v2 E7 hhp hfit hpo hcc hrm hsm c4 Hu adI PN hek hen har uu Yu hsj xf;go_enter Tryz.func261,Tryz.ntmps261;go_upto_region 1 with fail;rw[<- sB.o];go_upto_region 5 with(go_at_call 76;refine xu.o.mono ?_;rintro e w1 ⟨mb,rfl,ni,hm2,hb1⟩;have RG:=ai hm2;have cH:=ai hb1;have m3:=Ym.o _ _ hm2;obtain⟨u0,u1,u2⟩:=HV.o _ hb1;clear ni hm2 hb1)
     have mQ:=ai (cH.o.alloc cH.o.size (.cells #[.bool lv,.slice aa wU.length ca,.slice ap sF.length cp] 99));have B3:=ai (bB w1 #[.bool lv,.slice aa wU.length ca,.slice ap sF.length cp] 99);have M3:=ai (bk RG.o (.cells #[.bool lv,.slice aa wU.length ca,.slice ap sF.length cp] 99));have HMX:Hid (w1.heap.size≠mb):=(show w1.heap.size≠mb from fun e=>by have:=aJ RG.o;omega);obtain⟨W3,hW3⟩:=ex (w1.alloc (.cells #[.bool lv,.slice aa wU.length ca,.slice ap sF.length cp] 99));obtain⟨fb,Mo⟩:=ex w1.heap.size;rw[<- hW3] at mQ B3 M3 ⊢;rw[<- Mo] at B3 HMX ⊢;clear hW3 Mo m3 u0 u1 u2;have m3:=Ym.o _ _ M3.o;go_upto_region 6 with fail;have R1:=ai (RB.o _ mQ.o);have sQ:=ai (gB.o.trans (mQ.o.mono gB.o.size));obtain⟨y0,y1,y2,y3,y4⟩:=iT R1.o;have f0:=aO R1.o 0;have f1:=aO R1.o 1;have f2:=aO R1.o 2;have f3:=aO R1.o 3;have f4:=aO R1.o 4;have h5:=ai (fun V=>l9 R1.o Nl Nl Nl Nl (I 0) (V:=V));go_wp2;obtain⟨r1,r2⟩:=h5.out _ rfl;obtain⟨y0,y1,y2,y3,y4⟩:=iT r1;refine bI (v:=.tuple #[.agg #[Nl,Nl,Nl,Nl,I 0],I 0,I 2]) (by simp[results,Tryz.results261,go_sem,y0,y1,y2,y3,y4]) rfl ?_;exact dB.o _ (aC.below sQ.o r2 sQ.o.size (fun b e=>by omega))
   rw[au c4];have N0:Hid (∀V mb,Below WA.heap.size WA V->V.heap[mb]?=some (.cells (lQ a k) 158 (0,0))->Calls Tryz.prog 143 #[.pointer (some (Ad mb 0))] V fun e w'=>e=.returned (I (eD k.aj))/\Below V.heap.size V w'):=fun V mb hV hm=>D3 k.aj a.aP a.cP mb V (hK.aj.below (xf hV)) (fun i hi=>(hF.sp i hi).aT) (by omega) (aq hm 3 rfl)
   have HT1:Hid (∀V,Below WA.heap.size WA V->Calls Tryz.prog 70 #[.slice aa wU.length ca] V fun e w'=>e=.returned (I (bh wU))/\Below V.heap.size V w'):=fun V hV=>wQ _ _ V (E7.below (xf hV)) hfit
   have hd1:=qO wU;have c4i:¬(k.aj.length:Int)=4:=by omega
   by_cases cr:eD k.aj+bh wU>(k.slots.length:Int)
   · rw[aB cr];obtain⟨RM,hRM⟩:=ex (eD k.aj);obtain⟨T1,hT1⟩:=ex (bh wU);have alM:0<=RM/\RM<=65025*4:=by
      rw[hRM];unfold eD;omega
     rw[<- hT1] at hd1 HT1 cr;rw[<- hRM] at N0 cr;have dB:=ai (fun V (h:Below w.heap.size w V)=>Hu.o V 8 h);obtain⟨P,hP⟩:=ex (cu w dX [I 0,I 8]);show Calls _ _ _ _ (cu w dX [I 0,I 8]);rw[<- hP] at dB ⊢;have c2:(k.slots.length:Int)<RM+T1:=cr;unfold bc at xu sB ⊢;clear hK hF hsp hA0 c hP lu hb0 kb rb AG hR Jg hj Us v0 v1 v2 E7 hhp hfit hpo hcc hrm hsm c4 Hu adI PN hek hen har uu Yu hsj xf hRM hT1 cr;go_enter Tryz.func261,Tryz.ntmps261;go_upto_region 1 with fail;rw[<- sB.o];go_upto_region 5 with(go_at_call 76;refine xu.o.mono ?_;rintro e w1 ⟨mb,rfl,ni,hm2,hb1⟩;have RG:=ai hm2;have cH:=ai hb1;have m3:=Ym.o _ _ hm2;obtain⟨u0,u1,u2⟩:=HV.o _ hb1;clear ni hm2 hb1)
     have mQ:=ai (cH.o.alloc cH.o.size (.cells #[.bool lv,.slice aa wU.length ca,.slice ap sF.length cp] 99));have B3:=ai (bB w1 #[.bool lv,.slice aa wU.length ca,.slice ap sF.length cp] 99);have M3:=ai (bk RG.o (.cells #[.bool lv,.slice aa wU.length ca,.slice ap sF.length cp] 99));have HMX:Hid (w1.heap.size≠mb):=(show w1.heap.size≠mb from fun e=>by have:=aJ RG.o;omega);obtain⟨W3,hW3⟩:=ex (w1.alloc (.cells #[.bool lv,.slice aa wU.length ca,.slice ap sF.length cp] 99));obtain⟨fb,Mo⟩:=ex w1.heap.size;rw[<- hW3] at mQ B3 M3 ⊢;rw[<- Mo] at B3 HMX ⊢;clear hW3 Mo m3 u0 u1 u2;have m3:=Ym.o _ _ M3.o;go_upto_region 7 with fail;have CM:=jt W3;have q1:∀x:dW W3.heap.size W3,x.world.cell? (Ad fb 1)=some (.slice aa wU.length ca):=fun x=>aq (aN B3.o x.keeps (aJ B3.o)) 1 rfl
     have q2:∀x:dW W3.heap.size W3,x.world.cell? (Ad mb 2)=some (.slice a.aL k.slots.length a.cL):=fun x=>Gx.o _ _ (aN M3.o x.keeps (aJ M3.o))
     have MT:=ai (fun V (hV:Below W3.heap.size W3 V)=>N0.o V mb (mQ.o.trans (hV.mono mQ.o.size)) (aN M3.o hV (aJ M3.o)));have MQ:=ai (fun V (hV:Below W3.heap.size W3 V)=>HT1.o V (mQ.o.trans (hV.mono mQ.o.size)));clear m3;refine dA (by kernel_rfl) (by kernel_rfl) ?_
     repeat (first | go_big_quiet_step ((first | (go_at_call 143;exact gw _ MT.o) | (go_at_call 70;exact gw _ MQ.o))) | quiet_step ((first | (go_at_call 143;exact gw _ MT.o) | (go_at_call 70;exact gw _ MQ.o))))
     refine jo ?_;rintro _ ⟨X,rfl⟩;have jm:=ai (mQ.o.trans (X.keeps.mono mQ.o.size));have R1:=ai (RB.o _ jm.o);have sQ:=ai (gB.o.trans (jm.o.mono gB.o.size));obtain⟨y0,y1,y2,y3,y4⟩:=iT R1.o;have f0:=aO R1.o 0;have f1:=aO R1.o 1;have f2:=aO R1.o 2;have f3:=aO R1.o 3;have f4:=aO R1.o 4;have h5:=ai (fun V=>l9 R1.o Nl Nl Nl Nl (I 0) (V:=V));go_wp2;obtain⟨r1,r2⟩:=h5.out _ rfl;obtain⟨y0,y1,y2,y3,y4⟩:=iT r1;refine bI (v:=.tuple #[.agg #[Nl,Nl,Nl,Nl,I 0],I 0,I 8]) (by simp[results,Tryz.results261,go_sem,y0,y1,y2,y3,y4]) rfl ?_;exact dB.o _ (aC.below sQ.o r2 sQ.o.size (fun b e=>by omega))
   rw[au cr];have HOW:Hid (∀V mb,Below WA.heap.size WA V->WA.heap.size<=mb->V.heap[mb]?=some (.cells (lQ a k) 158 (0,0))->Calls Tryz.prog 267 #[.pointer (some (Ad mb 0))] V fun e w'=>e=.returned (.tuple #[])/\∃S hs,cA k.aM hs/\bJ WA.heap.size mb 158 (iq k) w' S (aU k hs)/\(∀b,S.lab b≠.no->b=mb∨V.heap.size<=b)/\aC (fun b=>b=mb) V w'):=fun V mb hV ni hm2=>DT Hi k a mb V (hK.below (xf hV)) hsm hm2 WA.heap.size ni
   have yF:Hid (∀V n,Below WA.heap.size WA V->n<sF.length->∃eb eo,ap=some (Ad eb eo)/\V.cell? (Ad eb (eo+n*3))=some (I (aX sF n).page)/\V.cell? (Ad eb (eo+n*3+1))=some (I (aX sF n).kind)/\V.cell? (Ad eb (eo+n*3+2))=some (I (aX sF n).loc)):=fun V n hV hn=>by
    obtain⟨eb,eo,e1,e2,e3⟩:=(hhp.below (xf hV)) (by omega);have z0:=e3 n hn 0 (by omega);rw[mF] at z0;exact⟨eb,eo,e1,z0,e3 n hn 1 (by omega),e3 n hn 2 (by omega)⟩
   have HCT:Hid (∀V S mb hs n,n<sF.length->bJ WA.heap.size mb 158 (iq k) V S (aU (dY k sF n) hs)->Calls Tryz.prog 270 #[.pointer (some (Ad mb 0)),.agg #[I (aX sF n).page,I (aX sF n).kind,I (aX sF n).loc],I 1] V fun e w'=>e=.returned (.tuple #[])/\bJ WA.heap.size mb 158 (iq k) w' S (aU (dY k sF (n+1)) hs)/\cK S V S w'):=fun V S mb hs n hn hV=>by
    have hp:=Yu n (by omega);have hbd:=Y4 hR hj adI n (JV hn);refine(DY (aU (dY k sF n) hs) S V (aX sF n) 1 hV (fun g=>?_) (fun g=>?_) (.inl rfl) ⟨fun g=>?_,fun g=>?_⟩).mono fun e w' ⟨h1,h2,h3⟩=>⟨h1,?_,h3⟩
    · show _/\_<((dY k sF n).frames.length:Int);rw[hp.2.2.2.1];exact(hek n hn).1 g
    · show _/\_<((dY k sF n).slots.length:Int);rw[hp.2.2.2.2.1];exact(hek n hn).2 g
    · exact hbd.1 _ (by have:=(hek n hn).1 g;omega)
    · exact hbd.2 _ (by have:=(hek n hn).2 g;omega)
    · rw[Gg] at h2;exact h2
   have HSH:Hid (∀n,n<=sF.length->(dY k sF n).aj.length=k.aj.length):=fun n hn=>by rw[(Yu n hn).2.2.1]
   have HSK:Hid ((gM k j).aM=k.aM/\(gM k j).hand=k.hand/\(gM k j).aj.length=k.aj.length+1):=by
    have hp:=Yu sF.length (aD _);rw[PN];refine⟨hp.1,hp.2.1,?_⟩;show((dY k sF sF.length).aj++[_]).length=_;rw[fM,hp.2.2.1];rfl
   have HFK:Hid (∀hs,aU (gM k j) hs={ aU (dY k sF sF.length) hs with aj:=(aU (dY k sF sF.length) hs).aj++[⟨lv,wU,sF⟩] }):=fun hs=>by rw[PN];rfl
   have HHA:Hid (∀V,Below WA.heap.size WA V->gD V (.slice aa wU.length ca) wU/\eB bw 3 gY V ap sF):=fun V hV=>⟨E7.below (xf hV),hhp.below (xf hV)⟩
   obtain⟨RM,hRM⟩:=ex (eD k.aj);obtain⟨T1,hT1⟩:=ex (bh wU);have alM:0<=RM/\RM<=65025*4:=by
    rw[hRM];unfold eD;omega
   rw[<- hT1] at hd1 HT1 cr;rw[<- hRM] at N0 cr;obtain⟨P,hP⟩:=ex (cu w (gM k j) [I (k.aj.length:Int),I 0]);show Calls _ _ _ _ (cu w (gM k j) [I (k.aj.length:Int),I 0]);rw[<- hP];have HP:=ai hP;have c2:¬(k.slots.length:Int)<RM+T1:=cr;have auP:k.aj.length<=4:=by omega
   unfold bc at xu sB ⊢;clear hK hF hsp hA0 c hP lu hb0 kb rb AG hR Jg hj Us v0 v1 v2 E7 hhp hfit hpo hcc hrm hsm c4 Hu adI PN hek uu Yu hsj xf hRM hT1 cr Hi;go_enter Tryz.func261,Tryz.ntmps261;go_upto_region 1 with fail;rw[<- sB.o];go_upto_region 5 with(go_at_call 76;refine xu.o.mono ?_;rintro e w1 ⟨mb,rfl,ni,hm2,hb1⟩;have SC:=ai ni;have RG:=ai hm2;have cH:=ai hb1;have m3:=Ym.o _ _ hm2;obtain⟨u0,u1,u2⟩:=HV.o _ hb1;clear ni hm2 hb1)
   have mQ:=ai (cH.o.alloc cH.o.size (.cells #[.bool lv,.slice aa wU.length ca,.slice ap sF.length cp] 99));have B3:=ai (bB w1 #[.bool lv,.slice aa wU.length ca,.slice ap sF.length cp] 99);have M3:=ai (bk RG.o (.cells #[.bool lv,.slice aa wU.length ca,.slice ap sF.length cp] 99));have HMX:Hid (w1.heap.size≠mb):=(show w1.heap.size≠mb from fun e=>by have:=aJ RG.o;omega);obtain⟨W3,hW3⟩:=ex (w1.alloc (.cells #[.bool lv,.slice aa wU.length ca,.slice ap sF.length cp] 99));obtain⟨fb,Mo⟩:=ex w1.heap.size;rw[<- hW3] at mQ B3 M3 ⊢;rw[<- Mo] at B3 HMX ⊢;clear hW3 Mo m3 u0 u1 u2;have m3:=Ym.o _ _ M3.o;go_upto_region 7 with fail;have CM:=jt W3;have q1:∀x:dW W3.heap.size W3,x.world.cell? (Ad fb 1)=some (.slice aa wU.length ca):=fun x=>aq (aN B3.o x.keeps (aJ B3.o)) 1 rfl
   have q2:∀x:dW W3.heap.size W3,x.world.cell? (Ad mb 2)=some (.slice a.aL k.slots.length a.cL):=fun x=>Gx.o _ _ (aN M3.o x.keeps (aJ M3.o))
   have MT:=ai (fun V (hV:Below W3.heap.size W3 V)=>N0.o V mb (mQ.o.trans (hV.mono mQ.o.size)) (aN M3.o hV (aJ M3.o)));have MQ:=ai (fun V (hV:Below W3.heap.size W3 V)=>HT1.o V (mQ.o.trans (hV.mono mQ.o.size)));clear m3;refine dA (by kernel_rfl) (by kernel_rfl) ?_
   repeat (first | go_big_quiet_step ((first | (go_at_call 143;exact gw _ MT.o) | (go_at_call 70;exact gw _ MQ.o))) | quiet_step ((first | (go_at_call 143;exact gw _ MT.o) | (go_at_call 70;exact gw _ MQ.o))))
   refine jo ?_;rintro _ ⟨X,rfl⟩;have jm:=ai (mQ.o.trans (X.keeps.mono mQ.o.size));have MX:=ai (aN M3.o X.keeps (aJ M3.o));have BX:=ai (aN B3.o X.keeps (aJ B3.o));clear CM q2 q1 MT MQ N0 HT1;obtain⟨WX,hWX⟩:=ex X.world;rw[<- hWX] at jm MX BX ⊢;clear hWX;go_upto_region 10 with(go_at_call 267;refine(HOW.o _ _ jm.o SC.o MX.o).mono ?_;rintro e w4 ⟨rfl,S,hs,hs2,hk2,Mn,afr⟩;have sk:=ai hs2;have pq:=ai hk2;have TR:=ai Mn;have ais:=ai afr;clear hs2 hk2 Mn afr)
   have Cb:S.lab fb=.no:=zg.1 fun g=>by
    rcases TR.o fb g with e | e
    · exact HMX.o e
    · have:=aJ BX.o;omega
   have HNF:=ai Cb;have B4:=ai (ais.o.keep BX.o HMX.o);have amo:Below WA.heap.size WA w4:=aC.below jm.o ais.o jm.o.size (fun b e=>by have:=SC.o;omega);have sQ:=ai amo;have x2:w4.cell? (Ad fb 2)=some (.slice ap sF.length cp):=aq B4.o 2 rfl;have amT:Hid (∀V,aC (fun b=>S.lab b≠.no) w4 V->V.heap[fb]?=some (.cells #[.bool lv,.slice aa wU.length ca,.slice ap sF.length cp] 99 (0,0))/\Below WA.heap.size WA V):=fun V hV=>⟨hV.keep B4.o (fun g=>g HNF.o),aC.below sQ.o hV sQ.o.size (fun b hb=>(pq.o.yL b hb).1)⟩
   clear Cb amo;go_wp2;go_loopw [59] (fun iv wq=>∃n:Nat,n<=sF.length/\iv=I (n:Int)/\bJ WA.heap.size mb 158 (iq k) wq S (aU (dY k sF n) hs)/\aC (fun b=>S.lab b≠.no) w4 wq) (fun iv _=>sF.length-(intOf iv).toNat)
   case atStart=>exact⟨0,by omega,rfl,pq.o,aC.refl _ _⟩
   case round =>
    obtain⟨n,hn,rfl,rW,hkq⟩:=hrel;by_cases hlt:n<sF.length
    · have hni:(n:Int)<(sF.length:Int):=by omega
      obtain⟨Mo,hbq⟩:=amT.o wr hkq;obtain⟨eb,eo,hap,z0,z1,z2⟩:=yF.o wr n hbq hlt;have yG:Hid (Calls Tryz.prog 270 #[.pointer (some (Ad mb 0)),.agg #[I (aX sF n).page,I (aX sF n).kind,I (aX sF n).loc],I 1] (wr.alloc (.cells #[I (aX sF n).page,I (aX sF n).kind,I (aX sF n).loc] 174)) fun e w'=>e=.returned (.tuple #[])/\bJ WA.heap.size mb 158 (iq k) w' S (aU (dY k sF (n+1)) hs)/\aC (fun b=>S.lab b≠.no) w4 w'):=(HCT.o _ S mb hs n hlt (rW.below ((aK _ _).alloc (aD _) _))).mono fun e w' ⟨h1,h2,h3⟩=>⟨h1,h2,(hkq.trans (aC.alloc _ _ _) (fun _ _ g=>g)).trans h3.kp (fun _ _ g=>g)⟩
      obtain⟨en,amd⟩:=ex (aX sF n);rw[<- amd] at z0 z1 z2 yG;obtain⟨g1,g2,g3⟩:=en;simp only at z0 z1 z2 yG;subst hap;clear rW hkq Mo hbq amd HCT yF;go_wp2_with (go_at_call 270;refine yG.o.mono ?_;rintro e w5 ⟨rfl,h5,h6⟩;have HK5:=ai h5;have HP5:=ai h6;clear h5 h6)
      go_roundw
      case rel=>exact⟨n+1,by omega,by go_num,HK5.o,HP5.o⟩
      case measure=>simp[intOf];omega
    · obtain rfl:n=sF.length:=by omega
      obtain⟨Mo,hbq⟩:=amT.o wr hkq;obtain⟨bP,dP,eP,_⟩:=bg rW.aj;have hLl:S.L.length<=1000000:=by
       have:=rW.len;have e:(aU (dY k sF sF.length) hs).aj.length=k.aj.length:=HSH.o _ (aD _);omega
      have HLK:Hid (S.L.length=k.aj.length):=by
       have:=rW.len;have e:(aU (dY k sF sF.length) hs).aj.length=k.aj.length:=HSH.o _ (aD _);exact(show S.L.length=k.aj.length by omega)
      have Yi:Below wr.heap.size wr wr.drew:=(aK _ _).drew;have BD:wr.drew.heap[fb]?=some (.cells #[.bool lv,.slice aa wU.length ca,.slice ap sF.length cp] 99 (0,0)):=aN Mo Yi (aJ Mo);obtain⟨WD,hWD⟩:=ex wr.drew;rw[<- hWD] at Yi BD;have HWD:=ai hWD;have hkD:=rW.below Yi;have hlD:WA.heap.size<=WD.heap.size:=gu hbq.size Yi.size;have ahN:Below WA.heap.size WA WD:=hbq.trans (Yi.mono hbq.size);obtain⟨hh1,hh2⟩:=HHA.o WD ahN;have HCP:Hid (Calls Tryz.prog 135 #[.agg #[.bool lv,.slice aa wU.length ca,.slice ap sF.length cp]] WD fun e w'=>∃xa nx cx ya ny cy,e=.returned (.agg #[.bool lv,.slice xa nx cx,.slice ya ny cy])/\mX WD.heap.size w' ⟨lv,.slice xa nx cx,.slice ya ny cy⟩ ⟨lv,wU,sF⟩/\(∀b,bX (.slice ya ny cy) b->¬bX (.slice xa nx cx) b)/\Below WD.heap.size WD w'):=(Iy ⟨lv,wU,sF⟩ aa ap wU.length ca cp WD hh1 hh2 (by show wU.length<=_;omega) (by show sF.length<=_;omega)).mono fun e w' ⟨va,vp,h1,h2,h3,h4⟩=>by
       obtain⟨xa,cx,ex,_⟩:=bg h2.aT;obtain⟨ya,cy,ey,_⟩:=bg h2.aQ;have ex:va=_:=ex;have ey:vp=_:=ey;subst ex ey;exact⟨xa,_,cx,ya,_,cy,h1,h2,h3,h4⟩
      have akJ:Hid (∀V,aC (fun b=>bX S.vP b) WD V->V.cell? (Ad mb 3)=some (.slice bP S.L.length dP)/\V.cell? (Ad fb 0)=some (.bool lv)/\V.cell? (Ad fb 1)=some (.slice aa wU.length ca)/\V.cell? (Ad fb 2)=some (.slice ap sF.length cp)/\V.frozen? (Ad mb 3)=false):=fun V hV=>by
       have b1:=hV.keep hkD.head (fun g=>by have:=rW.lP _ g;rw[rW.lH] at this;simp at this);have b2:=hV.keep BD (fun g=>by have:=rW.lP _ g;rw[HNF.o] at this;simp at this);refine⟨?_,aq b2 0 rfl,aq b2 1 rfl,aq b2 2 rfl,aO b1 3⟩;rw[<- eP];exact aq b1 3 rfl
      have HRW:Hid (∀w2 o,Below WD.heap.size WD w2->(w2.alloc o).ownsRow WA.heap.size 99 3 (.slice bP S.L.length dP) S.L.length (S.L.flatMap gV)):=fun w2 o hb=>by
       have:=((aC.bZ (D:=fun _=>False) hb).trans (aC.alloc _ w2 o) (fun _ _ g=>g)).row hkD.aj (fun _ _ g=>g);rw[eP] at this;omega
      have HPU:Hid (∀w2 w4 O v' l,Below WD.heap.size WD w2->mX WD.heap.size w2 l ⟨lv,wU,sF⟩->(∀b,bX l.vp b->¬bX l.va b)->(w2.alloc O).grownBy w4 S.vP.ownBlock->w4.ownsRow WA.heap.size 99 3 v' (S.L.length+1) (S.L.flatMap gV++gV l)->(v'.ownBlock=S.vP.ownBlock∨v'.ownBlock=some (w2.alloc O).heap.size)->adl WA (w4.setCell (Ad mb 3) v') mb (gM k j) (iq k) v'):=fun w2 w4 O v' l h1 h2 h3 h4 h5 h6=>by
       have m1:=hkD.push hlD h1 h2 h3 h4 h5 h6;have m2:=m1.1;rw[<- HFK.o hs] at m2;exact⟨_,hs,by rw[HSK.o.1];exact sk.o,m2,rfl,aC.below ahN m1.2.2 ahN.size (fun b hb=>(hkD.yL b hb).1)⟩
      have HSP:Hid (∀w2,Below WD.heap.size WD w2->aC (fun b=>bX S.vP b) WD w2):=fun w2 h=>aC.bZ h
      have HEP:=ai eP;obtain⟨i0,hin,hz0,hz1,hz2⟩:=jy UA;have Eu:=ai hin;have Ia:=ai hz0;have E9:=ai hz1;have yZ:=ai hz2;clear rW hkD hkq hbq Mo hh1 hh2 hWD Yi BD eP hin hz0 hz1 hz2 ahN HCT yF;go_upto_region 15 with fail;refine xz (S:=fun V=>aC (fun b=>bX S.vP b) WD V) (z:=13) (by kernel_rfl) ?_;rw[<- HWD.o];have qc:=akJ;have nU:Hid (aC (fun b=>bX S.vP b) WD WD):=aC.refl _ _;refine iK 0 nU.o ?_ ?_ ?_;rotate_left 1
      · intro V h;obtain⟨k0,k1,k2,k3,k4⟩:=qc.o V h;go_simp
        try with_reducible rfl
      refine iK 1 nU.o ?_ ?_ ?_;rotate_left 1
      · intro V h;obtain⟨k0,k1,k2,k3,k4⟩:=qc.o V h;go_simp
        try with_reducible rfl
      refine iK 2 nU.o ?_ ?_ ?_;rotate_left 1
      · intro V h;obtain⟨k0,k1,k2,k3,k4⟩:=qc.o V h;go_simp
        try with_reducible rfl
      refine iK 3 nU.o ?_ ?_ ?_;rotate_left 1
      · intro V h;obtain⟨k0,k1,k2,k3,k4⟩:=qc.o V h;go_simp
        try with_reducible rfl
      refine iK 4 nU.o ?_ ?_ ?_;rotate_left 1
      · intro V h;obtain⟨k0,k1,k2,k3,k4⟩:=qc.o V h;go_simp
        try with_reducible rfl
      refine iK 5 nU.o ?_ ?_ ?_;rotate_left 1
      · intro V h;obtain⟨k0,k1,k2,k3,k4⟩:=qc.o V h;go_simp
        try with_reducible rfl
      refine iK 6 nU.o ?_ ?_ ?_;rotate_left 1
      · intro V h;obtain⟨k0,k1,k2,k3,k4⟩:=qc.o V h;go_simp
        try with_reducible rfl
      refine eH (rs:=[7]) (by kernel_rfl) (by simp) ?_;refine bo.cons rfl (fun K hK=>?_) bo.nil;rw[aB (by rfl)];go_simp;go_at_call 135;refine HCP.o.mono ?_;rintro e w6 ⟨xa,nx,cx,ya,ny,cy,rfl,hso,hap,hb2⟩;have HSO:=ai hso;have HAP:=ai hap;have gK:=ai hb2;have sL:=ai (HSP.o _ hb2);clear hso hap hb2;try go_simp;refine hK.out _ _ (fun _=>?_) ?_
      · exact sL.o
      clear hK K
      try simp only[Act.put,dJ,dE,dz]
      refine eH (rs:=[8]) (by kernel_rfl) (by simp) ?_;refine bo.cons rfl (fun K hK=>?_) bo.nil;go_simp;refine hK.out _ _ (fun _=>?_) ?_
      · exact sL.o.trans (aC.alloc _ _ _) (fun _ _ g=>g)
      clear hK K
      try simp only[Act.put,dJ,dE,dz]
      have ape:=gK.o.size;refine eH (rs:=[9]) (by kernel_rfl) (by simp) ?_;refine bo.cons rfl (fun K hK=>?_) bo.nil;rw[aB (by rfl)];refine qK (P:=Tryz.prog) _ _ 28 rfl WA.heap.size 99 i0 (.agg #[.bool false,Nl,Nl]) 3 56 Tryz.underlying28 Eu.o Ia.o E9.o yZ.o rfl (by decide) (.slice bP S.L.length dP) S.L.length (S.L.flatMap gV) rfl (HRW.o _ _ gK.o) (some (Ad w6.heap.size 0)) 1 1 (gV ⟨lv,.slice xa nx cx,.slice ya ny cy⟩) rfl rfl (fun _=>⟨_,rfl,Uz w6 _ _⟩) (by intro u hu;simp[gV] at hu;rcases hu with rfl | rfl | rfl <;> rfl) (by unfold maxLen;omega) (by omega) (by rw[gh];omega) ?_;intro vG wG hoG hgG haG;obtain⟨aG,cG,hvG,_,_⟩:=bg hoG;subst hvG;rw[<- HEP.o] at hgG haG;have TM:Hid (aC (fun b=>bX S.vP b) WD wG):=(sL.o.trans (aC.alloc _ _ _) (fun _ _ g=>g)).trans (aC.grown hgG (fun q hq=>hq)) (fun _ _ g=>g);have HPF:=ai (HPU.o w6 wG _ _ ⟨lv,.slice xa nx cx,.slice ya ny cy⟩ gK.o HSO.o HAP.o hgG hoG haG);clear hoG hgG haG;refine hK.out _ _ (fun _=>?_) ?_
      · exact TM.o
      clear hK K
      try simp only[Act.put,dJ,dE,dz]
      refine eH (rs:=[10]) (by kernel_rfl) (by simp) ?_;refine bo.cons rfl (fun K hK=>?_) bo.nil;go_simp;refine hK.out _ _ (fun _=>?_) ?_
      · exact TM.o
      clear hK K
      try simp only[Act.put,dJ,dE,dz]
      refine eH (rs:=[11]) (by kernel_rfl) (by simp) ?_;refine bo.cons rfl (fun K hK=>?_) bo.nil;go_simp;refine hK.out _ _ (fun _=>?_) ?_
      · exact TM.o
      clear hK K
      try simp only[Act.put,dJ,dE,dz]
      refine iK 12 TM.o ?_ ?_ ?_;rotate_left 1
      · intro V h;obtain⟨k0,k1,k2,k3,k4⟩:=qc.o V h;go_simp
        try with_reducible rfl
      obtain⟨k0,k1,k2,k3,k4⟩:=qc.o _ TM.o;refine eH (rs:=[13]) (by kernel_rfl) (by simp) ?_;refine bo.cons rfl (fun K hK=>?_) bo.nil;go_simp;refine hK.out _ _ (fun g=>absurd rfl g) ?_;refine rB (by kernel_rfl) ?_ _;clear k0 k1 k2 k3 k4;obtain⟨aS,nS,cS,aF,nF,cF,aL,nL,cL,hd,hcells,hr3,hfin⟩:=V9 HPF.o RB.o gB.o hrl [I (k.aj.length:Int),I 0];have yg:=ai hfin;have R3:=ai hr3;have I5:=ai hcells;obtain⟨W5,hW5⟩:=ex (wG.setCell (Ad mb 3) (.slice aG (S.L.length+1) cG));rw[<- hW5] at I5 R3 yg ⊢;clear hW5 hfin hr3 hcells;obtain⟨q0,q1,q2,q3,q4⟩:=I5.o;obtain⟨y0,y1,y2,y3,y4⟩:=iT R3.o;have f0:=aO R3.o 0;have f1:=aO R3.o 1;have f2:=aO R3.o 2;have f3:=aO R3.o 3;have f4:=aO R3.o 4;have h5:=ai (fun V=>l9 R3.o (.slice aS nS cS) (.slice aF nF cF) (.slice aL nL cL) (.slice aG (S.L.length+1) cG) (I hd) (V:=V));have Yy:¬mb=w.heap.size+1:=by have:=SC.o;omega
      have P9:¬w.heap.size+1=mb:=by omega
      go_upto_region 16 with fail;go_region;go_wp2;obtain⟨r1,r2⟩:=h5.out _ rfl;obtain⟨y0,y1,y2,y3,y4⟩:=iT (aN r1 (aK _ _).drew (aJ r1));refine bI (v:=.tuple #[.agg #[.slice aS nS cS,.slice aF nF cF,.slice aL nL cL,.slice aG (S.L.length+1) cG,I hd],I (S.L.length:Int),I 0]) (by simp[results,Tryz.results261,go_sem,y0,y1,y2,y3,y4]) rfl ?_;have e:(I (S.L.length:Int):Value)=I (k.aj.length:Int):=by rw[HLK.o]
      rw[e,HP.o];exact yg.o _ (r2.trans (aC.drew _ _) (fun _ _ g=>g))
 · have hA:uC k sp=(dX,0,cT k sp):=by grind [uC]
   rw[hA];have Rt:=ai (Bg AG.o c);obtain⟨C,hC2⟩:=ex (cT k sp);rw[<- hC2] at Rt c ⊢;have cb:(C != 0)=true:=by grind
   have dB:=ai (fun V (h:Below w.heap.size w V)=>Hu.o V C h);obtain⟨P,hP⟩:=ex (cu w dX [I 0,I C]);show Calls _ _ _ _ (cu w dX [I 0,I C]);rw[<- hP] at dB ⊢;unfold bc at Rt sB ⊢;clear hK hF hsp hA hC2 c hP lu hb0 kb rb AG Hu Hi;go_enter Tryz.func261,Tryz.ntmps261;go_upto_region 1 with fail;rw[<- sB.o];go_upto_region 3 with(go_at_call 76;refine Rt.o.mono ?_;rintro e w1 ⟨rfl,hb1⟩;have sQ:=ai (gB.o.trans (hb1.mono gB.o.size));have R1:=ai (RB.o _ hb1);clear hb1)
   obtain⟨y0,y1,y2,y3,y4⟩:=iT R1.o;have f0:=aO R1.o 0;have f1:=aO R1.o 1;have f2:=aO R1.o 2;have f3:=aO R1.o 3;have f4:=aO R1.o 4;have h5:=ai (fun V=>l9 R1.o Nl Nl Nl Nl (I 0) (V:=V));go_wp2;obtain⟨r1,r2⟩:=h5.out _ rfl;obtain⟨y0,y1,y2,y3,y4⟩:=iT r1;refine bI (v:=.tuple #[.agg #[Nl,Nl,Nl,Nl,I 0],I 0,I C]) (by simp[results,Tryz.results261,go_sem,y0,y1,y2,y3,y4]) rfl ?_;exact dB.o _ (aC.below sQ.o r2 sQ.o.size (fun b e=>by omega))
open Go.RowKit
variable {k:aR} {fl:List Bool} {j:Nat} {hs:List bG}
theorem LA (h:dn k fl) (hk:fl.getD j false=true) (s:cA k.aM hs):cT (aU k hs) (j:Int)=0:=by
 obtain⟨hj,hl⟩:=h.at_ hk;unfold cT;rw[aB (Rf h.right s),aB];exact⟨by omega,by show(j:Int)<(k.aj.length:Int);omega,hl⟩
theorem adr (h:dn k fl) (hk:fl.getD j false=true) (s:cA k.aM hs) {n way:Int} {ways:List Int} (h1:1<=n) (h8:n<=8) (hw:way∈ways):ja (aU k hs) (j:Int) n way ways=0:=by
 unfold ja;rw[au (fun g=>g (LA h hk s)),au (fun g=>g ⟨h1,h8⟩),aB hw]
def MO (k K k':aR) (hs:List bG) (ok:Prop):Prop:=(ok->K=aU k' hs/\k'.aM=k.aM)/\(¬ok->k'=k)
theorem ZI (h:dn k fl) (hk:fl.getD j false=true) (s:cA k.aM hs) (a n way:Int) (h1:1<=n) (h8:n<=8) (hw:way=0∨way=2) :
  ∃K,qz (aU k hs) (j:Int) a n way=(K,(gT k j a n way).1.1,(gT k j a n way).1.2,0)/\MO k K (gT k j a n way).2 hs ((gT k j a n way).1.2.1=0):=by
 obtain⟨hj,hl⟩:=h.at_ hk;unfold qz;rw[au (fun g=>g (adr h hk s h1 h8 (by simpa using hw)))];show ∃K,(if (bR (cX k j) a n way).1≠0 then _ else _)=_/\_;by_cases g:(bR (cX k j) a n way).1=0
 · rw[au (fun x=>x g),qR h1 h8 g];obtain⟨m1,m2,_⟩:=mn h1 h8 g;have R:=od h.right hj a n way m1 m2;have e:mi (aU k hs) j a n way=mi k j a n way:=by
    rw[xq h.right hj a n way m1 m2,xq (h.right.vJ s) hj a n way m1 m2];congr 1;funext p;exact Cn s j p
   refine⟨(aZ (aU k hs) j a n way).2,?_,fun _=>⟨?_,R.kept.aM⟩,fun x=>absurd rfl x⟩
   · show(_,mi (aU k hs) j a n way,_,_)=_;rw[e];rfl
   · rw[s8 h.right hj m1 s]
 · rw[aB g,tE h1 h8 g];exact⟨_,rfl,fun x=>absurd x g,fun _=>rfl⟩
theorem WZ (h:dn k fl) (hk:fl.getD j false=true) (s:cA k.aM hs) (a:Int) (d:ByteArray) (h1:1<=d.size) (h8:d.size<=8) :
  ∃K,py (aU k hs) (j:Int) a d=(K,(je k j a d).1,0)/\MO k K (je k j a d).2 hs ((je k j a d).1.1=0):=by
 obtain⟨hj,hl⟩:=h.at_ hk;unfold py;rw[au (fun g=>g (adr h hk s (by omega) (by omega) (by simp)))];show ∃K,(if (bR (cX k j) a d.size 1).1≠0 then _ else _)=_/\_;by_cases g:(bR (cX k j) a d.size 1).1=0
 · rw[au (fun x=>x g),rz g];obtain⟨m1,m2,_⟩:=mn (by omega) (by omega) g;have R:=wy h.right hj a d (by omega) (by omega) m1 m2;exact⟨lJ (aU k hs) j a d,rfl,fun _=>⟨FY h.right hj m1 s,R.aM⟩,fun x=>absurd rfl x⟩
 · rw[aB g,tD g];exact⟨_,rfl,fun x=>absurd x g,fun _=>rfl⟩
theorem Gp (h:dn k fl) (hk:fl.getD j false=true) (s:cA k.aM hs) (r:List aY×Int) :
  ∃K,iz (aU k hs) (j:Int) r=(K,(eG k j r).1)/\MO k K (eG k j r).2 hs ((eG k j r).1=0):=by
 obtain⟨hj,hl⟩:=h.at_ hk;have eA:iz (aU k hs) (j:Int) r=if r.2≠0 then (dX,r.2) else if eD k.aj-bh (cX k j)+bh r.1>(k.slots.length:Int) then (dX,8) else (gI (aU k hs) j r.1,0):=by
  unfold iz;rw[au (fun g=>g (LA h hk s))];rfl
 rw[eA];by_cases c:r.2=0
 · rw[au (fun g=>g c)];by_cases c2:eD k.aj-bh (cX k j)+bh r.1>(k.slots.length:Int)
   · have eM:eG k j r=(8,k):=by unfold eG;rw[au (fun g=>g c),aB c2]
     rw[aB c2,eM];exact⟨_,rfl,(fun x=>by cases x),fun _=>rfl⟩
   · have eM:eG k j r=(0,gI k j r.1):=by unfold eG;rw[au (fun g=>g c),au c2]
     rw[au c2,eM];exact⟨_,rfl,fun _=>⟨Gj k hs j r.1,(qE k hj r.1).1⟩,fun x=>absurd rfl x⟩
 · have eM:eG k j r=(r.2,k):=by unfold eG;rw[aB c]
   rw[aB c,eM];exact⟨_,rfl,fun x=>absurd x c,fun _=>rfl⟩
theorem ZK (h:dn k fl) (hk:fl.getD j false=true) (s:cA k.aM hs) :
  ∃K x,uC (aU k hs) (j:Int)=(K,x,(gz k j).1)/\MO k K (gz k j).2 hs ((gz k j).1=0):=by
 obtain⟨hj,hl⟩:=h.at_ hk;have eA:uC (aU k hs) (j:Int)=if k.aj.length=4 then (dX,0,2) else if eD k.aj+bh (cX k j)>(k.slots.length:Int) then (dX,0,8) else (gM (aU k hs) j,(k.aj.length:Int),0):=by
  unfold uC;rw[au (fun g=>g (LA h hk s))];rfl
 rw[eA];by_cases c:k.aj.length=4
 · have eM:gz k j=(2,k):=by unfold gz;rw[aB c]
   rw[aB c,eM];exact⟨_,_,rfl,(fun x=>by cases x),fun _=>rfl⟩
 rw[au c];by_cases c2:eD k.aj+bh (cX k j)>(k.slots.length:Int)
 · have eM:gz k j=(8,k):=by unfold gz;rw[au c,aB c2]
   rw[aB c2,eM];exact⟨_,_,rfl,(fun x=>by cases x),fun _=>rfl⟩
 · have eM:gz k j=(0,gM k j):=by unfold gz;rw[au c,au c2]
   rw[au c2,eM];exact⟨_,_,rfl,fun _=>⟨IK k hs j,(vD h.right hj).aM⟩,fun x=>absurd rfl x⟩
theorem ZM (h:dn k fl) (hk:fl.getD j false=true) (s:cA k.aM hs) :
  yr (aU k hs) (j:Int)=(aU (jE k j) hs,0)/\(jE k j).aM=k.aM:=by
 unfold yr;rw[au (fun g=>g (LA h hk s))];refine⟨by rw[show((j:Int).toNat)=j from rfl,IM],?_⟩;exact(mY k j (fun _=>true)).1
open Go.RowKit
theorem uD:rO:=fun k a w hK hs=>QP k a w hK hs
open Go.RowKit
theorem U5:(Tryz.prog.info? 77).map (fun i=>(i.zero,i.size,i.bytes))=some (some (.agg #[I 0,I 0,I 0,I 0,I 0,I 0,I 0,I 0,I 0,I 0,I 0,I 0,I 0]),13,104):=by kernel_rfl
theorem RX (ao:Option Addr) (n c:Nat) (xs:List Value) (w:World) (hl:xs.length=n*13) (h:mR w ao n xs) (h1:∀u∈xs,u.oneCell'=true) (hn:n<=1000000) :
  Calls Tryz.prog 94 #[.slice ao n c] w fun e w'=>∃v,e=.returned v/\w'.ownsRow w.heap.size 77 13 v n xs/\Below w.heap.size w w':=by
 have HH:=ai h;have HL:=ai hl;have H1:=ai h1;clear h hl h1;have q:∀(w:World) (a:Option Addr) (n c n' c':Nat),(binOp .eql 31 (.slice a n c) (.slice none n' c')).run Tryz.prog w=.ok (.bool a.isNone) w:=fun w a n c n' c'=>zi w _ _ a n c n' c' Tryz.underlying31
 obtain⟨i0,hin,hz0,hz1,hz2⟩:=jy U5;cases ao with
 | none =>
  have h0:n=0:=by
   by_cases g:0<n
   · obtain⟨ad,e,_⟩:=HH.o g;cases e
   · omega
  subst h0;have hx:xs=[]:=lj (by rw[HL.o]);subst hx;clear HH HL H1 hin hz0 hz1 hz2;go_enter Tryz.func94,Tryz.ntmps94;go_wp2;go_ret;exact⟨_,rfl,mG _ _ _ _,aK _ _⟩
 | some ad =>
  have Eu:=ai hin;have Ia:=ai hz0;have E9:=ai hz1;have yZ:=ai hz2;clear hin hz0 hz1 hz2;go_enter Tryz.func94,Tryz.ntmps94;go_wp2_with (at_builtin;refine fE (P:=Tryz.prog) rfl _ _ 31 rfl w.heap.size 77 i0 (.agg #[I 0,I 0,I 0,I 0,I 0,I 0,I 0,I 0,I 0,I 0,I 0,I 0,I 0]) 13 104 Tryz.underlying31 Eu.o Ia.o E9.o yZ.o rfl (by decide) (.slice (some (Ad w.heap.size 0)) 0 0) 0 [] (by rfl) (zh w #[] 0 (aD _) (by unfold maxLen;omega) (by simp)) (some ad) n c xs (by rfl) HL.o ((HH.o.below ((aK _ _).alloc (aD _) _))) H1.o (by unfold maxLen;omega) (by omega) (by simp) ?_;intro v' w' hown hgr hat;have HOWN:=ai hown;have MV:=ai hgr;clear hown hgr hat)
  go_ret;have hown:=HOWN.o;have hgr:=MV.o;rw[lZ] at hown;exact⟨_,rfl,hown,((aK _ _).alloc (aD _) _).grown hgr (by simp) (fun k hk=>by simp[Value.ownBlock] at hk;omega)⟩
theorem U4:(Tryz.prog.info? 91).map (fun i=>(i.zero,i.size,i.bytes))=some (some (.agg #[I 0,I 0]),2,16):=by kernel_rfl
theorem RV (ao:Option Addr) (n c:Nat) (xs:List Value) (w:World) (hl:xs.length=n*2) (h:mR w ao n xs) (h1:∀u∈xs,u.oneCell'=true) (hn:n<=1000000) :
  Calls Tryz.prog 95 #[.slice ao n c] w fun e w'=>∃v,e=.returned v/\w'.ownsRow w.heap.size 91 2 v n xs/\Below w.heap.size w w':=by
 have HH:=ai h;have HL:=ai hl;have H1:=ai h1;clear h hl h1;have q:∀(w:World) (a:Option Addr) (n c n' c':Nat),(binOp .eql 32 (.slice a n c) (.slice none n' c')).run Tryz.prog w=.ok (.bool a.isNone) w:=fun w a n c n' c'=>zi w _ _ a n c n' c' Tryz.underlying32
 obtain⟨i0,hin,hz0,hz1,hz2⟩:=jy U4;cases ao with
 | none =>
  have h0:n=0:=by
   by_cases g:0<n
   · obtain⟨ad,e,_⟩:=HH.o g;cases e
   · omega
  subst h0;have hx:xs=[]:=lj (by rw[HL.o]);subst hx;clear HH HL H1 hin hz0 hz1 hz2;go_enter Tryz.func95,Tryz.ntmps95;go_wp2;go_ret;exact⟨_,rfl,mG _ _ _ _,aK _ _⟩
 | some ad =>
  have Eu:=ai hin;have Ia:=ai hz0;have E9:=ai hz1;have yZ:=ai hz2;clear hin hz0 hz1 hz2;go_enter Tryz.func95,Tryz.ntmps95;go_wp2_with (at_builtin;refine fE (P:=Tryz.prog) rfl _ _ 32 rfl w.heap.size 91 i0 (.agg #[I 0,I 0]) 2 16 Tryz.underlying32 Eu.o Ia.o E9.o yZ.o rfl (by decide) (.slice (some (Ad w.heap.size 0)) 0 0) 0 [] (by rfl) (zh w #[] 0 (aD _) (by unfold maxLen;omega) (by simp)) (some ad) n c xs (by rfl) HL.o ((HH.o.below ((aK _ _).alloc (aD _) _))) H1.o (by unfold maxLen;omega) (by omega) (by simp) ?_;intro v' w' hown hgr hat;have HOWN:=ai hown;have MV:=ai hgr;clear hown hgr hat)
  go_ret;have hown:=HOWN.o;have hgr:=MV.o;rw[lZ] at hown;exact⟨_,rfl,hown,((aK _ _).alloc (aD _) _).grown hgr (by simp) (fun k hk=>by simp[Value.ownBlock] at hk;omega)⟩
end Go.Proofs.YtlgoihmkgaaemaaGreat
