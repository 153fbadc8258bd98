import Derived.Test.YtlgoihmkgaaemaaGreatGM26
import Derived.Test.YtlgoihmkgaaemaaGreatGM22
import Derived.Test.YtlgoihmkgaaemaaGreatGM24
set_option maxHeartbeats 20000000
set_option linter.unusedVariables false
set_option maxRecDepth 100000
set_option linter.unusedSimpArgs false
namespace Go.Proofs.YtlgoihmkgaaemaaGreat
open Go.RowKit
def uh (k:aR) (sp:Int):aR×Int×Int:=if fB k sp≠0 then (ed,0,fB k sp) else if k.aj.length=4 then (ed,0,2) else if dZ k.aj+bg (ak k.aj sp.toNat).aT>(k.slots.length:Int) then (ed,0,8) else (gD k sp.toNat,(k.aj.length:Int),0)
theorem Yn {k:aR} (hR:aY k) {j:Nat} (hj:j<k.aj.length) {s:cV} (hs:s=ak k.aj j) (n:Nat) (hn:n<=s.bf.length):(∀i,i<k.frames.length->-1000000<=(aD (dN k s.bf n).frames i).refs/\(aD (dN k s.bf n).frames i).refs<=1000000)/\(∀i,i<k.slots.length->-1000000<=(bE (dN k s.bf n).slots i).refs/\(bE (dN k s.bf n).slots i).refs<=1000000):=by
 subst hs;obtain⟨_,_,_,_,_,h6,h7⟩:=vM hR hj n hn;obtain⟨r1,r2⟩:=xW hR;have hen:=nW hR hj;have hl:∀(kd i:Int),(jK (ak k.aj j).aT kd i ((ak k.aj j).bf.take n)).length<=512:=fun kd i=>by
  grind [jK]
 refine⟨fun i hi=>?_,fun i hi=>?_⟩
 · rw[h6 i hi];have:=r1 i hi;have:=hl 1 i;show _<=(aD k.frames i).refs+_/\(aD k.frames i).refs+_<=_;omega
 · rw[h7 i hi];have:=r2 i hi;have:=hl 2 i;show _<=(bE k.slots i).refs+_/\(bE k.slots i).refs+_<=_;omega
def acF (WA W:World) (mb:Nat) (k:aR) (X:List Value) (v':Value):Prop:=∃S hs,cE k.aM hs/\bH WA.heap.size mb 158 X W S (aU k hs)/\S.vP=v'/\Below WA.heap.size WA W
theorem Vn {w WA W:World} {mb:Nat} {k:aR} {X:List Value} {aG:Option Addr} {nG cG:Nat} (h:acF WA W mb k X (.slice aG nG cG)) (hRB:∀V,Below WA.heap.size WA V->V.heap[w.heap.size+1]?=some (.cells #[Nl,Nl,Nl,Nl,I 0] 30 (0,0))) (hb0:Below w.heap.size w WA) (hrl:w.heap.size+1<WA.heap.size) (vs:List Value) :
  ∃aS nS cS aF nF cF aL nL cL hd,(W.cell? (Ad mb 0)=some (.slice aS nS cS)/\W.cell? (Ad mb 1)=some (.slice aF nF cF)/\W.cell? (Ad mb 2)=some (.slice aL nL cL)/\W.cell? (Ad mb 3)=some (.slice aG nG cG)/\W.cell? (Ad mb 4)=some (I hd))/\W.heap[w.heap.size+1]?=some (.cells #[Nl,Nl,Nl,Nl,I 0] 30 (0,0))/\∀U,aC (fun b=>b=w.heap.size+1) W U->b9 w k vs (.returned (.tuple (Value.agg #[.slice aS nS cS,.slice aF nF cF,.slice aL nL cL,.slice aG nG cG,I hd]::vs).toArray)) U:=by
 obtain⟨S,hs,hsame,rz,hv,hbl⟩:=h;obtain⟨aS,nS,cS,eS⟩:∃b n d,S.vS=.slice b n d:=by obtain⟨b,d,e,_⟩:=bh rz.aM;grind
 obtain⟨aF,nF,cF,eF⟩:∃b n d,S.vF=.slice b n d:=by obtain⟨b,d,e,_⟩:=bh rz.frames;grind
 obtain⟨aL,nL,cL,eL⟩:∃b n d,S.vL=.slice b n d:=by obtain⟨b,d,e,_⟩:=bh rz.slots;grind
 have wM:Below w.heap.size w W:=hb0.trans (hbl.mono hb0.size);refine⟨aS,nS,cS,aF,nF,cF,aL,nL,cL,_,⟨by grind [bH.c0],by grind [bH.c1],by grind [bH.c2],by grind [bH.c3],rz.c4⟩,hRB _ hbl,fun U hU=>⟨S,hs,hsame,by rw[eS,eF,eL,hv];rfl,(rz.toKr.kp hU (fun b hb e=>by have:=(rz.yq b hb).1;omega)).mono hb0.size,aC.below wM hU wM.size (fun b e=>by omega)⟩⟩
theorem Yq (GV:ra) (k:aR) (a:ja) (sp:Int) (w:World) (hK:jo w a k) (hF:o7 k) (hsp:cK sp) :
  Calls Tryz.prog 261 #[.agg (bc a k),I sp] w (b9 w (uh k sp).1 [I (uh k sp).2.1,I (uh k sp).2.2]):=by
 obtain⟨WA,mj⟩:=ex ((w.alloc (.cells (bc a k) 30)).alloc (.cells #[Nl,Nl,Nl,Nl,I 0] 30));have hb0:Below w.heap.size w WA:=by simp_all [aJ,pR]
 have kb:WA.heap[w.heap.size]?=some (.cells (bc a k) 30 (0,0)):=by grind [bl,bD]
 have rb:WA.heap[w.heap.size+1]?=some (.cells #[Nl,Nl,Nl,Nl,I 0] 30 (0,0)):=by
  grind [bD,World.size_alloc]
 have RB:Hid (∀V,Below WA.heap.size WA V->V.heap[w.heap.size+1]?=some (.cells #[Nl,Nl,Nl,Nl,I 0] 30 (0,0))):=fun V hb=>aN rb hb (aI rb)
 have k0:WA.cell? (Ad w.heap.size 0)=some (.slice a.aS k.aM.length a.cS):=aq kb 0 rfl;have k1:WA.cell? (Ad w.heap.size 1)=some (.slice a.aF k.frames.length a.cF):=aq kb 1 rfl;have k2:WA.cell? (Ad w.heap.size 2)=some (.slice a.aL k.slots.length a.cL):=aq kb 2 rfl;have k3:WA.cell? (Ad w.heap.size 3)=some (.slice a.aP k.aj.length a.cP):=aq kb 3 rfl;have k4:WA.cell? (Ad w.heap.size 4)=some (I k.hand):=aq kb 4 rfl;have se:=ai mj;have gG:=ai hb0;have hrl:=aI rb;have Ah:=ai (xX k a sp WA (hK.below hb0) hF hsp);have G8:Hid (∀(V:World) (C:Int),Below w.heap.size w V->b9 w ed [I 0,I C] (.returned (.tuple #[.agg #[Nl,Nl,Nl,Nl,I 0],I 0,I C])) V):=fun V C hV=>qw _ hV
 by_cases c:fB k sp=0
 · obtain⟨hR,IQ,hj,tX⟩:=rC c;obtain⟨j,hje⟩:∃j:Nat,sp=(j:Int):=⟨sp.toNat,by omega⟩;subst hje;rw[lD] at hj tX;have hsm:=sG hR hF;have wX:Hid (Calls Tryz.prog 76 #[.agg (bc a k),I (j:Int)] WA fun e w'=>∃mb,e=.returned (.tuple #[.pointer (some (Ad mb 0)),I 0])/\WA.heap.size<=mb/\w'.heap[mb]?=some (.cells (m9 a k) 158 (0,0))/\Below WA.heap.size WA w'):=Ah.o.mono fun e w' ⟨h1,h2⟩=>by
    grind
   obtain⟨pb,po,hpo,hpl,TI⟩:=hK.aj (by omega);obtain⟨va,ap,cp,v0,v1,v2,hha,Z7,_⟩:=TI j hj;have EO:=hha;obtain⟨aa,ca,IP,_⟩:=hha;subst IP;have hrm:=DF k.aj k.aj.length;have hcc:=hR.c;have hA0:uh k (j:Int)=if k.aj.length=4 then (ed,0,2) else if dZ k.aj+bg (ak k.aj j).aT>(k.slots.length:Int) then (ed,0,8) else (gD k j,(k.aj.length:Int),0):=by
    unfold uh
    grind
   rw[hA0];have hfit:=(hF.sp j hj).aT;have wM:∀{V:World},Below WA.heap.size WA V->Below w.heap.size w V:=fun hV=>hb0.trans (hV.mono hb0.size)
   have hji:(j:Int)<(k.aj.length:Int):=by omega
   have hsj:=hR.sp hj;have hek:∀n,n<(ak k.aj j).bf.length->((aV (ak k.aj j).bf n).kind=1->0<=(aV (ak k.aj j).bf n).loc/\(aV (ak k.aj j).bf n).loc<(k.frames.length:Int))/\((aV (ak k.aj j).bf n).kind≠1->0<=(aV (ak k.aj j).bf n).loc/\(aV (ak k.aj j).bf n).loc<(k.slots.length:Int)):=fun n hn=>by
    obtain⟨_,e2⟩:=hsj.ML _ (jL (d:=gY) hn);rcases e2 with⟨e4,e5,e6⟩ | ⟨e4,e5,e6⟩
    · exact⟨fun _=>⟨e5,e6⟩,fun g=>absurd e4 g⟩
    · exact⟨fun g=>absurd (e4.symm.trans g) (by decide),fun _=>⟨e5,e6⟩⟩
   have hen:=nW hR hj;have har:=oa _ hsj.aT;have Xw:=fun n hn=>vM hR hj n hn
   obtain⟨sj,ac1⟩:=ex (ak k.aj j);have Pg:gD k j={ dN k sj.bf sj.bf.length with aj:=(dN k sj.bf sj.bf.length).aj++[sj] }:=by rw[ac1];rfl
   rw[<- ac1] at v0 v1 v2 EO Z7 hfit hek hen har tX Xw ⊢;obtain⟨lv,wC,rO⟩:=sj;simp only at v0 v1 v2 EO Z7 hfit hek hen har tX Xw Pg;have HV:Hid (∀V,Below WA.heap.size WA V->V.cell? (Ad pb (po+j*3))=some (.bool lv)/\V.cell? (Ad pb (po+j*3+1))=some (.slice aa wC.length ca)/\V.cell? (Ad pb (po+j*3+2))=some (.slice ap rO.length cp)):=fun V hV=>⟨((wM hV).cell (p:=(Ad pb (po+j*3))) hpl).trans v0,((wM hV).cell (p:=(Ad pb (po+j*3+1))) hpl).trans v1,((wM hV).cell (p:=(Ad pb (po+j*3+2))) hpl).trans v2⟩
   have HM3:Hid (∀(V:World) mb,V.heap[mb]?=some (.cells (m9 a k) 158 (0,0))->V.cell? (Ad mb 3)=some (.slice (some (Ad pb po)) k.aj.length a.cP)):=fun V mb h=>by
    have:=aq (v:=.slice a.aP k.aj.length a.cP) h 3 rfl;rw[hpo] at this;omega
   have Jk:Hid (∀(V:World) mb,V.heap[mb]?=some (.cells (m9 a k) 158 (0,0))->V.cell? (Ad mb 2)=some (.slice a.aL k.slots.length a.cL)):=fun V mb h=>aq h 2 rfl
   by_cases c4:k.aj.length=4
   · rw[aB c4];have dm:=ai (fun V (h:Below w.heap.size w V)=>G8.o V 2 h);obtain⟨P,hP⟩:=ex (b9 w ed [I 0,I 2]);show Calls _ _ _ _ (b9 w ed [I 0,I 2]);rw[<- hP] at dm ⊢;have c4i:(k.aj.length:Int)=4:=by omega
     unfold bc at wX se ⊢;clear hK hF hsp hA0 c hP mj hb0 kb rb Ah hR IQ hj TI v0 v1 v2 EO Z7 hfit hpo hcc hrm hsm c4 G8 ac1 Pg hek hen har tX Xw hsj wM;go_enter Tryz.func261,Tryz.ntmps261;go_upto_region 1 with fail;rw[<- se.o];go_upto_region 5 with(go_at_call 76;refine wX.o.mono ?_;rintro e w1 ⟨mb,rfl,nC,hm2,hb1⟩;have QY:=ai hm2;have cM:=ai hb1;have m3:=HM3.o _ _ hm2;obtain⟨u0,u1,u2⟩:=HV.o _ hb1;clear nC hm2 hb1)
     have m7:=ai (cM.o.alloc cM.o.size (.cells #[.bool lv,.slice aa wC.length ca,.slice ap rO.length cp] 99));have B3:=ai (bD w1 #[.bool lv,.slice aa wC.length ca,.slice ap rO.length cp] 99);have M3:=ai (bl QY.o (.cells #[.bool lv,.slice aa wC.length ca,.slice ap rO.length cp] 99));have HMX:Hid (w1.heap.size≠mb):=(show w1.heap.size≠mb from fun e=>by have:=aI QY.o;omega);obtain⟨W3,hW3⟩:=ex (w1.alloc (.cells #[.bool lv,.slice aa wC.length ca,.slice ap rO.length cp] 99));obtain⟨fb,LU⟩:=ex w1.heap.size;rw[<- hW3] at m7 B3 M3 ⊢;rw[<- LU] at B3 HMX ⊢;clear hW3 LU m3 u0 u1 u2;have m3:=HM3.o _ _ M3.o;go_upto_region 6 with fail;have R1:=ai (RB.o _ m7.o);have sX:=ai (gG.o.trans (m7.o.mono gG.o.size));obtain⟨y0,y1,y2,y3,y4⟩:=iI R1.o;have f0:=aQ R1.o 0;have f1:=aQ R1.o 1;have f2:=aQ R1.o 2;have f3:=aQ R1.o 3;have f4:=aQ R1.o 4;have h5:=ai (fun V=>lV R1.o Nl Nl Nl Nl (I 0) (V:=V));go_wp2;obtain⟨r1,r2⟩:=h5.out _ rfl;obtain⟨y0,y1,y2,y3,y4⟩:=iI r1;refine bK (v:=.tuple #[.agg #[Nl,Nl,Nl,Nl,I 0],I 0,I 2]) (by simp[results,Tryz.results261,go_sem,y0,y1,y2,y3,y4]) rfl ?_;exact dm.o _ (aC.below sX.o r2 sX.o.size (fun b e=>by omega))
   rw[au c4];have Nv:Hid (∀V mb,Below WA.heap.size WA V->V.heap[mb]?=some (.cells (m9 a k) 158 (0,0))->Calls Tryz.prog 143 #[.pointer (some (Ad mb 0))] V fun e w'=>e=.returned (I (dZ k.aj))/\Below V.heap.size V w'):=fun V mb hV hm=>DG k.aj a.aP a.cP mb V (hK.aj.below (wM hV)) (fun i hi=>(hF.sp i hi).aT) (by omega) (aq hm 3 rfl)
   have HT1:Hid (∀V,Below WA.heap.size WA V->Calls Tryz.prog 70 #[.slice aa wC.length ca] V fun e w'=>e=.returned (I (bg wC))/\Below V.heap.size V w'):=fun V hV=>wu _ _ V (EO.below (wM hV)) hfit
   have hd1:=sH wC;have c4i:¬(k.aj.length:Int)=4:=by omega
   by_cases cr:dZ k.aj+bg wC>(k.slots.length:Int)
   · rw[aB cr];obtain⟨RM,hRM⟩:=ex (dZ k.aj);obtain⟨T1,hT1⟩:=ex (bg wC);have akK:0<=RM/\RM<=65025*4:=by
      rw[hRM];unfold dZ;omega
     rw[<- hT1] at hd1 HT1 cr;rw[<- hRM] at Nv cr;have dm:=ai (fun V (h:Below w.heap.size w V)=>G8.o V 8 h);obtain⟨P,hP⟩:=ex (b9 w ed [I 0,I 8]);show Calls _ _ _ _ (b9 w ed [I 0,I 8]);rw[<- hP] at dm ⊢;have c2:(k.slots.length:Int)<RM+T1:=cr;unfold bc at wX se ⊢;clear hK hF hsp hA0 c hP mj hb0 kb rb Ah hR IQ hj TI v0 v1 v2 EO Z7 hfit hpo hcc hrm hsm c4 G8 ac1 Pg hek hen har tX Xw hsj wM hRM hT1 cr;go_enter Tryz.func261,Tryz.ntmps261;go_upto_region 1 with fail;rw[<- se.o];go_upto_region 5 with(go_at_call 76;refine wX.o.mono ?_;rintro e w1 ⟨mb,rfl,nC,hm2,hb1⟩;have QY:=ai hm2;have cM:=ai hb1;have m3:=HM3.o _ _ hm2;obtain⟨u0,u1,u2⟩:=HV.o _ hb1;clear nC hm2 hb1)
     have m7:=ai (cM.o.alloc cM.o.size (.cells #[.bool lv,.slice aa wC.length ca,.slice ap rO.length cp] 99));have B3:=ai (bD w1 #[.bool lv,.slice aa wC.length ca,.slice ap rO.length cp] 99);have M3:=ai (bl QY.o (.cells #[.bool lv,.slice aa wC.length ca,.slice ap rO.length cp] 99));have HMX:Hid (w1.heap.size≠mb):=(show w1.heap.size≠mb from fun e=>by have:=aI QY.o;omega);obtain⟨W3,hW3⟩:=ex (w1.alloc (.cells #[.bool lv,.slice aa wC.length ca,.slice ap rO.length cp] 99));obtain⟨fb,LU⟩:=ex w1.heap.size;rw[<- hW3] at m7 B3 M3 ⊢;rw[<- LU] at B3 HMX ⊢;clear hW3 LU m3 u0 u1 u2;have m3:=HM3.o _ _ M3.o;go_upto_region 7 with fail;have Cv:=jh W3;have q1:∀x:dM W3.heap.size W3,x.world.cell? (Ad fb 1)=some (.slice aa wC.length ca):=fun x=>aq (aN B3.o x.keeps (aI B3.o)) 1 rfl
     have q2:∀x:dM W3.heap.size W3,x.world.cell? (Ad mb 2)=some (.slice a.aL k.slots.length a.cL):=fun x=>Jk.o _ _ (aN M3.o x.keeps (aI M3.o))
     have Mq:=ai (fun V (hV:Below W3.heap.size W3 V)=>Nv.o V mb (m7.o.trans (hV.mono m7.o.size)) (aN M3.o hV (aI M3.o)));have Mo:=ai (fun V (hV:Below W3.heap.size W3 V)=>HT1.o V (m7.o.trans (hV.mono m7.o.size)));clear m3;refine di (by kernel_rfl) (by kernel_rfl) ?_
     repeat (first | go_big_quiet_step ((first | (go_at_call 143;exact fW _ Mq.o) | (go_at_call 70;exact fW _ Mo.o))) | quiet_step ((first | (go_at_call 143;exact fW _ Mq.o) | (go_at_call 70;exact fW _ Mo.o))))
     refine jd ?_;rintro _ ⟨X,rfl⟩;have kX:=ai (m7.o.trans (X.keeps.mono m7.o.size));have R1:=ai (RB.o _ kX.o);have sX:=ai (gG.o.trans (kX.o.mono gG.o.size));obtain⟨y0,y1,y2,y3,y4⟩:=iI R1.o;have f0:=aQ R1.o 0;have f1:=aQ R1.o 1;have f2:=aQ R1.o 2;have f3:=aQ R1.o 3;have f4:=aQ R1.o 4;have h5:=ai (fun V=>lV R1.o Nl Nl Nl Nl (I 0) (V:=V));go_wp2;obtain⟨r1,r2⟩:=h5.out _ rfl;obtain⟨y0,y1,y2,y3,y4⟩:=iI r1;refine bK (v:=.tuple #[.agg #[Nl,Nl,Nl,Nl,I 0],I 0,I 8]) (by simp[results,Tryz.results261,go_sem,y0,y1,y2,y3,y4]) rfl ?_;exact dm.o _ (aC.below sX.o r2 sX.o.size (fun b e=>by omega))
   rw[au cr];have HOW:Hid (∀V mb,Below WA.heap.size WA V->WA.heap.size<=mb->V.heap[mb]?=some (.cells (m9 a k) 158 (0,0))->Calls Tryz.prog 267 #[.pointer (some (Ad mb 0))] V fun e w'=>e=.returned (.tuple #[])/\∃S hs,cE k.aM hs/\bH WA.heap.size mb 158 (ie k) w' S (aU k hs)/\(∀b,S.lab b≠.no->b=mb∨V.heap.size<=b)/\aC (fun b=>b=mb) V w'):=fun V mb hV nC hm2=>Dy GV k a mb V (hK.below (wM hV)) hsm hm2 WA.heap.size nC
   have Aj:Hid (∀V n,Below WA.heap.size WA V->n<rO.length->∃eb eo,ap=some (Ad eb eo)/\V.cell? (Ad eb (eo+n*3))=some (I (aV rO n).page)/\V.cell? (Ad eb (eo+n*3+1))=some (I (aV rO n).kind)/\V.cell? (Ad eb (eo+n*3+2))=some (I (aV rO n).loc)):=fun V n hV hn=>by
    obtain⟨eb,eo,e1,e2,e3⟩:=(Z7.below (wM hV)) (by omega);have z0:=e3 n hn 0 (by omega);rw[mA] at z0;exact⟨eb,eo,e1,z0,e3 n hn 1 (by omega),e3 n hn 2 (by omega)⟩
   have HCT:Hid (∀V S mb hs n,n<rO.length->bH WA.heap.size mb 158 (ie k) V S (aU (dN k rO n) hs)->Calls Tryz.prog 270 #[.pointer (some (Ad mb 0)),.agg #[I (aV rO n).page,I (aV rO n).kind,I (aV rO n).loc],I 1] V fun e w'=>e=.returned (.tuple #[])/\bH WA.heap.size mb 158 (ie k) w' S (aU (dN k rO (n+1)) hs)/\cI S V S w'):=fun V S mb hs n hn hV=>by
    have hp:=Xw n (by omega);have hbd:=Yn hR hj ac1 n (OE hn);refine(DD (aU (dN k rO n) hs) S V (aV rO n) 1 hV (fun g=>?_) (fun g=>?_) (.inl rfl) ⟨fun g=>?_,fun g=>?_⟩).mono fun e w' ⟨h1,h2,h3⟩=>⟨h1,?_,h3⟩
    · show _/\_<((dN k rO n).frames.length:Int);rw[hp.2.2.2.1];exact(hek n hn).1 g
    · show _/\_<((dN k rO n).slots.length:Int);rw[hp.2.2.2.2.1];exact(hek n hn).2 g
    · exact hbd.1 _ (by have:=(hek n hn).1 g;omega)
    · exact hbd.2 _ (by have:=(hek n hn).2 g;omega)
    · rw[FM] at h2;exact h2
   have HSH:Hid (∀n,n<=rO.length->(dN k rO n).aj.length=k.aj.length):=fun n hn=>by rw[(Xw n hn).2.2.1]
   have HSK:Hid ((gD k j).aM=k.aM/\(gD k j).hand=k.hand/\(gD k j).aj.length=k.aj.length+1):=by
    have hp:=Xw rO.length (aH _);rw[Pg];refine⟨hp.1,hp.2.1,?_⟩;show((dN k rO rO.length).aj++[_]).length=_;rw[fD,hp.2.2.1];rfl
   have HFK:Hid (∀hs,aU (gD k j) hs={ aU (dN k rO rO.length) hs with aj:=(aU (dN k rO rO.length) hs).aj++[⟨lv,wC,rO⟩] }):=fun hs=>by rw[Pg];rfl
   have HHA:Hid (∀V,Below WA.heap.size WA V->gu V (.slice aa wC.length ca) wC/\dW bw 3 gY V ap rO):=fun V hV=>⟨EO.below (wM hV),Z7.below (wM hV)⟩
   obtain⟨RM,hRM⟩:=ex (dZ k.aj);obtain⟨T1,hT1⟩:=ex (bg wC);have akK:0<=RM/\RM<=65025*4:=by
    rw[hRM];unfold dZ;omega
   rw[<- hT1] at hd1 HT1 cr;rw[<- hRM] at Nv cr;obtain⟨P,hP⟩:=ex (b9 w (gD k j) [I (k.aj.length:Int),I 0]);show Calls _ _ _ _ (b9 w (gD k j) [I (k.aj.length:Int),I 0]);rw[<- hP];have HP:=ai hP;have c2:¬(k.slots.length:Int)<RM+T1:=cr;have aut:k.aj.length<=4:=by omega
   unfold bc at wX se ⊢;clear hK hF hsp hA0 c hP mj hb0 kb rb Ah hR IQ hj TI v0 v1 v2 EO Z7 hfit hpo hcc hrm hsm c4 G8 ac1 Pg hek tX Xw hsj wM hRM hT1 cr GV;go_enter Tryz.func261,Tryz.ntmps261;go_upto_region 1 with fail;rw[<- se.o];go_upto_region 5 with(go_at_call 76;refine wX.o.mono ?_;rintro e w1 ⟨mb,rfl,nC,hm2,hb1⟩;have RO:=ai nC;have QY:=ai hm2;have cM:=ai hb1;have m3:=HM3.o _ _ hm2;obtain⟨u0,u1,u2⟩:=HV.o _ hb1;clear nC hm2 hb1)
   have m7:=ai (cM.o.alloc cM.o.size (.cells #[.bool lv,.slice aa wC.length ca,.slice ap rO.length cp] 99));have B3:=ai (bD w1 #[.bool lv,.slice aa wC.length ca,.slice ap rO.length cp] 99);have M3:=ai (bl QY.o (.cells #[.bool lv,.slice aa wC.length ca,.slice ap rO.length cp] 99));have HMX:Hid (w1.heap.size≠mb):=(show w1.heap.size≠mb from fun e=>by have:=aI QY.o;omega);obtain⟨W3,hW3⟩:=ex (w1.alloc (.cells #[.bool lv,.slice aa wC.length ca,.slice ap rO.length cp] 99));obtain⟨fb,LU⟩:=ex w1.heap.size;rw[<- hW3] at m7 B3 M3 ⊢;rw[<- LU] at B3 HMX ⊢;clear hW3 LU m3 u0 u1 u2;have m3:=HM3.o _ _ M3.o;go_upto_region 7 with fail;have Cv:=jh W3;have q1:∀x:dM W3.heap.size W3,x.world.cell? (Ad fb 1)=some (.slice aa wC.length ca):=fun x=>aq (aN B3.o x.keeps (aI B3.o)) 1 rfl
   have q2:∀x:dM W3.heap.size W3,x.world.cell? (Ad mb 2)=some (.slice a.aL k.slots.length a.cL):=fun x=>Jk.o _ _ (aN M3.o x.keeps (aI M3.o))
   have Mq:=ai (fun V (hV:Below W3.heap.size W3 V)=>Nv.o V mb (m7.o.trans (hV.mono m7.o.size)) (aN M3.o hV (aI M3.o)));have Mo:=ai (fun V (hV:Below W3.heap.size W3 V)=>HT1.o V (m7.o.trans (hV.mono m7.o.size)));clear m3;refine di (by kernel_rfl) (by kernel_rfl) ?_
   repeat (first | go_big_quiet_step ((first | (go_at_call 143;exact fW _ Mq.o) | (go_at_call 70;exact fW _ Mo.o))) | quiet_step ((first | (go_at_call 143;exact fW _ Mq.o) | (go_at_call 70;exact fW _ Mo.o))))
   refine jd ?_;rintro _ ⟨X,rfl⟩;have kX:=ai (m7.o.trans (X.keeps.mono m7.o.size));have MX:=ai (aN M3.o X.keeps (aI M3.o));have BX:=ai (aN B3.o X.keeps (aI B3.o));clear Cv q2 q1 Mq Mo Nv HT1;obtain⟨WX,hWX⟩:=ex X.world;rw[<- hWX] at kX MX BX ⊢;clear hWX;go_upto_region 10 with(go_at_call 267;refine(HOW.o _ _ kX.o RO.o MX.o).mono ?_;rintro e w4 ⟨rfl,S,hs,hs2,hk2,LS,aeL⟩;have rJ:=ai hs2;have pM:=ai hk2;have Mr:=ai LS;have ahz:=ai aeL;clear hs2 hk2 LS aeL)
   have Bt:S.lab fb=.no:=yM.1 fun g=>by
    rcases Mr.o fb g with e | e
    · exact HMX.o e
    · have:=aI BX.o;omega
   have HNF:=ai Bt;have B4:=ai (ahz.o.keep BX.o HMX.o);have alk:Below WA.heap.size WA w4:=aC.below kX.o ahz.o kX.o.size (fun b e=>by have:=RO.o;omega);have sX:=ai alk;have x2:w4.cell? (Ad fb 2)=some (.slice ap rO.length cp):=aq B4.o 2 rfl;have alQ:Hid (∀V,aC (fun b=>S.lab b≠.no) w4 V->V.heap[fb]?=some (.cells #[.bool lv,.slice aa wC.length ca,.slice ap rO.length cp] 99 (0,0))/\Below WA.heap.size WA V):=fun V hV=>⟨hV.keep B4.o (fun g=>g HNF.o),aC.below sX.o hV sX.o.size (fun b hb=>(pM.o.yq b hb).1)⟩
   clear Bt alk;go_wp2;go_loopw [59] (fun iv wq=>∃n:Nat,n<=rO.length/\iv=I (n:Int)/\bH WA.heap.size mb 158 (ie k) wq S (aU (dN k rO n) hs)/\aC (fun b=>S.lab b≠.no) w4 wq) (fun iv _=>rO.length-(intOf iv).toNat)
   case atStart=>exact⟨0,by omega,rfl,pM.o,aC.refl _ _⟩
   case round =>
    obtain⟨n,hn,rfl,rz,hkq⟩:=hrel;by_cases hlt:n<rO.length
    · have hni:(n:Int)<(rO.length:Int):=by omega
      obtain⟨LU,hbq⟩:=alQ.o wr hkq;obtain⟨eb,eo,hap,z0,z1,z2⟩:=Aj.o wr n hbq hlt;have yA:Hid (Calls Tryz.prog 270 #[.pointer (some (Ad mb 0)),.agg #[I (aV rO n).page,I (aV rO n).kind,I (aV rO n).loc],I 1] (wr.alloc (.cells #[I (aV rO n).page,I (aV rO n).kind,I (aV rO n).loc] 174)) fun e w'=>e=.returned (.tuple #[])/\bH WA.heap.size mb 158 (ie k) w' S (aU (dN k rO (n+1)) hs)/\aC (fun b=>S.lab b≠.no) w4 w'):=(HCT.o _ S mb hs n hlt (rz.below ((aJ _ _).alloc (aH _) _))).mono fun e w' ⟨h1,h2,h3⟩=>⟨h1,h2,(hkq.trans (aC.alloc _ _ _) (fun _ _ g=>g)).trans h3.kp (fun _ _ g=>g)⟩
      obtain⟨en,ak9⟩:=ex (aV rO n);rw[<- ak9] at z0 z1 z2 yA;obtain⟨g1,g2,g3⟩:=en;simp only at z0 z1 z2 yA;subst hap;clear rz hkq LU hbq ak9 HCT Aj;go_wp2_with (go_at_call 270;refine yA.o.mono ?_;rintro e w5 ⟨rfl,h5,h6⟩;have HK5:=ai h5;have HP5:=ai h6;clear h5 h6)
      go_roundw
      case rel=>exact⟨n+1,by omega,by go_num,HK5.o,HP5.o⟩
      case measure=>simp[intOf];omega
    · obtain rfl:n=rO.length:=by omega
      obtain⟨LU,hbq⟩:=alQ.o wr hkq;obtain⟨bP,dP,eP,_⟩:=bh rz.aj;have hLl:S.L.length<=1000000:=by
       have:=rz.len;have e:(aU (dN k rO rO.length) hs).aj.length=k.aj.length:=HSH.o _ (aH _);omega
      have HLK:Hid (S.L.length=k.aj.length):=by
       have:=rz.len;have e:(aU (dN k rO rO.length) hs).aj.length=k.aj.length:=HSH.o _ (aH _);exact(show S.L.length=k.aj.length by omega)
      have Xk:Below wr.heap.size wr wr.drew:=(aJ _ _).drew;have BD:wr.drew.heap[fb]?=some (.cells #[.bool lv,.slice aa wC.length ca,.slice ap rO.length cp] 99 (0,0)):=aN LU Xk (aI LU);obtain⟨WD,hWD⟩:=ex wr.drew;rw[<- hWD] at Xk BD;have HWD:=ai hWD;have hkD:=rz.below Xk;have hlD:WA.heap.size<=WD.heap.size:=gT hbq.size Xk.size;have agW:Below WA.heap.size WA WD:=hbq.trans (Xk.mono hbq.size);obtain⟨hh1,hh2⟩:=HHA.o WD agW;have HCP:Hid (Calls Tryz.prog 135 #[.agg #[.bool lv,.slice aa wC.length ca,.slice ap rO.length cp]] WD fun e w'=>∃xa nx cx ya ny cy,e=.returned (.agg #[.bool lv,.slice xa nx cx,.slice ya ny cy])/\mS WD.heap.size w' ⟨lv,.slice xa nx cx,.slice ya ny cy⟩ ⟨lv,wC,rO⟩/\(∀b,bW (.slice ya ny cy) b->¬bW (.slice xa nx cx) b)/\Below WD.heap.size WD w'):=(H4 ⟨lv,wC,rO⟩ aa ap wC.length ca cp WD hh1 hh2 (by show wC.length<=_;omega) (by show rO.length<=_;omega)).mono fun e w' ⟨va,vp,h1,h2,h3,h4⟩=>by
       obtain⟨xa,cx,ex,_⟩:=bh h2.aT;obtain⟨ya,cy,ey,_⟩:=bh h2.aO;have ex:va=_:=ex;have ey:vp=_:=ey;subst ex ey;exact⟨xa,_,cx,ya,_,cy,h1,h2,h3,h4⟩
      have ajT:Hid (∀V,aC (fun b=>bW S.vP b) WD V->V.cell? (Ad mb 3)=some (.slice bP S.L.length dP)/\V.cell? (Ad fb 0)=some (.bool lv)/\V.cell? (Ad fb 1)=some (.slice aa wC.length ca)/\V.cell? (Ad fb 2)=some (.slice ap rO.length cp)/\V.frozen? (Ad mb 3)=false):=fun V hV=>by
       have b1:=hV.keep hkD.head (fun g=>by have:=rz.lP _ g;rw[rz.lH] at this;simp at this);have b2:=hV.keep BD (fun g=>by have:=rz.lP _ g;rw[HNF.o] at this;simp at this);refine⟨?_,aq b2 0 rfl,aq b2 1 rfl,aq b2 2 rfl,aQ b1 3⟩;rw[<- eP];exact aq b1 3 rfl
      have HRW:Hid (∀w2 o,Below WD.heap.size WD w2->(w2.alloc o).ownsRow WA.heap.size 99 3 (.slice bP S.L.length dP) S.L.length (S.L.flatMap gK)):=fun w2 o hb=>by
       have:=((aC.bY (D:=fun _=>False) hb).trans (aC.alloc _ w2 o) (fun _ _ g=>g)).row hkD.aj (fun _ _ g=>g);rw[eP] at this;omega
      have HPU:Hid (∀w2 w4 O v' l,Below WD.heap.size WD w2->mS WD.heap.size w2 l ⟨lv,wC,rO⟩->(∀b,bW l.vp b->¬bW l.va b)->(w2.alloc O).grownBy w4 S.vP.ownBlock->w4.ownsRow WA.heap.size 99 3 v' (S.L.length+1) (S.L.flatMap gK++gK l)->(v'.ownBlock=S.vP.ownBlock∨v'.ownBlock=some (w2.alloc O).heap.size)->acF WA (w4.setCell (Ad mb 3) v') mb (gD k j) (ie k) v'):=fun w2 w4 O v' l h1 h2 h3 h4 h5 h6=>by
       have m1:=hkD.push hlD h1 h2 h3 h4 h5 h6;have m2:=m1.1;rw[<- HFK.o hs] at m2;exact⟨_,hs,by rw[HSK.o.1];exact rJ.o,m2,rfl,aC.below agW m1.2.2 agW.size (fun b hb=>(hkD.yq b hb).1)⟩
      have HSP:Hid (∀w2,Below WD.heap.size WD w2->aC (fun b=>bW S.vP b) WD w2):=fun w2 h=>aC.bY h
      have HEP:=ai eP;obtain⟨i0,hin,hz0,hz1,hz2⟩:=jm TS;have Ed:=ai hin;have Hh:=ai hz0;have FU:=ai hz1;have yH:=ai hz2;clear rz hkD hkq hbq LU hh1 hh2 hWD Xk BD eP hin hz0 hz1 hz2 agW HCT Aj;go_upto_region 15 with fail;refine xe (S:=fun V=>aC (fun b=>bW S.vP b) WD V) (z:=13) (by kernel_rfl) ?_;rw[<- HWD.o];have qu:=ajT;have oh:Hid (aC (fun b=>bW S.vP b) WD WD):=aC.refl _ _;refine iE 0 oh.o ?_ ?_ ?_;rotate_left 1
      · intro V h;obtain⟨k0,k1,k2,k3,k4⟩:=qu.o V h;go_simp
        try with_reducible rfl
      refine iE 1 oh.o ?_ ?_ ?_;rotate_left 1
      · intro V h;obtain⟨k0,k1,k2,k3,k4⟩:=qu.o V h;go_simp
        try with_reducible rfl
      refine iE 2 oh.o ?_ ?_ ?_;rotate_left 1
      · intro V h;obtain⟨k0,k1,k2,k3,k4⟩:=qu.o V h;go_simp
        try with_reducible rfl
      refine iE 3 oh.o ?_ ?_ ?_;rotate_left 1
      · intro V h;obtain⟨k0,k1,k2,k3,k4⟩:=qu.o V h;go_simp
        try with_reducible rfl
      refine iE 4 oh.o ?_ ?_ ?_;rotate_left 1
      · intro V h;obtain⟨k0,k1,k2,k3,k4⟩:=qu.o V h;go_simp
        try with_reducible rfl
      refine iE 5 oh.o ?_ ?_ ?_;rotate_left 1
      · intro V h;obtain⟨k0,k1,k2,k3,k4⟩:=qu.o V h;go_simp
        try with_reducible rfl
      refine iE 6 oh.o ?_ ?_ ?_;rotate_left 1
      · intro V h;obtain⟨k0,k1,k2,k3,k4⟩:=qu.o V h;go_simp
        try with_reducible rfl
      refine eu (rs:=[7]) (by kernel_rfl) (by simp) ?_;refine bo.cons rfl (fun K hK=>?_) bo.nil;rw[aB (by rfl)];go_simp;go_at_call 135;refine HCP.o.mono ?_;rintro e w6 ⟨xa,nx,cx,ya,ny,cy,rfl,hso,hap,hb2⟩;have HSO:=ai hso;have HAP:=ai hap;have gP:=ai hb2;have si:=ai (HSP.o _ hb2);clear hso hap hb2;try go_simp;refine hK.out _ _ (fun _=>?_) ?_
      · exact si.o
      clear hK K
      try simp only[Act.put,dC,dw,dh]
      refine eu (rs:=[8]) (by kernel_rfl) (by simp) ?_;refine bo.cons rfl (fun K hK=>?_) bo.nil;go_simp;refine hK.out _ _ (fun _=>?_) ?_
      · exact si.o.trans (aC.alloc _ _ _) (fun _ _ g=>g)
      clear hK K
      try simp only[Act.put,dC,dw,dh]
      have an5:=gP.o.size;refine eu (rs:=[9]) (by kernel_rfl) (by simp) ?_;refine bo.cons rfl (fun K hK=>?_) bo.nil;rw[aB (by rfl)];refine qo (P:=Tryz.prog) _ _ 28 rfl WA.heap.size 99 i0 (.agg #[.bool false,Nl,Nl]) 3 56 Tryz.underlying28 Ed.o Hh.o FU.o yH.o rfl (by decide) (.slice bP S.L.length dP) S.L.length (S.L.flatMap gK) rfl (HRW.o _ _ gP.o) (some (Ad w6.heap.size 0)) 1 1 (gK ⟨lv,.slice xa nx cx,.slice ya ny cy⟩) rfl rfl (fun _=>⟨_,rfl,TR w6 _ _⟩) (by intro u hu;simp[gK] at hu;rcases hu with rfl | rfl | rfl <;> rfl) (by unfold maxLen;omega) (by omega) (by rw[fM];omega) ?_;intro vG wG hoG hgG haG;obtain⟨aG,cG,hvG,_,_⟩:=bh hoG;subst hvG;rw[<- HEP.o] at hgG haG;have S8:Hid (aC (fun b=>bW S.vP b) WD wG):=(si.o.trans (aC.alloc _ _ _) (fun _ _ g=>g)).trans (aC.grown hgG (fun q hq=>hq)) (fun _ _ g=>g);have HPF:=ai (HPU.o w6 wG _ _ ⟨lv,.slice xa nx cx,.slice ya ny cy⟩ gP.o HSO.o HAP.o hgG hoG haG);clear hoG hgG haG;refine hK.out _ _ (fun _=>?_) ?_
      · exact S8.o
      clear hK K
      try simp only[Act.put,dC,dw,dh]
      refine eu (rs:=[10]) (by kernel_rfl) (by simp) ?_;refine bo.cons rfl (fun K hK=>?_) bo.nil;go_simp;refine hK.out _ _ (fun _=>?_) ?_
      · exact S8.o
      clear hK K
      try simp only[Act.put,dC,dw,dh]
      refine eu (rs:=[11]) (by kernel_rfl) (by simp) ?_;refine bo.cons rfl (fun K hK=>?_) bo.nil;go_simp;refine hK.out _ _ (fun _=>?_) ?_
      · exact S8.o
      clear hK K
      try simp only[Act.put,dC,dw,dh]
      refine iE 12 S8.o ?_ ?_ ?_;rotate_left 1
      · intro V h;obtain⟨k0,k1,k2,k3,k4⟩:=qu.o V h;go_simp
        try with_reducible rfl
      obtain⟨k0,k1,k2,k3,k4⟩:=qu.o _ S8.o;refine eu (rs:=[13]) (by kernel_rfl) (by simp) ?_;refine bo.cons rfl (fun K hK=>?_) bo.nil;go_simp;refine hK.out _ _ (fun g=>absurd rfl g) ?_;refine qO (by kernel_rfl) ?_ _;clear k0 k1 k2 k3 k4;obtain⟨aS,nS,cS,aF,nF,cF,aL,nL,cL,hd,hcells,hr3,hfin⟩:=Vn HPF.o RB.o gG.o hrl [I (k.aj.length:Int),I 0];have Ai:=ai hfin;have R3:=ai hr3;have Oj:=ai hcells;obtain⟨W5,hW5⟩:=ex (wG.setCell (Ad mb 3) (.slice aG (S.L.length+1) cG));rw[<- hW5] at Oj R3 Ai ⊢;clear hW5 hfin hr3 hcells;obtain⟨q0,q1,q2,q3,q4⟩:=Oj.o;obtain⟨y0,y1,y2,y3,y4⟩:=iI R3.o;have f0:=aQ R3.o 0;have f1:=aQ R3.o 1;have f2:=aQ R3.o 2;have f3:=aQ R3.o 3;have f4:=aQ R3.o 4;have h5:=ai (fun V=>lV R3.o (.slice aS nS cS) (.slice aF nF cF) (.slice aL nL cL) (.slice aG (S.L.length+1) cG) (I hd) (V:=V));have XE:¬mb=w.heap.size+1:=by have:=RO.o;omega
      have Pz:¬w.heap.size+1=mb:=by omega
      go_upto_region 16 with fail;go_region;go_wp2;obtain⟨r1,r2⟩:=h5.out _ rfl;obtain⟨y0,y1,y2,y3,y4⟩:=iI (aN r1 (aJ _ _).drew (aI r1));refine bK (v:=.tuple #[.agg #[.slice aS nS cS,.slice aF nF cF,.slice aL nL cL,.slice aG (S.L.length+1) cG,I hd],I (S.L.length:Int),I 0]) (by simp[results,Tryz.results261,go_sem,y0,y1,y2,y3,y4]) rfl ?_;have e:(I (S.L.length:Int):Value)=I (k.aj.length:Int):=by rw[HLK.o]
      rw[e,HP.o];exact Ai.o _ (r2.trans (aC.drew _ _) (fun _ _ g=>g))
 · have hA:uh k sp=(ed,0,fB k sp):=by grind [uh]
   rw[hA];have QU:=ai (AQ Ah.o c);obtain⟨C,hC2⟩:=ex (fB k sp);rw[<- hC2] at QU c ⊢;have cb:(C != 0)=true:=by grind
   have dm:=ai (fun V (h:Below w.heap.size w V)=>G8.o V C h);obtain⟨P,hP⟩:=ex (b9 w ed [I 0,I C]);show Calls _ _ _ _ (b9 w ed [I 0,I C]);rw[<- hP] at dm ⊢;unfold bc at QU se ⊢;clear hK hF hsp hA hC2 c hP mj hb0 kb rb Ah G8 GV;go_enter Tryz.func261,Tryz.ntmps261;go_upto_region 1 with fail;rw[<- se.o];go_upto_region 3 with(go_at_call 76;refine QU.o.mono ?_;rintro e w1 ⟨rfl,hb1⟩;have sX:=ai (gG.o.trans (hb1.mono gG.o.size));have R1:=ai (RB.o _ hb1);clear hb1)
   obtain⟨y0,y1,y2,y3,y4⟩:=iI R1.o;have f0:=aQ R1.o 0;have f1:=aQ R1.o 1;have f2:=aQ R1.o 2;have f3:=aQ R1.o 3;have f4:=aQ R1.o 4;have h5:=ai (fun V=>lV R1.o Nl Nl Nl Nl (I 0) (V:=V));go_wp2;obtain⟨r1,r2⟩:=h5.out _ rfl;obtain⟨y0,y1,y2,y3,y4⟩:=iI r1;refine bK (v:=.tuple #[.agg #[Nl,Nl,Nl,Nl,I 0],I 0,I C]) (by simp[results,Tryz.results261,go_sem,y0,y1,y2,y3,y4]) rfl ?_;exact dm.o _ (aC.below sX.o r2 sX.o.size (fun b e=>by omega))
open Go.RowKit
variable {k:aR} {fl:List Bool} {j:Nat} {hs:List bG}
theorem K8 (h:dO k fl) (hk:fl.getD j false=true) (s:cE k.aM hs):fB (aU k hs) (j:Int)=0:=by
 obtain⟨hj,hl⟩:=h.at_ hk;unfold fB;rw[aB (QK h.right s),aB];exact⟨by omega,by show(j:Int)<(k.aj.length:Int);omega,hl⟩
theorem acL (h:dO k fl) (hk:fl.getD j false=true) (s:cE k.aM hs) {n way:Int} {ways:List Int} (h1:1<=n) (h8:n<=8) (hw:way∈ways):iP (aU k hs) (j:Int) n way ways=0:=by
 unfold iP;rw[au (fun g=>g (K8 h hk s)),au (fun g=>g ⟨h1,h8⟩),aB hw]
def Mm (k K k':aR) (hs:List bG) (ok:Prop):Prop:=(ok->K=aU k' hs/\k'.aM=k.aM)/\(¬ok->k'=k)
theorem Y2 (h:dO k fl) (hk:fl.getD j false=true) (s:cE k.aM hs) (a n way:Int) (h1:1<=n) (h8:n<=8) (hw:way=0∨way=2) :
  ∃K,qa (aU k hs) (j:Int) a n way=(K,(gI k j a n way).1.1,(gI k j a n way).1.2,0)/\Mm k K (gI k j a n way).2 hs ((gI k j a n way).1.2.1=0):=by
 obtain⟨hj,hl⟩:=h.at_ hk;unfold qa;rw[au (fun g=>g (acL h hk s h1 h8 (by simpa using hw)))];show ∃K,(if (bN (cY k j) a n way).1≠0 then _ else _)=_/\_;by_cases g:(bN (cY k j) a n way).1=0
 · rw[au (fun x=>x g),qz h1 h8 g];obtain⟨m1,m2,_⟩:=l8 h1 h8 g;have R:=nT h.right hj a n way m1 m2;have e:l5 (aU k hs) j a n way=l5 k j a n way:=by
    rw[wV h.right hj a n way m1 m2,wV (h.right.xR s) hj a n way m1 m2];congr 1;funext p;exact Ia s j p
   refine⟨(aZ (aU k hs) j a n way).2,?_,fun _=>⟨?_,R.kept.aM⟩,fun x=>absurd rfl x⟩
   · show(_,l5 (aU k hs) j a n way,_,_)=_;rw[e];rfl
   · rw[sL h.right hj m1 s]
 · rw[aB g,sW h1 h8 g];exact⟨_,rfl,fun x=>absurd x g,fun _=>rfl⟩
theorem VZ (h:dO k fl) (hk:fl.getD j false=true) (s:cE k.aM hs) (a:Int) (d:ByteArray) (h1:1<=d.size) (h8:d.size<=8) :
  ∃K,oQ (aU k hs) (j:Int) a d=(K,(iV k j a d).1,0)/\Mm k K (iV k j a d).2 hs ((iV k j a d).1.1=0):=by
 obtain⟨hj,hl⟩:=h.at_ hk;unfold oQ;rw[au (fun g=>g (acL h hk s (by omega) (by omega) (by simp)))];show ∃K,(if (bN (cY k j) a d.size 1).1≠0 then _ else _)=_/\_;by_cases g:(bN (cY k j) a d.size 1).1=0
 · rw[au (fun x=>x g),qL g];obtain⟨m1,m2,_⟩:=l8 (by omega) (by omega) g;have R:=vK h.right hj a d (by omega) (by omega) m1 m2;exact⟨ll (aU k hs) j a d,rfl,fun _=>⟨Fv h.right hj m1 s,R.aM⟩,fun x=>absurd rfl x⟩
 · rw[aB g,sV g];exact⟨_,rfl,fun x=>absurd x g,fun _=>rfl⟩
theorem FV (h:dO k fl) (hk:fl.getD j false=true) (s:cE k.aM hs) (r:List aX×Int) :
  ∃K,iq (aU k hs) (j:Int) r=(K,(ek k j r).1)/\Mm k K (ek k j r).2 hs ((ek k j r).1=0):=by
 obtain⟨hj,hl⟩:=h.at_ hk;have eA:iq (aU k hs) (j:Int) r=if r.2≠0 then (ed,r.2) else if dZ k.aj-bg (cY k j)+bg r.1>(k.slots.length:Int) then (ed,8) else (gA (aU k hs) j r.1,0):=by
  unfold iq;rw[au (fun g=>g (K8 h hk s))];rfl
 rw[eA];by_cases c:r.2=0
 · rw[au (fun g=>g c)];by_cases c2:dZ k.aj-bg (cY k j)+bg r.1>(k.slots.length:Int)
   · have eM:ek k j r=(8,k):=by unfold ek;rw[au (fun g=>g c),aB c2]
     rw[aB c2,eM];exact⟨_,rfl,(fun x=>by cases x),fun _=>rfl⟩
   · have eM:ek k j r=(0,gA k j r.1):=by unfold ek;rw[au (fun g=>g c),au c2]
     rw[au c2,eM];exact⟨_,rfl,fun _=>⟨FP k hs j r.1,(qg k hj r.1).1⟩,fun x=>absurd rfl x⟩
 · have eM:ek k j r=(r.2,k):=by unfold ek;rw[aB c]
   rw[aB c,eM];exact⟨_,rfl,fun x=>absurd x c,fun _=>rfl⟩
theorem Y4 (h:dO k fl) (hk:fl.getD j false=true) (s:cE k.aM hs) :
  ∃K x,uh (aU k hs) (j:Int)=(K,x,(gm k j).1)/\Mm k K (gm k j).2 hs ((gm k j).1=0):=by
 obtain⟨hj,hl⟩:=h.at_ hk;have eA:uh (aU k hs) (j:Int)=if k.aj.length=4 then (ed,0,2) else if dZ k.aj+bg (cY k j)>(k.slots.length:Int) then (ed,0,8) else (gD (aU k hs) j,(k.aj.length:Int),0):=by
  unfold uh;rw[au (fun g=>g (K8 h hk s))];rfl
 rw[eA];by_cases c:k.aj.length=4
 · have eM:gm k j=(2,k):=by unfold gm;rw[aB c]
   rw[aB c,eM];exact⟨_,_,rfl,(fun x=>by cases x),fun _=>rfl⟩
 rw[au c];by_cases c2:dZ k.aj+bg (cY k j)>(k.slots.length:Int)
 · have eM:gm k j=(8,k):=by unfold gm;rw[au c,aB c2]
   rw[aB c2,eM];exact⟨_,_,rfl,(fun x=>by cases x),fun _=>rfl⟩
 · have eM:gm k j=(0,gD k j):=by unfold gm;rw[au c,au c2]
   rw[au c2,eM];exact⟨_,_,rfl,fun _=>⟨Ij k hs j,(uW h.right hj).aM⟩,fun x=>absurd rfl x⟩
theorem Y6 (h:dO k fl) (hk:fl.getD j false=true) (s:cE k.aM hs) :
  xV (aU k hs) (j:Int)=(aU (js k j) hs,0)/\(js k j).aM=k.aM:=by
 unfold xV;rw[au (fun g=>g (K8 h hk s))];refine⟨by rw[show((j:Int).toNat)=j from rfl,Il],?_⟩;exact(mU k j (fun _=>true)).1
open Go.RowKit
theorem vI:ra:=fun k a w hK hs=>Qo k a w hK hs
open Go.RowKit
theorem Uh:(Tryz.prog.info? 77).map (fun i=>(i.zero,i.size,i.bytes))=some (some (.agg #[I 0,I 0,I 0,I 0,I 0,I 0,I 0,I 0,I 0,I 0,I 0,I 0,I 0]),13,104):=by kernel_rfl
theorem abP (ao:Option Addr) (n c:Nat) (xs:List Value) (w:World) (hl:xs.length=n*13) (h:mO w ao n xs) (h1:∀u∈xs,u.oneCell'=true) (hn:n<=1000000) :
  Calls Tryz.prog 94 #[.slice ao n c] w fun e w'=>∃v,e=.returned v/\w'.ownsRow w.heap.size 77 13 v n xs/\Below w.heap.size w w':=by
 have HH:=ai h;have HL:=ai hl;have H1:=ai h1;clear h hl h1;have q:∀(w:World) (a:Option Addr) (n c n' c':Nat),(binOp .eql 31 (.slice a n c) (.slice none n' c')).run Tryz.prog w=.ok (.bool a.isNone) w:=fun w a n c n' c'=>yO w _ _ a n c n' c' Tryz.underlying31
 obtain⟨i0,hin,hz0,hz1,hz2⟩:=jm Uh;cases ao with
 | none =>
  have h0:n=0:=by
   by_cases g:0<n
   · obtain⟨ad,e,_⟩:=HH.o g;cases e
   · omega
  subst h0;have hx:xs=[]:=kT (by rw[HL.o]);subst hx;clear HH HL H1 hin hz0 hz1 hz2;go_enter Tryz.func94,Tryz.ntmps94;go_wp2;go_ret;exact⟨_,rfl,mC _ _ _ _,aJ _ _⟩
 | some ad =>
  have Ed:=ai hin;have Hh:=ai hz0;have FU:=ai hz1;have yH:=ai hz2;clear hin hz0 hz1 hz2;go_enter Tryz.func94,Tryz.ntmps94;go_wp2_with (at_builtin;refine fq (P:=Tryz.prog) rfl _ _ 31 rfl w.heap.size 77 i0 (.agg #[I 0,I 0,I 0,I 0,I 0,I 0,I 0,I 0,I 0,I 0,I 0,I 0,I 0]) 13 104 Tryz.underlying31 Ed.o Hh.o FU.o yH.o rfl (by decide) (.slice (some (Ad w.heap.size 0)) 0 0) 0 [] (by rfl) (yN w #[] 0 (aH _) (by unfold maxLen;omega) (by simp)) (some ad) n c xs (by rfl) HL.o ((HH.o.below ((aJ _ _).alloc (aH _) _))) H1.o (by unfold maxLen;omega) (by omega) (by simp) ?_;intro v' w' hown hgr hat;have HOWN:=ai hown;have Mt:=ai hgr;clear hown hgr hat)
  go_ret;have hown:=HOWN.o;have hgr:=Mt.o;rw[lO] at hown;exact⟨_,rfl,hown,((aJ _ _).alloc (aH _) _).grown hgr (by simp) (fun k hk=>by simp[Value.ownBlock] at hk;omega)⟩
theorem Ug:(Tryz.prog.info? 91).map (fun i=>(i.zero,i.size,i.bytes))=some (some (.agg #[I 0,I 0]),2,16):=by kernel_rfl
theorem abM (ao:Option Addr) (n c:Nat) (xs:List Value) (w:World) (hl:xs.length=n*2) (h:mO w ao n xs) (h1:∀u∈xs,u.oneCell'=true) (hn:n<=1000000) :
  Calls Tryz.prog 95 #[.slice ao n c] w fun e w'=>∃v,e=.returned v/\w'.ownsRow w.heap.size 91 2 v n xs/\Below w.heap.size w w':=by
 have HH:=ai h;have HL:=ai hl;have H1:=ai h1;clear h hl h1;have q:∀(w:World) (a:Option Addr) (n c n' c':Nat),(binOp .eql 32 (.slice a n c) (.slice none n' c')).run Tryz.prog w=.ok (.bool a.isNone) w:=fun w a n c n' c'=>yO w _ _ a n c n' c' Tryz.underlying32
 obtain⟨i0,hin,hz0,hz1,hz2⟩:=jm Ug;cases ao with
 | none =>
  have h0:n=0:=by
   by_cases g:0<n
   · obtain⟨ad,e,_⟩:=HH.o g;cases e
   · omega
  subst h0;have hx:xs=[]:=kT (by rw[HL.o]);subst hx;clear HH HL H1 hin hz0 hz1 hz2;go_enter Tryz.func95,Tryz.ntmps95;go_wp2;go_ret;exact⟨_,rfl,mC _ _ _ _,aJ _ _⟩
 | some ad =>
  have Ed:=ai hin;have Hh:=ai hz0;have FU:=ai hz1;have yH:=ai hz2;clear hin hz0 hz1 hz2;go_enter Tryz.func95,Tryz.ntmps95;go_wp2_with (at_builtin;refine fq (P:=Tryz.prog) rfl _ _ 32 rfl w.heap.size 91 i0 (.agg #[I 0,I 0]) 2 16 Tryz.underlying32 Ed.o Hh.o FU.o yH.o rfl (by decide) (.slice (some (Ad w.heap.size 0)) 0 0) 0 [] (by rfl) (yN w #[] 0 (aH _) (by unfold maxLen;omega) (by simp)) (some ad) n c xs (by rfl) HL.o ((HH.o.below ((aJ _ _).alloc (aH _) _))) H1.o (by unfold maxLen;omega) (by omega) (by simp) ?_;intro v' w' hown hgr hat;have HOWN:=ai hown;have Mt:=ai hgr;clear hown hgr hat)
  go_ret;have hown:=HOWN.o;have hgr:=Mt.o;rw[lO] at hown;exact⟨_,rfl,hown,((aJ _ _).alloc (aH _) _).grown hgr (by simp) (fun k hk=>by simp[Value.ownBlock] at hk;omega)⟩
end Go.Proofs.YtlgoihmkgaaemaaGreat
