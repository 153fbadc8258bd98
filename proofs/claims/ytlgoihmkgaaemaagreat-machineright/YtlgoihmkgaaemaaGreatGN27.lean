import Derived.Test.YtlgoihmkgaaemaaGreatGN26
import Derived.Test.YtlgoihmkgaaemaaGreatGN22
import Derived.Test.YtlgoihmkgaaemaaGreatGN24
set_option maxHeartbeats 20000000
set_option linter.unusedVariables false
set_option maxRecDepth 100000
set_option linter.unusedSimpArgs false
namespace Go.Proofs.YtlgoihmkgaaemaaGreat
open Go.RowKit
def uw (k:aT) (sp:Int):aT×Int×Int:=if fI k sp≠0 then (eG,0,fI k sp) else if k.aj.length=4 then (eG,0,2) else if eB k.aj+bh (ak k.aj sp.toNat).aU>(k.slots.length:Int) then (eG,0,8) else (gJ k sp.toNat,(k.aj.length:Int),0)
theorem YO {k:aT} (hR:aZ k) {j:Nat} (hj:j<k.aj.length) {s:cY} (hs:s=ak k.aj j) (n:Nat) (hn:n<=s.bc.length):(∀i,i<k.frames.length->-1000000<=(aH (dX k s.bc n).frames i).refs/\(aH (dX k s.bc n).frames i).refs<=1000000)/\(∀i,i<k.slots.length->-1000000<=(bH (dX k s.bc n).slots i).refs/\(bH (dX k s.bc n).slots i).refs<=1000000):=by
 subst hs;obtain⟨_,_,_,_,_,h6,h7⟩:=wj hR hj n hn;obtain⟨r1,r2⟩:=yq hR;have hen:=og hR hj;have hl:∀(kd i:Int),(jO (ak k.aj j).aU kd i ((ak k.aj j).bc.take n)).length<=512:=fun kd i=>by
  grind [jO]
 refine⟨fun i hi=>?_,fun i hi=>?_⟩
 · rw[h6 i hi];have:=r1 i hi;have:=hl 1 i;show _<=(aH k.frames i).refs+_/\(aH k.frames i).refs+_<=_;omega
 · rw[h7 i hi];have:=r2 i hi;have:=hl 2 i;show _<=(bH k.slots i).refs+_/\(bH k.slots i).refs+_<=_;omega
def adf (WA W:World) (mb:Nat) (k:aT) (X:List Value) (v':Value):Prop:=∃S hs,cC k.aM hs/\bK WA.heap.size mb 158 X W S (aV k hs)/\S.vP=v'/\Below WA.heap.size WA W
theorem VI {w WA W:World} {mb:Nat} {k:aT} {X:List Value} {aG:Option Addr} {nG cG:Nat} (h:adf WA W mb k X (.slice aG nG cG)) (hRB:∀V,Below WA.heap.size WA V->V.heap[w.heap.size+1]?=some (.cells #[Nl,Nl,Nl,Nl,I 0] 30 (0,0))) (hb0:Below w.heap.size w WA) (hrl:w.heap.size+1<WA.heap.size) (vs:List Value) :
  ∃aS nS cS aF nF cF aL nL cL hd,(W.cell? (Ad mb 0)=some (.slice aS nS cS)/\W.cell? (Ad mb 1)=some (.slice aF nF cF)/\W.cell? (Ad mb 2)=some (.slice aL nL cL)/\W.cell? (Ad mb 3)=some (.slice aG nG cG)/\W.cell? (Ad mb 4)=some (I hd))/\W.heap[w.heap.size+1]?=some (.cells #[Nl,Nl,Nl,Nl,I 0] 30 (0,0))/\∀U,aD (fun b=>b=w.heap.size+1) W U->cA w k vs (.returned (.tuple (Value.agg #[.slice aS nS cS,.slice aF nF cF,.slice aL nL cL,.slice aG nG cG,I hd]::vs).toArray)) U:=by
 obtain⟨S,hs,hsame,rN,hv,hbl⟩:=h;obtain⟨aS,nS,cS,eS⟩:∃b n d,S.vS=.slice b n d:=by obtain⟨b,d,e,_⟩:=bj rN.aM;grind
 obtain⟨aF,nF,cF,eF⟩:∃b n d,S.vF=.slice b n d:=by obtain⟨b,d,e,_⟩:=bj rN.frames;grind
 obtain⟨aL,nL,cL,eL⟩:∃b n d,S.vL=.slice b n d:=by obtain⟨b,d,e,_⟩:=bj rN.slots;grind
 have wY:Below w.heap.size w W:=hb0.trans (hbl.mono hb0.size);refine⟨aS,nS,cS,aF,nF,cF,aL,nL,cL,_,⟨by grind [bK.c0],by grind [bK.c1],by grind [bK.c2],by grind [bK.c3],rN.c4⟩,hRB _ hbl,fun U hU=>⟨S,hs,hsame,by rw[eS,eF,eL,hv];rfl,(rN.toKr.kp hU (fun b hb e=>by have:=(rN.yJ b hb).1;omega)).mono hb0.size,aD.below wY hU wY.size (fun b e=>by omega)⟩⟩
theorem YR (E8:rG) (k:aT) (a:jc) (sp:Int) (w:World) (hK:jd w a k) (hF:nu k) (hsp:cO sp) :
  Calls Tryz.prog 261 #[.agg (bg a k),I sp] w (cA w (uw k sp).1 [I (uw k sp).2.1,I (uw k sp).2.2]):=by
 obtain⟨WA,lO⟩:=ex ((w.alloc (.cells (bg a k) 30)).alloc (.cells #[Nl,Nl,Nl,Nl,I 0] 30));have hb0:Below w.heap.size w WA:=by simp_all [aK,pZ]
 have kb:WA.heap[w.heap.size]?=some (.cells (bg a k) 30 (0,0)):=by grind [br,bE]
 have rb:WA.heap[w.heap.size+1]?=some (.cells #[Nl,Nl,Nl,Nl,I 0] 30 (0,0)):=by
  grind [bE,World.size_alloc]
 have RB:Hid (∀V,Below WA.heap.size WA V->V.heap[w.heap.size+1]?=some (.cells #[Nl,Nl,Nl,Nl,I 0] 30 (0,0))):=fun V hb=>aO rb hb (aJ rb)
 have k0:WA.cell? (Ad w.heap.size 0)=some (.slice a.aS k.aM.length a.cS):=au kb 0 rfl;have k1:WA.cell? (Ad w.heap.size 1)=some (.slice a.aF k.frames.length a.cF):=au kb 1 rfl;have k2:WA.cell? (Ad w.heap.size 2)=some (.slice a.aL k.slots.length a.cL):=au kb 2 rfl;have k3:WA.cell? (Ad w.heap.size 3)=some (.slice a.aP k.aj.length a.cP):=au kb 3 rfl;have k4:WA.cell? (Ad w.heap.size 4)=some (I k.hand):=au kb 4 rfl;have se:=ai lO;have gK:=ai hb0;have hrl:=aJ rb;have Ax:=ai (yr k a sp WA (hK.below hb0) hF hsp);have Ef:Hid (∀(V:World) (C:Int),Below w.heap.size w V->cA w eG [I 0,I C] (.returned (.tuple #[.agg #[Nl,Nl,Nl,Nl,I 0],I 0,I C])) V):=fun V C hV=>qH _ hV
 by_cases c:fI k sp=0
 · obtain⟨hR,Jb,hj,ui⟩:=rQ c;obtain⟨j,hje⟩:∃j:Nat,sp=(j:Int):=⟨sp.toNat,by omega⟩;subst hje;rw[lM] at hj ui;have hsm:=sS hR hF;have xq:Hid (Calls Tryz.prog 76 #[.agg (bg a k),I (j:Int)] WA fun e w'=>∃mb,e=.returned (.tuple #[.pointer (some (Ad mb 0)),I 0])/\WA.heap.size<=mb/\w'.heap[mb]?=some (.cells (nk a k) 158 (0,0))/\Below WA.heap.size WA w'):=Ax.o.mono fun e w' ⟨h1,h2⟩=>by
    grind
   obtain⟨pb,po,hpo,hpl,T5⟩:=hK.aj (by omega);obtain⟨va,ap,cp,v0,v1,v2,hha,hhp,_⟩:=T5 j hj;have E4:=hha;obtain⟨aa,ca,Ja,_⟩:=hha;subst Ja;have hrm:=DU k.aj k.aj.length;have hcc:=hR.c;have hA0:uw k (j:Int)=if k.aj.length=4 then (eG,0,2) else if eB k.aj+bh (ak k.aj j).aU>(k.slots.length:Int) then (eG,0,8) else (gJ k j,(k.aj.length:Int),0):=by
    unfold uw
    grind
   rw[hA0];have hfit:=(hF.sp j hj).aU;have wY:∀{V:World},Below WA.heap.size WA V->Below w.heap.size w V:=fun hV=>hb0.trans (hV.mono hb0.size)
   have hji:(j:Int)<(k.aj.length:Int):=by omega
   have hsj:=hR.sp hj;have hek:∀n,n<(ak k.aj j).bc.length->((aW (ak k.aj j).bc n).kind=1->0<=(aW (ak k.aj j).bc n).loc/\(aW (ak k.aj j).bc n).loc<(k.frames.length:Int))/\((aW (ak k.aj j).bc n).kind≠1->0<=(aW (ak k.aj j).bc n).loc/\(aW (ak k.aj j).bc n).loc<(k.slots.length:Int)):=fun n hn=>by
    obtain⟨_,e2⟩:=hsj.M6 _ (jP (d:=gV) hn);rcases e2 with⟨e4,e5,e6⟩ | ⟨e4,e5,e6⟩
    · exact⟨fun _=>⟨e5,e6⟩,fun g=>absurd e4 g⟩
    · exact⟨fun g=>absurd (e4.symm.trans g) (by decide),fun _=>⟨e5,e6⟩⟩
   have hen:=og hR hj;have har:=oq _ hsj.aU;have Yd:=fun n hn=>wj hR hj n hn
   obtain⟨sj,adA⟩:=ex (ak k.aj j);have L3:gJ k j={ dX k sj.bc sj.bc.length with aj:=(dX k sj.bc sj.bc.length).aj++[sj] }:=by rw[adA];rfl
   rw[<- adA] at v0 v1 v2 E4 hhp hfit hek hen har ui Yd ⊢;obtain⟨lv,vC,sk⟩:=sj;simp only at v0 v1 v2 E4 hhp hfit hek hen har ui Yd L3;have HV:Hid (∀V,Below WA.heap.size WA V->V.cell? (Ad pb (po+j*3))=some (.bool lv)/\V.cell? (Ad pb (po+j*3+1))=some (.slice aa vC.length ca)/\V.cell? (Ad pb (po+j*3+2))=some (.slice ap sk.length cp)):=fun V hV=>⟨((wY hV).cell (p:=(Ad pb (po+j*3))) hpl).trans v0,((wY hV).cell (p:=(Ad pb (po+j*3+1))) hpl).trans v1,((wY hV).cell (p:=(Ad pb (po+j*3+2))) hpl).trans v2⟩
   have HM3:Hid (∀(V:World) mb,V.heap[mb]?=some (.cells (nk a k) 158 (0,0))->V.cell? (Ad mb 3)=some (.slice (some (Ad pb po)) k.aj.length a.cP)):=fun V mb h=>by
    have:=au (v:=.slice a.aP k.aj.length a.cP) h 3 rfl;rw[hpo] at this;omega
   have Jv:Hid (∀(V:World) mb,V.heap[mb]?=some (.cells (nk a k) 158 (0,0))->V.cell? (Ad mb 2)=some (.slice a.aL k.slots.length a.cL)):=fun V mb h=>au h 2 rfl
   by_cases c4:k.aj.length=4
   · rw[aC c4];have dz:=ai (fun V (h:Below w.heap.size w V)=>Ef.o V 2 h);obtain⟨P,hP⟩:=ex (cA w eG [I 0,I 2]);show Calls _ _ _ _ (cA w eG [I 0,I 2]);rw[<- hP] at dz ⊢;have c4i:(k.aj.length:Int)=4:=by omega
     unfold bg at xq se ⊢;clear hK hF hsp hA0 c hP lO hb0 kb rb Ax hR Jb hj T5 v0 v1 v2 E4 hhp hfit hpo hcc hrm hsm c4 Ef adA L3 hek hen har ui Yd hsj wY;go_enter Tryz.func261,Tryz.ntmps261;go_upto_region 1 with fail;rw[<- se.o];go_upto_region 5 with(go_at_call 76;refine xq.o.mono ?_;rintro e w1 ⟨mb,rfl,nJ,hm2,hb1⟩;have Rj:=ai hm2;have cN:=ai hb1;have m3:=HM3.o _ _ hm2;obtain⟨u0,u1,u2⟩:=HV.o _ hb1;clear nJ hm2 hb1)
     have mO:=ai (cN.o.alloc cN.o.size (.cells #[.bool lv,.slice aa vC.length ca,.slice ap sk.length cp] 99));have B3:=ai (bE w1 #[.bool lv,.slice aa vC.length ca,.slice ap sk.length cp] 99);have M3:=ai (br Rj.o (.cells #[.bool lv,.slice aa vC.length ca,.slice ap sk.length cp] 99));have HMX:Hid (w1.heap.size≠mb):=(show w1.heap.size≠mb from fun e=>by have:=aJ Rj.o;omega);obtain⟨W3,hW3⟩:=ex (w1.alloc (.cells #[.bool lv,.slice aa vC.length ca,.slice ap sk.length cp] 99));obtain⟨fb,L4⟩:=ex w1.heap.size;rw[<- hW3] at mO B3 M3 ⊢;rw[<- L4] at B3 HMX ⊢;clear hW3 L4 m3 u0 u1 u2;have m3:=HM3.o _ _ M3.o;go_upto_region 6 with fail;have R1:=ai (RB.o _ mO.o);have tC:=ai (gK.o.trans (mO.o.mono gK.o.size));obtain⟨y0,y1,y2,y3,y4⟩:=iH R1.o;have f0:=aR R1.o 0;have f1:=aR R1.o 1;have f2:=aR R1.o 2;have f3:=aR R1.o 3;have f4:=aR R1.o 4;have h5:=ai (fun V=>l6 R1.o Nl Nl Nl Nl (I 0) (V:=V));go_wp2;obtain⟨r1,r2⟩:=h5.out _ rfl;obtain⟨y0,y1,y2,y3,y4⟩:=iH r1;refine bO (v:=.tuple #[.agg #[Nl,Nl,Nl,Nl,I 0],I 0,I 2]) (by simp[results,Tryz.results261,go_sem,y0,y1,y2,y3,y4]) rfl ?_;exact dz.o _ (aD.below tC.o r2 tC.o.size (fun b e=>by omega))
   rw[aA c4];have NL:Hid (∀V mb,Below WA.heap.size WA V->V.heap[mb]?=some (.cells (nk a k) 158 (0,0))->Calls Tryz.prog 143 #[.pointer (some (Ad mb 0))] V fun e w'=>e=.returned (I (eB k.aj))/\Below V.heap.size V w'):=fun V mb hV hm=>DV k.aj a.aP a.cP mb V (hK.aj.below (wY hV)) (fun i hi=>(hF.sp i hi).aU) (by omega) (au hm 3 rfl)
   have HT1:Hid (∀V,Below WA.heap.size WA V->Calls Tryz.prog 70 #[.slice aa vC.length ca] V fun e w'=>e=.returned (I (bh vC))/\Below V.heap.size V w'):=fun V hV=>wM _ _ V (E4.below (wY hV)) hfit
   have hd1:=sU vC;have c4i:¬(k.aj.length:Int)=4:=by omega
   by_cases cr:eB k.aj+bh vC>(k.slots.length:Int)
   · rw[aC cr];obtain⟨RM,hRM⟩:=ex (eB k.aj);obtain⟨T1,hT1⟩:=ex (bh vC);have amc:0<=RM/\RM<=65025*4:=by
      rw[hRM];unfold eB;omega
     rw[<- hT1] at hd1 HT1 cr;rw[<- hRM] at NL cr;have dz:=ai (fun V (h:Below w.heap.size w V)=>Ef.o V 8 h);obtain⟨P,hP⟩:=ex (cA w eG [I 0,I 8]);show Calls _ _ _ _ (cA w eG [I 0,I 8]);rw[<- hP] at dz ⊢;have c2:(k.slots.length:Int)<RM+T1:=cr;unfold bg at xq se ⊢;clear hK hF hsp hA0 c hP lO hb0 kb rb Ax hR Jb hj T5 v0 v1 v2 E4 hhp hfit hpo hcc hrm hsm c4 Ef adA L3 hek hen har ui Yd hsj wY hRM hT1 cr;go_enter Tryz.func261,Tryz.ntmps261;go_upto_region 1 with fail;rw[<- se.o];go_upto_region 5 with(go_at_call 76;refine xq.o.mono ?_;rintro e w1 ⟨mb,rfl,nJ,hm2,hb1⟩;have Rj:=ai hm2;have cN:=ai hb1;have m3:=HM3.o _ _ hm2;obtain⟨u0,u1,u2⟩:=HV.o _ hb1;clear nJ hm2 hb1)
     have mO:=ai (cN.o.alloc cN.o.size (.cells #[.bool lv,.slice aa vC.length ca,.slice ap sk.length cp] 99));have B3:=ai (bE w1 #[.bool lv,.slice aa vC.length ca,.slice ap sk.length cp] 99);have M3:=ai (br Rj.o (.cells #[.bool lv,.slice aa vC.length ca,.slice ap sk.length cp] 99));have HMX:Hid (w1.heap.size≠mb):=(show w1.heap.size≠mb from fun e=>by have:=aJ Rj.o;omega);obtain⟨W3,hW3⟩:=ex (w1.alloc (.cells #[.bool lv,.slice aa vC.length ca,.slice ap sk.length cp] 99));obtain⟨fb,L4⟩:=ex w1.heap.size;rw[<- hW3] at mO B3 M3 ⊢;rw[<- L4] at B3 HMX ⊢;clear hW3 L4 m3 u0 u1 u2;have m3:=HM3.o _ _ M3.o;go_upto_region 7 with fail;have CL:=jq W3;have q1:∀x:dV W3.heap.size W3,x.world.cell? (Ad fb 1)=some (.slice aa vC.length ca):=fun x=>au (aO B3.o x.keeps (aJ B3.o)) 1 rfl
     have q2:∀x:dV W3.heap.size W3,x.world.cell? (Ad mb 2)=some (.slice a.aL k.slots.length a.cL):=fun x=>Jv.o _ _ (aO M3.o x.keeps (aJ M3.o))
     have ME:=ai (fun V (hV:Below W3.heap.size W3 V)=>NL.o V mb (mO.o.trans (hV.mono mO.o.size)) (aO M3.o hV (aJ M3.o)));have MC:=ai (fun V (hV:Below W3.heap.size W3 V)=>HT1.o V (mO.o.trans (hV.mono mO.o.size)));clear m3;refine dx (by kernel_rfl) (by kernel_rfl) ?_
     repeat (first | go_big_quiet_step ((first | (go_at_call 143;exact gj _ ME.o) | (go_at_call 70;exact gj _ MC.o))) | quiet_step ((first | (go_at_call 143;exact gj _ ME.o) | (go_at_call 70;exact gj _ MC.o))))
     refine jk ?_;rintro _ ⟨X,rfl⟩;have lh:=ai (mO.o.trans (X.keeps.mono mO.o.size));have R1:=ai (RB.o _ lh.o);have tC:=ai (gK.o.trans (lh.o.mono gK.o.size));obtain⟨y0,y1,y2,y3,y4⟩:=iH R1.o;have f0:=aR R1.o 0;have f1:=aR R1.o 1;have f2:=aR R1.o 2;have f3:=aR R1.o 3;have f4:=aR R1.o 4;have h5:=ai (fun V=>l6 R1.o Nl Nl Nl Nl (I 0) (V:=V));go_wp2;obtain⟨r1,r2⟩:=h5.out _ rfl;obtain⟨y0,y1,y2,y3,y4⟩:=iH r1;refine bO (v:=.tuple #[.agg #[Nl,Nl,Nl,Nl,I 0],I 0,I 8]) (by simp[results,Tryz.results261,go_sem,y0,y1,y2,y3,y4]) rfl ?_;exact dz.o _ (aD.below tC.o r2 tC.o.size (fun b e=>by omega))
   rw[aA cr];have HOW:Hid (∀V mb,Below WA.heap.size WA V->WA.heap.size<=mb->V.heap[mb]?=some (.cells (nk a k) 158 (0,0))->Calls Tryz.prog 267 #[.pointer (some (Ad mb 0))] V fun e w'=>e=.returned (.tuple #[])/\∃S hs,cC k.aM hs/\bK WA.heap.size mb 158 (ij k) w' S (aV k hs)/\(∀b,S.lab b≠.no->b=mb∨V.heap.size<=b)/\aD (fun b=>b=mb) V w'):=fun V mb hV nJ hm2=>DK E8 k a mb V (hK.below (wY hV)) hsm hm2 WA.heap.size nJ
   have Az:Hid (∀V n,Below WA.heap.size WA V->n<sk.length->∃eb eo,ap=some (Ad eb eo)/\V.cell? (Ad eb (eo+n*3))=some (I (aW sk n).page)/\V.cell? (Ad eb (eo+n*3+1))=some (I (aW sk n).kind)/\V.cell? (Ad eb (eo+n*3+2))=some (I (aW sk n).loc)):=fun V n hV hn=>by
    obtain⟨eb,eo,e1,e2,e3⟩:=(hhp.below (wY hV)) (by omega);have z0:=e3 n hn 0 (by omega);rw[kW] at z0;exact⟨eb,eo,e1,z0,e3 n hn 1 (by omega),e3 n hn 2 (by omega)⟩
   have HCT:Hid (∀V S mb hs n,n<sk.length->bK WA.heap.size mb 158 (ij k) V S (aV (dX k sk n) hs)->Calls Tryz.prog 270 #[.pointer (some (Ad mb 0)),.agg #[I (aW sk n).page,I (aW sk n).kind,I (aW sk n).loc],I 1] V fun e w'=>e=.returned (.tuple #[])/\bK WA.heap.size mb 158 (ij k) w' S (aV (dX k sk (n+1)) hs)/\cM S V S w'):=fun V S mb hs n hn hV=>by
    have hp:=Yd n (by omega);have hbd:=YO hR hj adA n (OY hn);refine(DT (aV (dX k sk n) hs) S V (aW sk n) 1 hV (fun g=>?_) (fun g=>?_) (.inl rfl) ⟨fun g=>?_,fun g=>?_⟩).mono fun e w' ⟨h1,h2,h3⟩=>⟨h1,?_,h3⟩
    · show _/\_<((dX k sk n).frames.length:Int);rw[hp.2.2.2.1];exact(hek n hn).1 g
    · show _/\_<((dX k sk n).slots.length:Int);rw[hp.2.2.2.2.1];exact(hek n hn).2 g
    · exact hbd.1 _ (by have:=(hek n hn).1 g;omega)
    · exact hbd.2 _ (by have:=(hek n hn).2 g;omega)
    · rw[F9] at h2;exact h2
   have HSH:Hid (∀n,n<=sk.length->(dX k sk n).aj.length=k.aj.length):=fun n hn=>by rw[(Yd n hn).2.2.1]
   have HSK:Hid ((gJ k j).aM=k.aM/\(gJ k j).hand=k.hand/\(gJ k j).aj.length=k.aj.length+1):=by
    have hp:=Yd sk.length (aI _);rw[L3];refine⟨hp.1,hp.2.1,?_⟩;show((dX k sk sk.length).aj++[_]).length=_;rw[fK,hp.2.2.1];rfl
   have HFK:Hid (∀hs,aV (gJ k j) hs={ aV (dX k sk sk.length) hs with aj:=(aV (dX k sk sk.length) hs).aj++[⟨lv,vC,sk⟩] }):=fun hs=>by rw[L3];rfl
   have HHA:Hid (∀V,Below WA.heap.size WA V->fZ V (.slice aa vC.length ca) vC/\dW bG 3 gV V ap sk):=fun V hV=>⟨E4.below (wY hV),hhp.below (wY hV)⟩
   obtain⟨RM,hRM⟩:=ex (eB k.aj);obtain⟨T1,hT1⟩:=ex (bh vC);have amc:0<=RM/\RM<=65025*4:=by
    rw[hRM];unfold eB;omega
   rw[<- hT1] at hd1 HT1 cr;rw[<- hRM] at NL cr;obtain⟨P,hP⟩:=ex (cA w (gJ k j) [I (k.aj.length:Int),I 0]);show Calls _ _ _ _ (cA w (gJ k j) [I (k.aj.length:Int),I 0]);rw[<- hP];have HP:=ai hP;have c2:¬(k.slots.length:Int)<RM+T1:=cr;have avx:k.aj.length<=4:=by omega
   unfold bg at xq se ⊢;clear hK hF hsp hA0 c hP lO hb0 kb rb Ax hR Jb hj T5 v0 v1 v2 E4 hhp hfit hpo hcc hrm hsm c4 Ef adA L3 hek ui Yd hsj wY hRM hT1 cr E8;go_enter Tryz.func261,Tryz.ntmps261;go_upto_region 1 with fail;rw[<- se.o];go_upto_region 5 with(go_at_call 76;refine xq.o.mono ?_;rintro e w1 ⟨mb,rfl,nJ,hm2,hb1⟩;have Sg:=ai nJ;have Rj:=ai hm2;have cN:=ai hb1;have m3:=HM3.o _ _ hm2;obtain⟨u0,u1,u2⟩:=HV.o _ hb1;clear nJ hm2 hb1)
   have mO:=ai (cN.o.alloc cN.o.size (.cells #[.bool lv,.slice aa vC.length ca,.slice ap sk.length cp] 99));have B3:=ai (bE w1 #[.bool lv,.slice aa vC.length ca,.slice ap sk.length cp] 99);have M3:=ai (br Rj.o (.cells #[.bool lv,.slice aa vC.length ca,.slice ap sk.length cp] 99));have HMX:Hid (w1.heap.size≠mb):=(show w1.heap.size≠mb from fun e=>by have:=aJ Rj.o;omega);obtain⟨W3,hW3⟩:=ex (w1.alloc (.cells #[.bool lv,.slice aa vC.length ca,.slice ap sk.length cp] 99));obtain⟨fb,L4⟩:=ex w1.heap.size;rw[<- hW3] at mO B3 M3 ⊢;rw[<- L4] at B3 HMX ⊢;clear hW3 L4 m3 u0 u1 u2;have m3:=HM3.o _ _ M3.o;go_upto_region 7 with fail;have CL:=jq W3;have q1:∀x:dV W3.heap.size W3,x.world.cell? (Ad fb 1)=some (.slice aa vC.length ca):=fun x=>au (aO B3.o x.keeps (aJ B3.o)) 1 rfl
   have q2:∀x:dV W3.heap.size W3,x.world.cell? (Ad mb 2)=some (.slice a.aL k.slots.length a.cL):=fun x=>Jv.o _ _ (aO M3.o x.keeps (aJ M3.o))
   have ME:=ai (fun V (hV:Below W3.heap.size W3 V)=>NL.o V mb (mO.o.trans (hV.mono mO.o.size)) (aO M3.o hV (aJ M3.o)));have MC:=ai (fun V (hV:Below W3.heap.size W3 V)=>HT1.o V (mO.o.trans (hV.mono mO.o.size)));clear m3;refine dx (by kernel_rfl) (by kernel_rfl) ?_
   repeat (first | go_big_quiet_step ((first | (go_at_call 143;exact gj _ ME.o) | (go_at_call 70;exact gj _ MC.o))) | quiet_step ((first | (go_at_call 143;exact gj _ ME.o) | (go_at_call 70;exact gj _ MC.o))))
   refine jk ?_;rintro _ ⟨X,rfl⟩;have lh:=ai (mO.o.trans (X.keeps.mono mO.o.size));have MX:=ai (aO M3.o X.keeps (aJ M3.o));have BX:=ai (aO B3.o X.keeps (aJ B3.o));clear CL q2 q1 ME MC NL HT1;obtain⟨WX,hWX⟩:=ex X.world;rw[<- hWX] at lh MX BX ⊢;clear hWX;go_upto_region 10 with(go_at_call 267;refine(HOW.o _ _ lh.o Sg.o MX.o).mono ?_;rintro e w4 ⟨rfl,S,hs,hs2,hk2,Ma,afu⟩;have rX:=ai hs2;have pU:=ai hk2;have Tx:=ai Ma;have aio:=ai afu;clear hs2 hk2 Ma afu)
   have B6:S.lab fb=.no:=y7.1 fun g=>by
    rcases Tx.o fb g with e | e
    · exact HMX.o e
    · have:=aJ BX.o;omega
   have HNF:=ai B6;have B4:=ai (aio.o.keep BX.o HMX.o);have amQ:Below WA.heap.size WA w4:=aD.below lh.o aio.o lh.o.size (fun b e=>by have:=Sg.o;omega);have tC:=ai amQ;have x2:w4.cell? (Ad fb 2)=some (.slice ap sk.length cp):=au B4.o 2 rfl;have anm:Hid (∀V,aD (fun b=>S.lab b≠.no) w4 V->V.heap[fb]?=some (.cells #[.bool lv,.slice aa vC.length ca,.slice ap sk.length cp] 99 (0,0))/\Below WA.heap.size WA V):=fun V hV=>⟨hV.keep B4.o (fun g=>g HNF.o),aD.below tC.o hV tC.o.size (fun b hb=>(pU.o.yJ b hb).1)⟩
   clear B6 amQ;go_wp2;go_loopw [59] (fun iv wq=>∃n:Nat,n<=sk.length/\iv=I (n:Int)/\bK WA.heap.size mb 158 (ij k) wq S (aV (dX k sk n) hs)/\aD (fun b=>S.lab b≠.no) w4 wq) (fun iv _=>sk.length-(intOf iv).toNat)
   case atStart=>exact⟨0,by omega,rfl,pU.o,aD.refl _ _⟩
   case round =>
    obtain⟨n,hn,rfl,rN,hkq⟩:=hrel;by_cases hlt:n<sk.length
    · have hni:(n:Int)<(sk.length:Int):=by omega
      obtain⟨L4,hbq⟩:=anm.o wr hkq;obtain⟨eb,eo,hap,z0,z1,z2⟩:=Az.o wr n hbq hlt;have yP:Hid (Calls Tryz.prog 270 #[.pointer (some (Ad mb 0)),.agg #[I (aW sk n).page,I (aW sk n).kind,I (aW sk n).loc],I 1] (wr.alloc (.cells #[I (aW sk n).page,I (aW sk n).kind,I (aW sk n).loc] 174)) fun e w'=>e=.returned (.tuple #[])/\bK WA.heap.size mb 158 (ij k) w' S (aV (dX k sk (n+1)) hs)/\aD (fun b=>S.lab b≠.no) w4 w'):=(HCT.o _ S mb hs n hlt (rN.below ((aK _ _).alloc (aI _) _))).mono fun e w' ⟨h1,h2,h3⟩=>⟨h1,h2,(hkq.trans (aD.alloc _ _ _) (fun _ _ g=>g)).trans h3.kp (fun _ _ g=>g)⟩
      obtain⟨en,amD⟩:=ex (aW sk n);rw[<- amD] at z0 z1 z2 yP;obtain⟨g1,g2,g3⟩:=en;simp only at z0 z1 z2 yP;subst hap;clear rN hkq L4 hbq amD HCT Az;go_wp2_with (go_at_call 270;refine yP.o.mono ?_;rintro e w5 ⟨rfl,h5,h6⟩;have HK5:=ai h5;have HP5:=ai h6;clear h5 h6)
      go_roundw
      case rel=>exact⟨n+1,by omega,by go_num,HK5.o,HP5.o⟩
      case measure=>simp[intOf];omega
    · obtain rfl:n=sk.length:=by omega
      obtain⟨L4,hbq⟩:=anm.o wr hkq;obtain⟨bP,dP,eP,_⟩:=bj rN.aj;have hLl:S.L.length<=1000000:=by
       have:=rN.len;have e:(aV (dX k sk sk.length) hs).aj.length=k.aj.length:=HSH.o _ (aI _);omega
      have HLK:Hid (S.L.length=k.aj.length):=by
       have:=rN.len;have e:(aV (dX k sk sk.length) hs).aj.length=k.aj.length:=HSH.o _ (aI _);exact(show S.L.length=k.aj.length by omega)
      have XN:Below wr.heap.size wr wr.drew:=(aK _ _).drew;have BD:wr.drew.heap[fb]?=some (.cells #[.bool lv,.slice aa vC.length ca,.slice ap sk.length cp] 99 (0,0)):=aO L4 XN (aJ L4);obtain⟨WD,hWD⟩:=ex wr.drew;rw[<- hWD] at XN BD;have HWD:=ai hWD;have hkD:=rN.below XN;have hlD:WA.heap.size<=WD.heap.size:=gY hbq.size XN.size;have ahG:Below WA.heap.size WA WD:=hbq.trans (XN.mono hbq.size);obtain⟨hh1,hh2⟩:=HHA.o WD ahG;have HCP:Hid (Calls Tryz.prog 135 #[.agg #[.bool lv,.slice aa vC.length ca,.slice ap sk.length cp]] WD fun e w'=>∃xa nx cx ya ny cy,e=.returned (.agg #[.bool lv,.slice xa nx cx,.slice ya ny cy])/\mX WD.heap.size w' ⟨lv,.slice xa nx cx,.slice ya ny cy⟩ ⟨lv,vC,sk⟩/\(∀b,bZ (.slice ya ny cy) b->¬bZ (.slice xa nx cx) b)/\Below WD.heap.size WD w'):=(Iq ⟨lv,vC,sk⟩ aa ap vC.length ca cp WD hh1 hh2 (by show vC.length<=_;omega) (by show sk.length<=_;omega)).mono fun e w' ⟨va,vp,h1,h2,h3,h4⟩=>by
       obtain⟨xa,cx,ex,_⟩:=bj h2.aU;obtain⟨ya,cy,ey,_⟩:=bj h2.aQ;have ex:va=_:=ex;have ey:vp=_:=ey;subst ex ey;exact⟨xa,_,cx,ya,_,cy,h1,h2,h3,h4⟩
      have alj:Hid (∀V,aD (fun b=>bZ S.vP b) WD V->V.cell? (Ad mb 3)=some (.slice bP S.L.length dP)/\V.cell? (Ad fb 0)=some (.bool lv)/\V.cell? (Ad fb 1)=some (.slice aa vC.length ca)/\V.cell? (Ad fb 2)=some (.slice ap sk.length cp)/\V.frozen? (Ad mb 3)=false):=fun V hV=>by
       have b1:=hV.keep hkD.head (fun g=>by have:=rN.lP _ g;rw[rN.lH] at this;simp at this);have b2:=hV.keep BD (fun g=>by have:=rN.lP _ g;rw[HNF.o] at this;simp at this);refine⟨?_,au b2 0 rfl,au b2 1 rfl,au b2 2 rfl,aR b1 3⟩;rw[<- eP];exact au b1 3 rfl
      have HRW:Hid (∀w2 o,Below WD.heap.size WD w2->(w2.alloc o).ownsRow WA.heap.size 99 3 (.slice bP S.L.length dP) S.L.length (S.L.flatMap gT)):=fun w2 o hb=>by
       have:=((aD.b9 (D:=fun _=>False) hb).trans (aD.alloc _ w2 o) (fun _ _ g=>g)).row hkD.aj (fun _ _ g=>g);rw[eP] at this;omega
      have HPU:Hid (∀w2 w4 O v' l,Below WD.heap.size WD w2->mX WD.heap.size w2 l ⟨lv,vC,sk⟩->(∀b,bZ l.vp b->¬bZ l.va b)->(w2.alloc O).grownBy w4 S.vP.ownBlock->w4.ownsRow WA.heap.size 99 3 v' (S.L.length+1) (S.L.flatMap gT++gT l)->(v'.ownBlock=S.vP.ownBlock∨v'.ownBlock=some (w2.alloc O).heap.size)->adf WA (w4.setCell (Ad mb 3) v') mb (gJ k j) (ij k) v'):=fun w2 w4 O v' l h1 h2 h3 h4 h5 h6=>by
       have m1:=hkD.push hlD h1 h2 h3 h4 h5 h6;have m2:=m1.1;rw[<- HFK.o hs] at m2;exact⟨_,hs,by rw[HSK.o.1];exact rX.o,m2,rfl,aD.below ahG m1.2.2 ahG.size (fun b hb=>(hkD.yJ b hb).1)⟩
      have ZI:Hid (∀w2,Below WD.heap.size WD w2->aD (fun b=>bZ S.vP b) WD w2):=fun w2 h=>aD.b9 h
      have HEP:=ai eP;obtain⟨i0,hin,hz0,hz1,hz2⟩:=ju Ud;have Eo:=ai hin;have Hu:=ai hz0;have Gf:=ai hz1;have yV:=ai hz2;clear rN hkD hkq hbq L4 hh1 hh2 hWD XN BD eP hin hz0 hz1 hz2 ahG HCT Az;go_upto_region 15 with fail;refine xx (S:=fun V=>aD (fun b=>bZ S.vP b) WD V) (z:=13) (by kernel_rfl) ?_;rw[<- HWD.o];have qG:=alj;have ow:Hid (aD (fun b=>bZ S.vP b) WD WD):=aD.refl _ _;refine iK 0 ow.o ?_ ?_ ?_;rotate_left 1
      · intro V h;obtain⟨k0,k1,k2,k3,k4⟩:=qG.o V h;go_simp
        try with_reducible rfl
      refine iK 1 ow.o ?_ ?_ ?_;rotate_left 1
      · intro V h;obtain⟨k0,k1,k2,k3,k4⟩:=qG.o V h;go_simp
        try with_reducible rfl
      refine iK 2 ow.o ?_ ?_ ?_;rotate_left 1
      · intro V h;obtain⟨k0,k1,k2,k3,k4⟩:=qG.o V h;go_simp
        try with_reducible rfl
      refine iK 3 ow.o ?_ ?_ ?_;rotate_left 1
      · intro V h;obtain⟨k0,k1,k2,k3,k4⟩:=qG.o V h;go_simp
        try with_reducible rfl
      refine iK 4 ow.o ?_ ?_ ?_;rotate_left 1
      · intro V h;obtain⟨k0,k1,k2,k3,k4⟩:=qG.o V h;go_simp
        try with_reducible rfl
      refine iK 5 ow.o ?_ ?_ ?_;rotate_left 1
      · intro V h;obtain⟨k0,k1,k2,k3,k4⟩:=qG.o V h;go_simp
        try with_reducible rfl
      refine iK 6 ow.o ?_ ?_ ?_;rotate_left 1
      · intro V h;obtain⟨k0,k1,k2,k3,k4⟩:=qG.o V h;go_simp
        try with_reducible rfl
      refine eI (rs:=[7]) (by kernel_rfl) (by simp) ?_;refine bw.cons rfl (fun K hK=>?_) bw.nil;rw[aC (by rfl)];go_simp;go_at_call 135;refine HCP.o.mono ?_;rintro e w6 ⟨xa,nx,cx,ya,ny,cy,rfl,hso,hap,hb2⟩;have HSO:=ai hso;have HAP:=ai hap;have gQ:=ai hb2;have sK:=ai (ZI.o _ hb2);clear hso hap hb2;try go_simp;refine hK.out _ _ (fun _=>?_) ?_
      · exact sK.o
      clear hK K
      try simp only[Act.put,dJ,dB,dw]
      refine eI (rs:=[8]) (by kernel_rfl) (by simp) ?_;refine bw.cons rfl (fun K hK=>?_) bw.nil;go_simp;refine hK.out _ _ (fun _=>?_) ?_
      · exact sK.o.trans (aD.alloc _ _ _) (fun _ _ g=>g)
      clear hK K
      try simp only[Act.put,dJ,dB,dw]
      have apZ:=gQ.o.size;refine eI (rs:=[9]) (by kernel_rfl) (by simp) ?_;refine bw.cons rfl (fun K hK=>?_) bw.nil;rw[aC (by rfl)];refine qD (P:=Tryz.prog) _ _ 28 rfl WA.heap.size 99 i0 (.agg #[.bool false,Nl,Nl]) 3 56 Tryz.underlying28 Eo.o Hu.o Gf.o yV.o rfl (by decide) (.slice bP S.L.length dP) S.L.length (S.L.flatMap gT) rfl (HRW.o _ _ gQ.o) (some (Ad w6.heap.size 0)) 1 1 (gT ⟨lv,.slice xa nx cx,.slice ya ny cy⟩) rfl rfl (fun _=>⟨_,rfl,Uc w6 _ _⟩) (by intro u hu;simp[gT] at hu;rcases hu with rfl | rfl | rfl <;> rfl) (by unfold maxLen;omega) (by omega) (by rw[fF];omega) ?_;intro vG wG hoG hgG haG;obtain⟨aG,cG,hvG,_,_⟩:=bj hoG;subst hvG;rw[<- HEP.o] at hgG haG;have Tu:Hid (aD (fun b=>bZ S.vP b) WD wG):=(sK.o.trans (aD.alloc _ _ _) (fun _ _ g=>g)).trans (aD.grown hgG (fun q hq=>hq)) (fun _ _ g=>g);have HPF:=ai (HPU.o w6 wG _ _ ⟨lv,.slice xa nx cx,.slice ya ny cy⟩ gQ.o HSO.o HAP.o hgG hoG haG);clear hoG hgG haG;refine hK.out _ _ (fun _=>?_) ?_
      · exact Tu.o
      clear hK K
      try simp only[Act.put,dJ,dB,dw]
      refine eI (rs:=[10]) (by kernel_rfl) (by simp) ?_;refine bw.cons rfl (fun K hK=>?_) bw.nil;go_simp;refine hK.out _ _ (fun _=>?_) ?_
      · exact Tu.o
      clear hK K
      try simp only[Act.put,dJ,dB,dw]
      refine eI (rs:=[11]) (by kernel_rfl) (by simp) ?_;refine bw.cons rfl (fun K hK=>?_) bw.nil;go_simp;refine hK.out _ _ (fun _=>?_) ?_
      · exact Tu.o
      clear hK K
      try simp only[Act.put,dJ,dB,dw]
      refine iK 12 Tu.o ?_ ?_ ?_;rotate_left 1
      · intro V h;obtain⟨k0,k1,k2,k3,k4⟩:=qG.o V h;go_simp
        try with_reducible rfl
      obtain⟨k0,k1,k2,k3,k4⟩:=qG.o _ Tu.o;refine eI (rs:=[13]) (by kernel_rfl) (by simp) ?_;refine bw.cons rfl (fun K hK=>?_) bw.nil;go_simp;refine hK.out _ _ (fun g=>absurd rfl g) ?_;refine q9 (by kernel_rfl) ?_ _;clear k0 k1 k2 k3 k4;obtain⟨aS,nS,cS,aF,nF,cF,aL,nL,cL,hd,hcells,hr3,hfin⟩:=VI HPF.o RB.o gK.o hrl [I (k.aj.length:Int),I 0];have Ay:=ai hfin;have R3:=ai hr3;have OH:=ai hcells;obtain⟨W5,hW5⟩:=ex (wG.setCell (Ad mb 3) (.slice aG (S.L.length+1) cG));rw[<- hW5] at OH R3 Ay ⊢;clear hW5 hfin hr3 hcells;obtain⟨q0,q1,q2,q3,q4⟩:=OH.o;obtain⟨y0,y1,y2,y3,y4⟩:=iH R3.o;have f0:=aR R3.o 0;have f1:=aR R3.o 1;have f2:=aR R3.o 2;have f3:=aR R3.o 3;have f4:=aR R3.o 4;have h5:=ai (fun V=>l6 R3.o (.slice aS nS cS) (.slice aF nF cF) (.slice aL nL cL) (.slice aG (S.L.length+1) cG) (I hd) (V:=V));have Yi:¬mb=w.heap.size+1:=by have:=Sg.o;omega
      have PT:¬w.heap.size+1=mb:=by omega
      go_upto_region 16 with fail;go_region;go_wp2;obtain⟨r1,r2⟩:=h5.out _ rfl;obtain⟨y0,y1,y2,y3,y4⟩:=iH (aO r1 (aK _ _).drew (aJ r1));refine bO (v:=.tuple #[.agg #[.slice aS nS cS,.slice aF nF cF,.slice aL nL cL,.slice aG (S.L.length+1) cG,I hd],I (S.L.length:Int),I 0]) (by simp[results,Tryz.results261,go_sem,y0,y1,y2,y3,y4]) rfl ?_;have e:(I (S.L.length:Int):Value)=I (k.aj.length:Int):=by rw[HLK.o]
      rw[e,HP.o];exact Ay.o _ (r2.trans (aD.drew _ _) (fun _ _ g=>g))
 · have hA:uw k sp=(eG,0,fI k sp):=by grind [uw]
   rw[hA];have Rb:=ai (Bb Ax.o c);obtain⟨C,hC2⟩:=ex (fI k sp);rw[<- hC2] at Rb c ⊢;have cb:(C != 0)=true:=by grind
   have dz:=ai (fun V (h:Below w.heap.size w V)=>Ef.o V C h);obtain⟨P,hP⟩:=ex (cA w eG [I 0,I C]);show Calls _ _ _ _ (cA w eG [I 0,I C]);rw[<- hP] at dz ⊢;unfold bg at Rb se ⊢;clear hK hF hsp hA hC2 c hP lO hb0 kb rb Ax Ef E8;go_enter Tryz.func261,Tryz.ntmps261;go_upto_region 1 with fail;rw[<- se.o];go_upto_region 3 with(go_at_call 76;refine Rb.o.mono ?_;rintro e w1 ⟨rfl,hb1⟩;have tC:=ai (gK.o.trans (hb1.mono gK.o.size));have R1:=ai (RB.o _ hb1);clear hb1)
   obtain⟨y0,y1,y2,y3,y4⟩:=iH R1.o;have f0:=aR R1.o 0;have f1:=aR R1.o 1;have f2:=aR R1.o 2;have f3:=aR R1.o 3;have f4:=aR R1.o 4;have h5:=ai (fun V=>l6 R1.o Nl Nl Nl Nl (I 0) (V:=V));go_wp2;obtain⟨r1,r2⟩:=h5.out _ rfl;obtain⟨y0,y1,y2,y3,y4⟩:=iH r1;refine bO (v:=.tuple #[.agg #[Nl,Nl,Nl,Nl,I 0],I 0,I C]) (by simp[results,Tryz.results261,go_sem,y0,y1,y2,y3,y4]) rfl ?_;exact dz.o _ (aD.below tC.o r2 tC.o.size (fun b e=>by omega))
open Go.RowKit
variable {k:aT} {fl:List Bool} {j:Nat} {hs:List bJ}
theorem Lq (h:dn k fl) (hk:fl.getD j false=true) (s:cC k.aM hs):fI (aV k hs) (j:Int)=0:=by
 obtain⟨hj,hl⟩:=h.at_ hk;unfold fI;rw[aC (QZ h.right s),aC];exact⟨by omega,by show(j:Int)<(k.aj.length:Int);omega,hl⟩
theorem adl (h:dn k fl) (hk:fl.getD j false=true) (s:cC k.aM hs) {n way:Int} {ways:List Int} (h1:1<=n) (h8:n<=8) (hw:way∈ways):iZ (aV k hs) (j:Int) n way ways=0:=by
 unfold iZ;rw[aA (fun g=>g (Lq h hk s)),aA (fun g=>g ⟨h1,h8⟩),aC hw]
def Mz (k K k':aT) (hs:List bJ) (ok:Prop):Prop:=(ok->K=aV k' hs/\k'.aM=k.aM)/\(¬ok->k'=k)
theorem Zu (h:dn k fl) (hk:fl.getD j false=true) (s:cC k.aM hs) (a n way:Int) (h1:1<=n) (h8:n<=8) (hw:way=0∨way=2) :
  ∃K,qp (aV k hs) (j:Int) a n way=(K,(gP k j a n way).1.1,(gP k j a n way).1.2,0)/\Mz k K (gP k j a n way).2 hs ((gP k j a n way).1.2.1=0):=by
 obtain⟨hj,hl⟩:=h.at_ hk;unfold qp;rw[aA (fun g=>g (adl h hk s h1 h8 (by simpa using hw)))];show ∃K,(if (bR (df k j) a n way).1≠0 then _ else _)=_/\_;by_cases g:(bR (df k j) a n way).1=0
 · rw[aA (fun x=>x g),qK h1 h8 g];obtain⟨m1,m2,_⟩:=mi h1 h8 g;have R:=nZ h.right hj a n way m1 m2;have e:ma (aV k hs) j a n way=ma k j a n way:=by
    rw[xo h.right hj a n way m1 m2,xo (h.right.wT s) hj a n way m1 m2];congr 1;funext p;exact Iw s j p
   refine⟨(bf (aV k hs) j a n way).2,?_,fun _=>⟨?_,R.kept.aM⟩,fun x=>absurd rfl x⟩
   · show(_,ma (aV k hs) j a n way,_,_)=_;rw[e];rfl
   · rw[sY h.right hj m1 s]
 · rw[aC g,tB h1 h8 g];exact⟨_,rfl,fun x=>absurd x g,fun _=>rfl⟩
theorem Wt (h:dn k fl) (hk:fl.getD j false=true) (s:cC k.aM hs) (a:Int) (d:ByteArray) (h1:1<=d.size) (h8:d.size<=8) :
  ∃K,o7 (aV k hs) (j:Int) a d=(K,(jb k j a d).1,0)/\Mz k K (jb k j a d).2 hs ((jb k j a d).1.1=0):=by
 obtain⟨hj,hl⟩:=h.at_ hk;unfold o7;rw[aA (fun g=>g (adl h hk s (by omega) (by omega) (by simp)))];show ∃K,(if (bR (df k j) a d.size 1).1≠0 then _ else _)=_/\_;by_cases g:(bR (df k j) a d.size 1).1=0
 · rw[aA (fun x=>x g),qX g];obtain⟨m1,m2,_⟩:=mi (by omega) (by omega) g;have R:=wh h.right hj a d (by omega) (by omega) m1 m2;exact⟨lC (aV k hs) j a d,rfl,fun _=>⟨FO h.right hj m1 s,R.aM⟩,fun x=>absurd rfl x⟩
 · rw[aC g,tA g];exact⟨_,rfl,fun x=>absurd x g,fun _=>rfl⟩
theorem Gg (h:dn k fl) (hk:fl.getD j false=true) (s:cC k.aM hs) (r:List aX×Int) :
  ∃K,iy (aV k hs) (j:Int) r=(K,(eH k j r).1)/\Mz k K (eH k j r).2 hs ((eH k j r).1=0):=by
 obtain⟨hj,hl⟩:=h.at_ hk;have eA:iy (aV k hs) (j:Int) r=if r.2≠0 then (eG,r.2) else if eB k.aj-bh (df k j)+bh r.1>(k.slots.length:Int) then (eG,8) else (gF (aV k hs) j r.1,0):=by
  unfold iy;rw[aA (fun g=>g (Lq h hk s))];rfl
 rw[eA];by_cases c:r.2=0
 · rw[aA (fun g=>g c)];by_cases c2:eB k.aj-bh (df k j)+bh r.1>(k.slots.length:Int)
   · have eM:eH k j r=(8,k):=by unfold eH;rw[aA (fun g=>g c),aC c2]
     rw[aC c2,eM];exact⟨_,rfl,(fun x=>by cases x),fun _=>rfl⟩
   · have eM:eH k j r=(0,gF k j r.1):=by unfold eH;rw[aA (fun g=>g c),aA c2]
     rw[aA c2,eM];exact⟨_,rfl,fun _=>⟨Gc k hs j r.1,(qx k hj r.1).1⟩,fun x=>absurd rfl x⟩
 · have eM:eH k j r=(r.2,k):=by unfold eH;rw[aC c]
   rw[aC c,eM];exact⟨_,rfl,fun x=>absurd x c,fun _=>rfl⟩
theorem Zw (h:dn k fl) (hk:fl.getD j false=true) (s:cC k.aM hs) :
  ∃K x,uw (aV k hs) (j:Int)=(K,x,(gu k j).1)/\Mz k K (gu k j).2 hs ((gu k j).1=0):=by
 obtain⟨hj,hl⟩:=h.at_ hk;have eA:uw (aV k hs) (j:Int)=if k.aj.length=4 then (eG,0,2) else if eB k.aj+bh (df k j)>(k.slots.length:Int) then (eG,0,8) else (gJ (aV k hs) j,(k.aj.length:Int),0):=by
  unfold uw;rw[aA (fun g=>g (Lq h hk s))];rfl
 rw[eA];by_cases c:k.aj.length=4
 · have eM:gu k j=(2,k):=by unfold gu;rw[aC c]
   rw[aC c,eM];exact⟨_,_,rfl,(fun x=>by cases x),fun _=>rfl⟩
 rw[aA c];by_cases c2:eB k.aj+bh (df k j)>(k.slots.length:Int)
 · have eM:gu k j=(8,k):=by unfold gu;rw[aA c,aC c2]
   rw[aC c2,eM];exact⟨_,_,rfl,(fun x=>by cases x),fun _=>rfl⟩
 · have eM:gu k j=(0,gJ k j):=by unfold gu;rw[aA c,aA c2]
   rw[aA c2,eM];exact⟨_,_,rfl,fun _=>⟨IG k hs j,(vt h.right hj).aM⟩,fun x=>absurd rfl x⟩
theorem Zy (h:dn k fl) (hk:fl.getD j false=true) (s:cC k.aM hs) :
  yo (aV k hs) (j:Int)=(aV (jy k j) hs,0)/\(jy k j).aM=k.aM:=by
 unfold yo;rw[aA (fun g=>g (Lq h hk s))];refine⟨by rw[show((j:Int).toNat)=j from rfl,II],?_⟩;exact(mY k j (fun _=>true)).1
open Go.RowKit
theorem vY:rG:=fun k a w hK hs=>QD k a w hK hs
open Go.RowKit
theorem UD:(Tryz.prog.info? 77).map (fun i=>(i.zero,i.size,i.bytes))=some (some (.agg #[I 0,I 0,I 0,I 0,I 0,I 0,I 0,I 0,I 0,I 0,I 0,I 0,I 0]),13,104):=by kernel_rfl
theorem acs (ao:Option Addr) (n c:Nat) (xs:List Value) (w:World) (hl:xs.length=n*13) (h:mR w ao n xs) (h1:∀u∈xs,u.oneCell'=true) (hn:n<=1000000) :
  Calls Tryz.prog 94 #[.slice ao n c] w fun e w'=>∃v,e=.returned v/\w'.ownsRow w.heap.size 77 13 v n xs/\Below w.heap.size w w':=by
 have HH:=ai h;have HL:=ai hl;have H1:=ai h1;clear h hl h1;have q:∀(w:World) (a:Option Addr) (n c n' c':Nat),(binOp .eql 31 (.slice a n c) (.slice none n' c')).run Tryz.prog w=.ok (.bool a.isNone) w:=fun w a n c n' c'=>za w _ _ a n c n' c' Tryz.underlying31
 obtain⟨i0,hin,hz0,hz1,hz2⟩:=ju UD;cases ao with
 | none =>
  have h0:n=0:=by
   by_cases g:0<n
   · obtain⟨ad,e,_⟩:=HH.o g;cases e
   · omega
  subst h0;have hx:xs=[]:=jY (by rw[HL.o]);subst hx;clear HH HL H1 hin hz0 hz1 hz2;go_enter Tryz.func94,Tryz.ntmps94;go_wp2;go_ret;exact⟨_,rfl,mE _ _ _ _,aK _ _⟩
 | some ad =>
  have Eo:=ai hin;have Hu:=ai hz0;have Gf:=ai hz1;have yV:=ai hz2;clear hin hz0 hz1 hz2;go_enter Tryz.func94,Tryz.ntmps94;go_wp2_with (at_builtin;refine fB (P:=Tryz.prog) rfl _ _ 31 rfl w.heap.size 77 i0 (.agg #[I 0,I 0,I 0,I 0,I 0,I 0,I 0,I 0,I 0,I 0,I 0,I 0,I 0]) 13 104 Tryz.underlying31 Eo.o Hu.o Gf.o yV.o rfl (by decide) (.slice (some (Ad w.heap.size 0)) 0 0) 0 [] (by rfl) (y9 w #[] 0 (aI _) (by unfold maxLen;omega) (by simp)) (some ad) n c xs (by rfl) HL.o ((HH.o.below ((aK _ _).alloc (aI _) _))) H1.o (by unfold maxLen;omega) (by omega) (by simp) ?_;intro v' w' hown hgr hat;have HOWN:=ai hown;have MH:=ai hgr;clear hown hgr hat)
  go_ret;have hown:=HOWN.o;have hgr:=MH.o;rw[lU] at hown;exact⟨_,rfl,hown,((aK _ _).alloc (aI _) _).grown hgr (by simp) (fun k hk=>by simp[Value.ownBlock] at hk;omega)⟩
theorem UC:(Tryz.prog.info? 91).map (fun i=>(i.zero,i.size,i.bytes))=some (some (.agg #[I 0,I 0]),2,16):=by kernel_rfl
theorem aco (ao:Option Addr) (n c:Nat) (xs:List Value) (w:World) (hl:xs.length=n*2) (h:mR w ao n xs) (h1:∀u∈xs,u.oneCell'=true) (hn:n<=1000000) :
  Calls Tryz.prog 95 #[.slice ao n c] w fun e w'=>∃v,e=.returned v/\w'.ownsRow w.heap.size 91 2 v n xs/\Below w.heap.size w w':=by
 have HH:=ai h;have HL:=ai hl;have H1:=ai h1;clear h hl h1;have q:∀(w:World) (a:Option Addr) (n c n' c':Nat),(binOp .eql 32 (.slice a n c) (.slice none n' c')).run Tryz.prog w=.ok (.bool a.isNone) w:=fun w a n c n' c'=>za w _ _ a n c n' c' Tryz.underlying32
 obtain⟨i0,hin,hz0,hz1,hz2⟩:=ju UC;cases ao with
 | none =>
  have h0:n=0:=by
   by_cases g:0<n
   · obtain⟨ad,e,_⟩:=HH.o g;cases e
   · omega
  subst h0;have hx:xs=[]:=jY (by rw[HL.o]);subst hx;clear HH HL H1 hin hz0 hz1 hz2;go_enter Tryz.func95,Tryz.ntmps95;go_wp2;go_ret;exact⟨_,rfl,mE _ _ _ _,aK _ _⟩
 | some ad =>
  have Eo:=ai hin;have Hu:=ai hz0;have Gf:=ai hz1;have yV:=ai hz2;clear hin hz0 hz1 hz2;go_enter Tryz.func95,Tryz.ntmps95;go_wp2_with (at_builtin;refine fB (P:=Tryz.prog) rfl _ _ 32 rfl w.heap.size 91 i0 (.agg #[I 0,I 0]) 2 16 Tryz.underlying32 Eo.o Hu.o Gf.o yV.o rfl (by decide) (.slice (some (Ad w.heap.size 0)) 0 0) 0 [] (by rfl) (y9 w #[] 0 (aI _) (by unfold maxLen;omega) (by simp)) (some ad) n c xs (by rfl) HL.o ((HH.o.below ((aK _ _).alloc (aI _) _))) H1.o (by unfold maxLen;omega) (by omega) (by simp) ?_;intro v' w' hown hgr hat;have HOWN:=ai hown;have MH:=ai hgr;clear hown hgr hat)
  go_ret;have hown:=HOWN.o;have hgr:=MH.o;rw[lU] at hown;exact⟨_,rfl,hown,((aK _ _).alloc (aI _) _).grown hgr (by simp) (fun k hk=>by simp[Value.ownBlock] at hk;omega)⟩
end Go.Proofs.YtlgoihmkgaaemaaGreat
