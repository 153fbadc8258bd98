import Derived.Test.YtpgifpeohlllfaaGreatGV33
set_option maxHeartbeats 20000000
set_option linter.unusedVariables false
set_option maxRecDepth 100000
set_option linter.unusedSimpArgs false
namespace Go.Proofs.YtpgifpeohlllfaaGreat
namespace Go.Proofs.YtpgifpeohlllfaaGreat
open Go.RowKit
def wV (k:aN) (sp:Int):aN×Int×Int:=if dM k sp≠0 then (cJ,0,dM k sp) else if k.aj.length=4 then (cJ,0,2) else if eW k.aj+cI (ak k.aj sp.toNat).aZ>(k.slots.length:Int) then (cJ,0,8) else (tu k sp.toNat,(k.aj.length:Int),0)
theorem XN {k:aN} (hR:bg k) {j:Nat} (hj:j<k.aj.length) {s:dm} (hs:s=ak k.aj j) (n:Nat) (hn:n<=s.aW.length):(∀i,i<k.frames.length->-1000000<=(au (fA k s.aW n).frames i).refs/\(au (fA k s.aW n).frames i).refs<=1000000)/\(∀i,i<k.slots.length->-1000000<=(bw (fA k s.aW n).slots i).refs/\(bw (fA k s.aW n).slots i).refs<=1000000):=by
 subst hs;obtain⟨_,_,_,_,_,h6,h7⟩:=yQ hR hj n hn;obtain⟨r1,r2⟩:=o7 hR;have hen:=jC hR hj;have hl:∀(kd i:Int),(jO (ak k.aj j).aZ kd i ((ak k.aj j).aW.take n)).length<=512:=fun kd i=>by
  grind [jO]
 refine⟨fun i hi=>?_,fun i hi=>?_⟩
 · rw[h6 i hi];have:=r1 i hi;have:=hl 1 i;show _<=(au k.frames i).refs+_/\(au k.frames i).refs+_<=_;omega
 · rw[h7 i hi];have:=r2 i hi;have:=hl 2 i;show _<=(bw k.slots i).refs+_/\(bw k.slots i).refs+_<=_;omega
def ab9 (WA W:World) (mb:Nat) (k:aN) (X:List Value) (v':Value):Prop:=∃S hs,dw k.aA hs/\bQ WA.heap.size mb 104 X W S (bu k hs)/\S.vP=v'/\Below WA.heap.size WA W
theorem UK {w WA W:World} {mb:Nat} {k:aN} {X:List Value} {aG:Option Addr} {nG cG:Nat} (h:ab9 WA W mb k X (.slice aG nG cG)) (hRB:∀V,Below WA.heap.size WA V->V.heap[w.heap.size+1]?=some (.cells #[Nl,Nl,Nl,Nl,I 0] 27 (0,0))) (hb0:Below w.heap.size w WA) (hrl:w.heap.size+1<WA.heap.size) (vs:List Value) :
  ∃aS nS cS aF nF cF aL nL cL hd,(W.cell? (Ad mb 0)=some (.slice aS nS cS)/\W.cell? (Ad mb 1)=some (.slice aF nF cF)/\W.cell? (Ad mb 2)=some (.slice aL nL cL)/\W.cell? (Ad mb 3)=some (.slice aG nG cG)/\W.cell? (Ad mb 4)=some (I hd))/\W.heap[w.heap.size+1]?=some (.cells #[Nl,Nl,Nl,Nl,I 0] 27 (0,0))/\∀U,aH (fun b=>b=w.heap.size+1) W U->bN w k vs (.returned (.tuple (Value.agg #[.slice aS nS cS,.slice aF nF cF,.slice aL nL cL,.slice aG nG cG,I hd]::vs).toArray)) U:=by
 obtain⟨S,hs,hsame,jn,hv,hbl⟩:=h;obtain⟨aS,nS,cS,eS⟩:∃b n d,S.vS=.slice b n d:=by obtain⟨b,d,e,_⟩:=aY jn.aA;grind
 obtain⟨aF,nF,cF,eF⟩:∃b n d,S.vF=.slice b n d:=by obtain⟨b,d,e,_⟩:=aY jn.frames;grind
 obtain⟨aL,nL,cL,eL⟩:∃b n d,S.vL=.slice b n d:=by obtain⟨b,d,e,_⟩:=aY jn.slots;grind
 have iF:Below w.heap.size w W:=hb0.trans (hbl.mono hb0.size);refine⟨aS,nS,cS,aF,nF,cF,aL,nL,cL,_,⟨by grind [bQ.c0],by grind [bQ.c1],by grind [bQ.c2],by grind [bQ.c3],jn.c4⟩,hRB _ hbl,fun U hU=>⟨S,hs,hsame,by rw[eS,eF,eL,hv];rfl,(jn.toiZ.kp hU (fun b hb e=>by have:=(jn.qF b hb).1;omega)).mono hb0.size,aH.below iF hU iF.size (fun b e=>by omega)⟩⟩
theorem XQ (zw:oD) (k:aN) (a:fP) (sp:Int) (w:World) (hK:fT w a k) (hF:gW k) (hsp:dY sp) :
  Calls Tryz.prog 39 #[.agg (aT a k),I sp] w (bN w (wV k sp).1 [I (wV k sp).2.1,I (wV k sp).2.2]):=by
 obtain⟨WA,iK⟩:=ex ((w.alloc (.cells (aT a k) 27)).alloc (.cells #[Nl,Nl,Nl,Nl,I 0] 27));have hb0:Below w.heap.size w WA:=by simp_all [aK,mq]
 have kb:WA.heap[w.heap.size]?=some (.cells (aT a k) 27 (0,0)):=by grind [bE,bG]
 have rb:WA.heap[w.heap.size+1]?=some (.cells #[Nl,Nl,Nl,Nl,I 0] 27 (0,0)):=by
  grind [bG,World.size_alloc]
 have RB:Hid (∀V,Below WA.heap.size WA V->V.heap[w.heap.size+1]?=some (.cells #[Nl,Nl,Nl,Nl,I 0] 27 (0,0))):=fun V hb=>aQ rb hb (aO rb)
 have k0:WA.cell? (Ad w.heap.size 0)=some (.slice a.aS k.aA.length a.cS):=aB kb 0 rfl;have k1:WA.cell? (Ad w.heap.size 1)=some (.slice a.aF k.frames.length a.cF):=aB kb 1 rfl;have k2:WA.cell? (Ad w.heap.size 2)=some (.slice a.aL k.slots.length a.cL):=aB kb 2 rfl;have k3:WA.cell? (Ad w.heap.size 3)=some (.slice a.aP k.aj.length a.cP):=aB kb 3 rfl;have k4:WA.cell? (Ad w.heap.size 4)=some (I k.hand):=aB kb 4 rfl;have iG:=ai iK;have eO:=ai hb0;have hrl:=aO rb;have vt:=ai (wZ k a sp WA (hK.below hb0) hF hsp);have y9:Hid (∀(V:World) (C:Int),Below w.heap.size w V->bN w cJ [I 0,I C] (.returned (.tuple #[.agg #[Nl,Nl,Nl,Nl,I 0],I 0,I C])) V):=fun V C hV=>mo _ hV
 by_cases c:dM k sp=0
 · obtain⟨hR,wR,hj,mN⟩:=jy c;obtain⟨j,Xh⟩:∃j:Nat,sp=(j:Int):=⟨sp.toNat,by omega⟩;subst Xh;rw[iu] at hj mN;have hsm:=oC hR hF;have uq:Hid (Calls Tryz.prog 69 #[.agg (aT a k),I (j:Int)] WA fun e w'=>∃mb,e=.returned (.tuple #[.pointer (some (Ad mb 0)),I 0])/\WA.heap.size<=mb/\w'.heap[mb]?=some (.cells (mv a k) 104 (0,0))/\Below WA.heap.size WA w'):=vt.o.mono fun e w' ⟨h1,h2⟩=>by
    grind
   obtain⟨pb,po,hpo,hpl,Aw⟩:=hK.aj (by omega);obtain⟨va,ap,cp,v0,v1,v2,L3,Bn,_⟩:=Aw j hj;have oU:=L3;obtain⟨aa,ca,yt,_⟩:=L3;subst yt;have hrm:=tT k.aj k.aj.length;have hcc:=hR.c;have WJ:wV k (j:Int)=if k.aj.length=4 then (cJ,0,2) else if eW k.aj+cI (ak k.aj j).aZ>(k.slots.length:Int) then (cJ,0,8) else (tu k j,(k.aj.length:Int),0):=by
    unfold wV
    grind
   rw[WJ];have hfit:=(hF.sp j hj).aZ;have iF:∀{V:World},Below WA.heap.size WA V->Below w.heap.size w V:=fun hV=>hb0.trans (hV.mono hb0.size)
   have KT:(j:Int)<(k.aj.length:Int):=by omega
   have hsj:=hR.sp hj;have Ow:∀n,n<(ak k.aj j).aW.length->((aI (ak k.aj j).aW n).kind=1->0<=(aI (ak k.aj j).aW n).loc/\(aI (ak k.aj j).aW n).loc<(k.frames.length:Int))/\((aI (ak k.aj j).aW n).kind≠1->0<=(aI (ak k.aj j).aW n).loc/\(aI (ak k.aj j).aW n).loc<(k.slots.length:Int)):=fun n hn=>by
    obtain⟨_,e2⟩:=hsj.FC _ (jD (d:=eD) hn);rcases e2 with⟨e4,e5,e6⟩ | ⟨e4,e5,e6⟩
    · exact⟨fun _=>⟨e5,e6⟩,fun g=>absurd e4 g⟩
    · exact⟨fun g=>absurd (e4.symm.trans g) (by decide),fun _=>⟨e5,e6⟩⟩
   have hen:=jC hR hj;have har:=kg _ hsj.aZ;have W7:=fun n hn=>yQ hR hj n hn
   obtain⟨sj,acG⟩:=ex (ak k.aj j);have Gm:tu k j={ fA k sj.aW sj.aW.length with aj:=(fA k sj.aW sj.aW.length).aj++[sj] }:=by rw[acG];rfl
   rw[<- acG] at v0 v1 v2 oU Bn hfit Ow hen har mN W7 ⊢;obtain⟨lv,nj,py⟩:=sj;simp only at v0 v1 v2 oU Bn hfit Ow hen har mN W7 Gm;have HV:Hid (∀V,Below WA.heap.size WA V->V.cell? (Ad pb (po+j*3))=some (.bool lv)/\V.cell? (Ad pb (po+j*3+1))=some (.slice aa nj.length ca)/\V.cell? (Ad pb (po+j*3+2))=some (.slice ap py.length cp)):=fun V hV=>⟨((iF hV).cell (p:=(Ad pb (po+j*3))) hpl).trans v0,((iF hV).cell (p:=(Ad pb (po+j*3+1))) hpl).trans v1,((iF hV).cell (p:=(Ad pb (po+j*3+2))) hpl).trans v2⟩
   have WO:Hid (∀(V:World) mb,V.heap[mb]?=some (.cells (mv a k) 104 (0,0))->V.cell? (Ad mb 3)=some (.slice (some (Ad pb po)) k.aj.length a.cP)):=fun V mb h=>by
    have:=aB (v:=.slice a.aP k.aj.length a.cP) h 3 rfl;rw[hpo] at this;omega
   have Wd:Hid (∀(V:World) mb,V.heap[mb]?=some (.cells (mv a k) 104 (0,0))->V.cell? (Ad mb 2)=some (.slice a.aL k.slots.length a.cL)):=fun V mb h=>aB h 2 rfl
   by_cases c4:k.aj.length=4
   · rw[bf c4];have cZ:=ai (fun V (h:Below w.heap.size w V)=>y9.o V 2 h);obtain⟨P,hP⟩:=ex (bN w cJ [I 0,I 2]);show Calls _ _ _ _ (bN w cJ [I 0,I 2]);rw[<- hP] at cZ ⊢;have c4i:(k.aj.length:Int)=4:=by omega
     unfold aT at uq iG ⊢;clear hK hF hsp WJ c hP iK hb0 kb rb vt hR wR hj Aw v0 v1 v2 oU Bn hfit hpo hcc hrm hsm c4 y9 acG Gm Ow hen har mN W7 hsj iF;go_enter Tryz.func39,Tryz.ntmps39;go_upto_region 1 with fail;rw[<- iG.o];go_upto_region 5 with(go_at_call 69;refine uq.o.mono ?_;rintro e w1 ⟨mb,rfl,qP,hm2,hb1⟩;have Ql:=ai hm2;have cT:=ai hb1;have m3:=WO.o _ _ hm2;obtain⟨u0,u1,u2⟩:=HV.o _ hb1;clear qP hm2 hb1)
     have jo:=ai (cT.o.alloc cT.o.size (.cells #[.bool lv,.slice aa nj.length ca,.slice ap py.length cp] 43));have B3:=ai (bG w1 #[.bool lv,.slice aa nj.length ca,.slice ap py.length cp] 43);have M3:=ai (bE Ql.o (.cells #[.bool lv,.slice aa nj.length ca,.slice ap py.length cp] 43));have HMX:Hid (w1.heap.size≠mb):=(show w1.heap.size≠mb from fun e=>by have:=aO Ql.o;omega);obtain⟨W3,hW3⟩:=ex (w1.alloc (.cells #[.bool lv,.slice aa nj.length ca,.slice ap py.length cp] 43));obtain⟨fb,G3⟩:=ex w1.heap.size;rw[<- hW3] at jo B3 M3 ⊢;rw[<- G3] at B3 HMX ⊢;clear hW3 G3 m3 u0 u1 u2;have m3:=WO.o _ _ M3.o;go_upto_region 6 with fail;have R1:=ai (RB.o _ jo.o);have kO:=ai (eO.o.trans (jo.o.mono eO.o.size));obtain⟨y0,y1,y2,y3,y4⟩:=dx R1.o;have f0:=aJ R1.o 0;have f1:=aJ R1.o 1;have f2:=aJ R1.o 2;have f3:=aJ R1.o 3;have f4:=aJ R1.o 4;have h5:=ai (fun V=>gY R1.o Nl Nl Nl Nl (I 0) (V:=V));go_wp2;obtain⟨r1,r2⟩:=h5.out _ rfl;obtain⟨y0,y1,y2,y3,y4⟩:=dx r1;refine bR (v:=.tuple #[.agg #[Nl,Nl,Nl,Nl,I 0],I 0,I 2]) (by simp[results,Tryz.results39,go_sem,y0,y1,y2,y3,y4]) rfl ?_;exact cZ.o _ (aH.below kO.o r2 kO.o.size (fun b e=>by omega))
   rw[bl c4];have MC:Hid (∀V mb,Below WA.heap.size WA V->V.heap[mb]?=some (.cells (mv a k) 104 (0,0))->Calls Tryz.prog 83 #[.pointer (some (Ad mb 0))] V fun e w'=>e=.returned (I (eW k.aj))/\Below V.heap.size V w'):=fun V mb hV hm=>CP k.aj a.aP a.cP mb V (hK.aj.below (iF hV)) (fun i hi=>(hF.sp i hi).aZ) (by omega) (aB hm 3 rfl)
   have ZE:Hid (∀V,Below WA.heap.size WA V->Calls Tryz.prog 54 #[.slice aa nj.length ca] V fun e w'=>e=.returned (I (cI nj))/\Below V.heap.size V w'):=fun V hV=>uY _ _ V (oU.below (iF hV)) hfit
   have hd1:=nZ nj;have c4i:¬(k.aj.length:Int)=4:=by omega
   by_cases cr:eW k.aj+cI nj>(k.slots.length:Int)
   · rw[bf cr];obtain⟨RM,Oa⟩:=ex (eW k.aj);obtain⟨T1,hT1⟩:=ex (cI nj);have aea:0<=RM/\RM<=65025*4:=by
      rw[Oa];unfold eW;omega
     rw[<- hT1] at hd1 ZE cr;rw[<- Oa] at MC cr;have cZ:=ai (fun V (h:Below w.heap.size w V)=>y9.o V 8 h);obtain⟨P,hP⟩:=ex (bN w cJ [I 0,I 8]);show Calls _ _ _ _ (bN w cJ [I 0,I 8]);rw[<- hP] at cZ ⊢;have c2:(k.slots.length:Int)<RM+T1:=cr;unfold aT at uq iG ⊢;clear hK hF hsp WJ c hP iK hb0 kb rb vt hR wR hj Aw v0 v1 v2 oU Bn hfit hpo hcc hrm hsm c4 y9 acG Gm Ow hen har mN W7 hsj iF Oa hT1 cr;go_enter Tryz.func39,Tryz.ntmps39;go_upto_region 1 with fail;rw[<- iG.o];go_upto_region 5 with(go_at_call 69;refine uq.o.mono ?_;rintro e w1 ⟨mb,rfl,qP,hm2,hb1⟩;have Ql:=ai hm2;have cT:=ai hb1;have m3:=WO.o _ _ hm2;obtain⟨u0,u1,u2⟩:=HV.o _ hb1;clear qP hm2 hb1)
     have jo:=ai (cT.o.alloc cT.o.size (.cells #[.bool lv,.slice aa nj.length ca,.slice ap py.length cp] 43));have B3:=ai (bG w1 #[.bool lv,.slice aa nj.length ca,.slice ap py.length cp] 43);have M3:=ai (bE Ql.o (.cells #[.bool lv,.slice aa nj.length ca,.slice ap py.length cp] 43));have HMX:Hid (w1.heap.size≠mb):=(show w1.heap.size≠mb from fun e=>by have:=aO Ql.o;omega);obtain⟨W3,hW3⟩:=ex (w1.alloc (.cells #[.bool lv,.slice aa nj.length ca,.slice ap py.length cp] 43));obtain⟨fb,G3⟩:=ex w1.heap.size;rw[<- hW3] at jo B3 M3 ⊢;rw[<- G3] at B3 HMX ⊢;clear hW3 G3 m3 u0 u1 u2;have m3:=WO.o _ _ M3.o;go_upto_region 7 with fail;have rB:=gw W3;have q1:∀x:dB W3.heap.size W3,x.world.cell? (Ad fb 1)=some (.slice aa nj.length ca):=fun x=>aB (aQ B3.o x.keeps (aO B3.o)) 1 rfl
     have q2:∀x:dB W3.heap.size W3,x.world.cell? (Ad mb 2)=some (.slice a.aL k.slots.length a.cL):=fun x=>Wd.o _ _ (aQ M3.o x.keeps (aO M3.o))
     have LJ:=ai (fun V (hV:Below W3.heap.size W3 V)=>MC.o V mb (jo.o.trans (hV.mono jo.o.size)) (aQ M3.o hV (aO M3.o)));have LH:=ai (fun V (hV:Below W3.heap.size W3 V)=>ZE.o V (jo.o.trans (hV.mono jo.o.size)));clear m3;refine cD (by kernel_rfl) (by kernel_rfl) ?_
     repeat (first | go_big_quiet_step ((first | (go_at_call 83;exact eV _ LJ.o) | (go_at_call 54;exact eV _ LH.o))) | quiet_step ((first | (go_at_call 83;exact eV _ LJ.o) | (go_at_call 54;exact eV _ LH.o))))
     refine fR ?_;rintro _ ⟨X,rfl⟩;have oo:=ai (jo.o.trans (X.keeps.mono jo.o.size));have R1:=ai (RB.o _ oo.o);have kO:=ai (eO.o.trans (oo.o.mono eO.o.size));obtain⟨y0,y1,y2,y3,y4⟩:=dx R1.o;have f0:=aJ R1.o 0;have f1:=aJ R1.o 1;have f2:=aJ R1.o 2;have f3:=aJ R1.o 3;have f4:=aJ R1.o 4;have h5:=ai (fun V=>gY R1.o Nl Nl Nl Nl (I 0) (V:=V));go_wp2;obtain⟨r1,r2⟩:=h5.out _ rfl;obtain⟨y0,y1,y2,y3,y4⟩:=dx r1;refine bR (v:=.tuple #[.agg #[Nl,Nl,Nl,Nl,I 0],I 0,I 8]) (by simp[results,Tryz.results39,go_sem,y0,y1,y2,y3,y4]) rfl ?_;exact cZ.o _ (aH.below kO.o r2 kO.o.size (fun b e=>by omega))
   rw[bl cr];have HOW:Hid (∀V mb,Below WA.heap.size WA V->WA.heap.size<=mb->V.heap[mb]?=some (.cells (mv a k) 104 (0,0))->Calls Tryz.prog 84 #[.pointer (some (Ad mb 0))] V fun e w'=>e=.returned (.tuple #[])/\∃S hs,dw k.aA hs/\bQ WA.heap.size mb 104 (ik k) w' S (bu k hs)/\(∀b,S.lab b≠.no->b=mb∨V.heap.size<=b)/\aH (fun b=>b=mb) V w'):=fun V mb hV qP hm2=>Ha zw k a mb V (hK.below (iF hV)) hsm hm2 WA.heap.size qP
   have px:Hid (∀V n,Below WA.heap.size WA V->n<py.length->∃eb eo,ap=some (Ad eb eo)/\V.cell? (Ad eb (eo+n*3))=some (I (aI py n).page)/\V.cell? (Ad eb (eo+n*3+1))=some (I (aI py n).kind)/\V.cell? (Ad eb (eo+n*3+2))=some (I (aI py n).loc)):=fun V n hV hn=>by
    obtain⟨eb,eo,e1,e2,e3⟩:=(Bn.below (iF hV)) (by omega);have z0:=e3 n hn 0 (by omega);rw[gV] at z0;exact⟨eb,eo,e1,z0,e3 n hn 1 (by omega),e3 n hn 2 (by omega)⟩
   have ZM:Hid (∀V S mb hs n,n<py.length->bQ WA.heap.size mb 104 (ik k) V S (bu (fA k py n) hs)->Calls Tryz.prog 85 #[.pointer (some (Ad mb 0)),.agg #[I (aI py n).page,I (aI py n).kind,I (aI py n).loc],I 1] V fun e w'=>e=.returned (.tuple #[])/\bQ WA.heap.size mb 104 (ik k) w' S (bu (fA k py (n+1)) hs)/\dI S V S w'):=fun V S mb hs n hn hV=>by
    have hp:=W7 n (by omega);have Ox:=XN hR hj acG n (rV hn);refine(CO (bu (fA k py n) hs) S V (aI py n) 1 hV (fun g=>?_) (fun g=>?_) (.inl rfl) ⟨fun g=>?_,fun g=>?_⟩).mono fun e w' ⟨h1,h2,h3⟩=>⟨h1,?_,h3⟩
    · show _/\_<((fA k py n).frames.length:Int);rw[hp.2.2.2.1];exact(Ow n hn).1 g
    · show _/\_<((fA k py n).slots.length:Int);rw[hp.2.2.2.2.1];exact(Ow n hn).2 g
    · exact Ox.1 _ (by have:=(Ow n hn).1 g;omega)
    · exact Ox.2 _ (by have:=(Ow n hn).2 g;omega)
    · rw[PY] at h2;exact h2
   have WN:Hid (∀n,n<=py.length->(fA k py n).aj.length=k.aj.length):=fun n hn=>by rw[(W7 n hn).2.2.1]
   have HSK:Hid ((tu k j).aA=k.aA/\(tu k j).hand=k.hand/\(tu k j).aj.length=k.aj.length+1):=by
    have hp:=W7 py.length (aM _);rw[Gm];refine⟨hp.1,hp.2.1,?_⟩;show((fA k py py.length).aj++[_]).length=_;rw[gh,hp.2.2.1];rfl
   have HFK:Hid (∀hs,bu (tu k j) hs={ bu (fA k py py.length) hs with aj:=(bu (fA k py py.length) hs).aj++[⟨lv,nj,py⟩] }):=fun hs=>by rw[Gm];rfl
   have HHA:Hid (∀V,Below WA.heap.size WA V->eU V (.slice aa nj.length ca) nj/\dz bk 3 eD V ap py):=fun V hV=>⟨oU.below (iF hV),Bn.below (iF hV)⟩
   obtain⟨RM,Oa⟩:=ex (eW k.aj);obtain⟨T1,hT1⟩:=ex (cI nj);have aea:0<=RM/\RM<=65025*4:=by
    rw[Oa];unfold eW;omega
   rw[<- hT1] at hd1 ZE cr;rw[<- Oa] at MC cr;obtain⟨P,hP⟩:=ex (bN w (tu k j) [I (k.aj.length:Int),I 0]);show Calls _ _ _ _ (bN w (tu k j) [I (k.aj.length:Int),I 0]);rw[<- hP];have HP:=ai hP;have c2:¬(k.slots.length:Int)<RM+T1:=cr;have avp:k.aj.length<=4:=by omega
   unfold aT at uq iG ⊢;clear hK hF hsp WJ c hP iK hb0 kb rb vt hR wR hj Aw v0 v1 v2 oU Bn hfit hpo hcc hrm hsm c4 y9 acG Gm Ow mN W7 hsj iF Oa hT1 cr zw;go_enter Tryz.func39,Tryz.ntmps39;go_upto_region 1 with fail;rw[<- iG.o];go_upto_region 5 with(go_at_call 69;refine uq.o.mono ?_;rintro e w1 ⟨mb,rfl,qP,hm2,hb1⟩;have JY:=ai qP;have Ql:=ai hm2;have cT:=ai hb1;have m3:=WO.o _ _ hm2;obtain⟨u0,u1,u2⟩:=HV.o _ hb1;clear qP hm2 hb1)
   have jo:=ai (cT.o.alloc cT.o.size (.cells #[.bool lv,.slice aa nj.length ca,.slice ap py.length cp] 43));have B3:=ai (bG w1 #[.bool lv,.slice aa nj.length ca,.slice ap py.length cp] 43);have M3:=ai (bE Ql.o (.cells #[.bool lv,.slice aa nj.length ca,.slice ap py.length cp] 43));have HMX:Hid (w1.heap.size≠mb):=(show w1.heap.size≠mb from fun e=>by have:=aO Ql.o;omega);obtain⟨W3,hW3⟩:=ex (w1.alloc (.cells #[.bool lv,.slice aa nj.length ca,.slice ap py.length cp] 43));obtain⟨fb,G3⟩:=ex w1.heap.size;rw[<- hW3] at jo B3 M3 ⊢;rw[<- G3] at B3 HMX ⊢;clear hW3 G3 m3 u0 u1 u2;have m3:=WO.o _ _ M3.o;go_upto_region 7 with fail;have rB:=gw W3;have q1:∀x:dB W3.heap.size W3,x.world.cell? (Ad fb 1)=some (.slice aa nj.length ca):=fun x=>aB (aQ B3.o x.keeps (aO B3.o)) 1 rfl
   have q2:∀x:dB W3.heap.size W3,x.world.cell? (Ad mb 2)=some (.slice a.aL k.slots.length a.cL):=fun x=>Wd.o _ _ (aQ M3.o x.keeps (aO M3.o))
   have LJ:=ai (fun V (hV:Below W3.heap.size W3 V)=>MC.o V mb (jo.o.trans (hV.mono jo.o.size)) (aQ M3.o hV (aO M3.o)));have LH:=ai (fun V (hV:Below W3.heap.size W3 V)=>ZE.o V (jo.o.trans (hV.mono jo.o.size)));clear m3;refine cD (by kernel_rfl) (by kernel_rfl) ?_
   repeat (first | go_big_quiet_step ((first | (go_at_call 83;exact eV _ LJ.o) | (go_at_call 54;exact eV _ LH.o))) | quiet_step ((first | (go_at_call 83;exact eV _ LJ.o) | (go_at_call 54;exact eV _ LH.o))))
   refine fR ?_;rintro _ ⟨X,rfl⟩;have oo:=ai (jo.o.trans (X.keeps.mono jo.o.size));have MX:=ai (aQ M3.o X.keeps (aO M3.o));have BX:=ai (aQ B3.o X.keeps (aO B3.o));clear rB q2 q1 LJ LH MC ZE;obtain⟨WX,N9⟩:=ex X.world;rw[<- N9] at oo MX BX ⊢;clear N9;go_upto_region 10 with(go_at_call 84;refine(HOW.o _ _ oo.o JY.o MX.o).mono ?_;rintro e w4 ⟨rfl,S,hs,hs2,hk2,II,aeh⟩;have qd:=ai hs2;have pH:=ai hk2;have QM:=ai II;have Sk:=ai aeh;clear hs2 hk2 II aeh)
   have rU:S.lab fb=.no:=pK.1 fun g=>by
    rcases QM.o fb g with e | e
    · exact HMX.o e
    · have:=aO BX.o;omega
   have Wc:=ai rU;have B4:=ai (Sk.o.keep BX.o HMX.o);have al2:Below WA.heap.size WA w4:=aH.below oo.o Sk.o oo.o.size (fun b e=>by have:=JY.o;omega);have kO:=ai al2;have x2:w4.cell? (Ad fb 2)=some (.slice ap py.length cp):=aB B4.o 2 rfl;have amV:Hid (∀V,aH (fun b=>S.lab b≠.no) w4 V->V.heap[fb]?=some (.cells #[.bool lv,.slice aa nj.length ca,.slice ap py.length cp] 43 (0,0))/\Below WA.heap.size WA V):=fun V hV=>⟨hV.keep B4.o (fun g=>g Wc.o),aH.below kO.o hV kO.o.size (fun b hb=>(pH.o.qF b hb).1)⟩
   clear rU al2;go_wp2;go_loopw [59] (fun iv wq=>∃n:Nat,n<=py.length/\iv=I (n:Int)/\bQ WA.heap.size mb 104 (ik k) wq S (bu (fA k py n) hs)/\aH (fun b=>S.lab b≠.no) w4 wq) (fun iv _=>py.length-(intOf iv).toNat)
   case atStart=>exact⟨0,by omega,rfl,pH.o,aH.refl _ _⟩
   case round =>
    obtain⟨n,hn,rfl,jn,hkq⟩:=hrel;by_cases hlt:n<py.length
    · have hni:(n:Int)<(py.length:Int):=by omega
      obtain⟨G3,zB⟩:=amV.o wr hkq;obtain⟨eb,eo,hap,z0,z1,z2⟩:=px.o wr n zB hlt;have vv:Hid (Calls Tryz.prog 85 #[.pointer (some (Ad mb 0)),.agg #[I (aI py n).page,I (aI py n).kind,I (aI py n).loc],I 1] (wr.alloc (.cells #[I (aI py n).page,I (aI py n).kind,I (aI py n).loc] 45)) fun e w'=>e=.returned (.tuple #[])/\bQ WA.heap.size mb 104 (ik k) w' S (bu (fA k py (n+1)) hs)/\aH (fun b=>S.lab b≠.no) w4 w'):=(ZM.o _ S mb hs n hlt (jn.below ((aK _ _).alloc (aM _) _))).mono fun e w' ⟨h1,h2,h3⟩=>⟨h1,h2,(hkq.trans (aH.alloc _ _ _) (fun _ _ g=>g)).trans h3.kp (fun _ _ g=>g)⟩
      obtain⟨en,aen⟩:=ex (aI py n);rw[<- aen] at z0 z1 z2 vv;obtain⟨g1,g2,g3⟩:=en;simp only at z0 z1 z2 vv;subst hap;clear jn hkq G3 zB aen ZM px;go_wp2_with (go_at_call 85;refine vv.o.mono ?_;rintro e w5 ⟨rfl,h5,h6⟩;have Bj:=ai h5;have HP5:=ai h6;clear h5 h6)
      go_roundw
      case rel=>exact⟨n+1,by omega,by go_num,Bj.o,HP5.o⟩
      case measure=>simp[intOf];omega
    · obtain rfl:n=py.length:=by omega
      obtain⟨G3,zB⟩:=amV.o wr hkq;obtain⟨bP,dP,eP,_⟩:=aY jn.aj;have hLl:S.L.length<=1000000:=by
       have:=jn.len;have e:(bu (fA k py py.length) hs).aj.length=k.aj.length:=WN.o _ (aM _);omega
      have HLK:Hid (S.L.length=k.aj.length):=by
       have:=jn.len;have e:(bu (fA k py py.length) hs).aj.length=k.aj.length:=WN.o _ (aM _);exact(show S.L.length=k.aj.length by omega)
      have WH:Below wr.heap.size wr wr.drew:=(aK _ _).drew;have BD:wr.drew.heap[fb]?=some (.cells #[.bool lv,.slice aa nj.length ca,.slice ap py.length cp] 43 (0,0)):=aQ G3 WH (aO G3);obtain⟨WD,Gn⟩:=ex wr.drew;rw[<- Gn] at WH BD;have HWD:=ai Gn;have hkD:=jn.below WH;have hlD:WA.heap.size<=WD.heap.size:=gJ zB.size WH.size;have agJ:Below WA.heap.size WA WD:=zB.trans (WH.mono zB.size);obtain⟨hh1,hh2⟩:=HHA.o WD agJ;have HCP:Hid (Calls Tryz.prog 86 #[.agg #[.bool lv,.slice aa nj.length ca,.slice ap py.length cp]] WD fun e w'=>∃xa nx cx ya ny cy,e=.returned (.agg #[.bool lv,.slice xa nx cx,.slice ya ny cy])/\l6 WD.heap.size w' ⟨lv,.slice xa nx cx,.slice ya ny cy⟩ ⟨lv,nj,py⟩/\(∀b,bI (.slice ya ny cy) b->¬bI (.slice xa nx cx) b)/\Below WD.heap.size WD w'):=(Gx ⟨lv,nj,py⟩ aa ap nj.length ca cp WD hh1 hh2 (by show nj.length<=_;omega) (by show py.length<=_;omega)).mono fun e w' ⟨va,vp,h1,h2,h3,h4⟩=>by
       obtain⟨xa,cx,ex,_⟩:=aY h2.aZ;obtain⟨ya,cy,ey,_⟩:=aY h2.aR;have ex:va=_:=ex;have ey:vp=_:=ey;subst ex ey;exact⟨xa,_,cx,ya,_,cy,h1,h2,h3,h4⟩
      have ako:Hid (∀V,aH (fun b=>bI S.vP b) WD V->V.cell? (Ad mb 3)=some (.slice bP S.L.length dP)/\V.cell? (Ad fb 0)=some (.bool lv)/\V.cell? (Ad fb 1)=some (.slice aa nj.length ca)/\V.cell? (Ad fb 2)=some (.slice ap py.length cp)/\V.frozen? (Ad mb 3)=false):=fun V hV=>by
       have b1:=hV.keep hkD.head (fun g=>by have:=jn.lP _ g;rw[jn.lH] at this;simp at this);have b2:=hV.keep BD (fun g=>by have:=jn.lP _ g;rw[Wc.o] at this;simp at this);refine⟨?_,aB b2 0 rfl,aB b2 1 rfl,aB b2 2 rfl,aJ b1 3⟩;rw[<- eP];exact aB b1 3 rfl
      have Sh:Hid (∀w2 o,Below WD.heap.size WD w2->(w2.alloc o).ownsRow WA.heap.size 43 3 (.slice bP S.L.length dP) S.L.length (S.L.flatMap fL)):=fun w2 o hb=>by
       have:=((aH.b7 (D:=fun _=>False) hb).trans (aH.alloc _ w2 o) (fun _ _ g=>g)).row hkD.aj (fun _ _ g=>g);rw[eP] at this;omega
      have Wa:Hid (∀w2 w4 O v' l,Below WD.heap.size WD w2->l6 WD.heap.size w2 l ⟨lv,nj,py⟩->(∀b,bI l.vp b->¬bI l.va b)->(w2.alloc O).grownBy w4 S.vP.ownBlock->w4.ownsRow WA.heap.size 43 3 v' (S.L.length+1) (S.L.flatMap fL++fL l)->(v'.ownBlock=S.vP.ownBlock∨v'.ownBlock=some (w2.alloc O).heap.size)->ab9 WA (w4.setCell (Ad mb 3) v') mb (tu k j) (ik k) v'):=fun w2 w4 O v' l h1 h2 h3 h4 h5 h6=>by
       have m1:=hkD.push hlD h1 h2 h3 h4 h5 h6;have m2:=m1.1;rw[<- HFK.o hs] at m2;exact⟨_,hs,by rw[HSK.o.1];exact qd.o,m2,rfl,aH.below agJ m1.2.2 agJ.size (fun b hb=>(hkD.qF b hb).1)⟩
      have Ku:Hid (∀w2,Below WD.heap.size WD w2->aH (fun b=>bI S.vP b) WD w2):=fun w2 h=>aH.b7 h
      have HEP:=ai eP;obtain⟨i0,hin,hz0,hz1,hz2⟩:=iq Lc;have tP:=ai hin;have Dg:=ai hz0;have Df:=ai hz1;have BI:=ai hz2;clear jn hkD hkq zB G3 hh1 hh2 Gn WH BD eP hin hz0 hz1 hz2 agJ ZM px;go_upto_region 15 with fail;refine nB (S:=fun V=>aH (fun b=>bI S.vP b) WD V) (z:=13) (by kernel_rfl) ?_;rw[<- HWD.o];have ij:=ako;have gj:Hid (aH (fun b=>bI S.vP b) WD WD):=aH.refl _ _;refine cB 0 gj.o ?_ ?_ ?_;rotate_left 1
      · intro V h;obtain⟨k0,k1,k2,k3,k4⟩:=ij.o V h;go_simp
        try with_reducible rfl
      refine cB 1 gj.o ?_ ?_ ?_;rotate_left 1
      · intro V h;obtain⟨k0,k1,k2,k3,k4⟩:=ij.o V h;go_simp
        try with_reducible rfl
      refine cB 2 gj.o ?_ ?_ ?_;rotate_left 1
      · intro V h;obtain⟨k0,k1,k2,k3,k4⟩:=ij.o V h;go_simp
        try with_reducible rfl
      refine cB 3 gj.o ?_ ?_ ?_;rotate_left 1
      · intro V h;obtain⟨k0,k1,k2,k3,k4⟩:=ij.o V h;go_simp
        try with_reducible rfl
      refine cB 4 gj.o ?_ ?_ ?_;rotate_left 1
      · intro V h;obtain⟨k0,k1,k2,k3,k4⟩:=ij.o V h;go_simp
        try with_reducible rfl
      refine cB 5 gj.o ?_ ?_ ?_;rotate_left 1
      · intro V h;obtain⟨k0,k1,k2,k3,k4⟩:=ij.o V h;go_simp
        try with_reducible rfl
      refine cB 6 gj.o ?_ ?_ ?_;rotate_left 1
      · intro V h;obtain⟨k0,k1,k2,k3,k4⟩:=ij.o V h;go_simp
        try with_reducible rfl
      refine ck (rs:=[7]) (by kernel_rfl) (by simp) ?_;refine aU.cons rfl (fun K hK=>?_) aU.nil;rw[bf (by rfl)];go_simp;go_at_call 86;refine HCP.o.mono ?_;rintro e w6 ⟨xa,nx,cx,ya,ny,cy,rfl,hso,hap,hb2⟩;have DY:=ai hso;have HAP:=ai hap;have fq:=ai hb2;have vr:=ai (Ku.o _ hb2);clear hso hap hb2;try go_simp;refine hK.out _ _ (fun _=>?_) ?_
      · exact vr.o
      clear hK K
      try simp only[Act.put,bW,bV,bU]
      refine ck (rs:=[8]) (by kernel_rfl) (by simp) ?_;refine aU.cons rfl (fun K hK=>?_) aU.nil;go_simp;refine hK.out _ _ (fun _=>?_) ?_
      · exact vr.o.trans (aH.alloc _ _ _) (fun _ _ g=>g)
      clear hK K
      try simp only[Act.put,bW,bV,bU]
      have apf:=fq.o.size;refine ck (rs:=[9]) (by kernel_rfl) (by simp) ?_;refine aU.cons rfl (fun K hK=>?_) aU.nil;rw[bf (by rfl)];refine eK (P:=Tryz.prog) _ _ 25 rfl WA.heap.size 43 i0 (.agg #[.bool false,Nl,Nl]) 3 56 Tryz.underlying25 tP.o Dg.o Df.o BI.o rfl (by decide) (.slice bP S.L.length dP) S.L.length (S.L.flatMap fL) rfl (Sh.o _ _ fq.o) (some (Ad w6.heap.size 0)) 1 1 (fL ⟨lv,.slice xa nx cx,.slice ya ny cy⟩) rfl rfl (fun _=>⟨_,rfl,SZ w6 _ _⟩) (by intro u hu;simp[fL] at hu;rcases hu with rfl | rfl | rfl <;> rfl) (by unfold maxLen;omega) (by omega) (by rw[iJ];omega) ?_;intro vG wG zu Ce D5;obtain⟨aG,cG,MT,_,_⟩:=aY zu;subst MT;rw[<- HEP.o] at Ce D5;have BJ:Hid (aH (fun b=>bI S.vP b) WD wG):=(vr.o.trans (aH.alloc _ _ _) (fun _ _ g=>g)).trans (aH.grown Ce (fun q hq=>hq)) (fun _ _ g=>g);have HPF:=ai (Wa.o w6 wG _ _ ⟨lv,.slice xa nx cx,.slice ya ny cy⟩ fq.o DY.o HAP.o Ce zu D5);clear zu Ce D5;refine hK.out _ _ (fun _=>?_) ?_
      · exact BJ.o
      clear hK K
      try simp only[Act.put,bW,bV,bU]
      refine ck (rs:=[10]) (by kernel_rfl) (by simp) ?_;refine aU.cons rfl (fun K hK=>?_) aU.nil;go_simp;refine hK.out _ _ (fun _=>?_) ?_
      · exact BJ.o
      clear hK K
      try simp only[Act.put,bW,bV,bU]
      refine ck (rs:=[11]) (by kernel_rfl) (by simp) ?_;refine aU.cons rfl (fun K hK=>?_) aU.nil;go_simp;refine hK.out _ _ (fun _=>?_) ?_
      · exact BJ.o
      clear hK K
      try simp only[Act.put,bW,bV,bU]
      refine cB 12 BJ.o ?_ ?_ ?_;rotate_left 1
      · intro V h;obtain⟨k0,k1,k2,k3,k4⟩:=ij.o V h;go_simp
        try with_reducible rfl
      obtain⟨k0,k1,k2,k3,k4⟩:=ij.o _ BJ.o;refine ck (rs:=[13]) (by kernel_rfl) (by simp) ?_;refine aU.cons rfl (fun K hK=>?_) aU.nil;go_simp;refine hK.out _ _ (fun g=>absurd rfl g) ?_;refine jL (by kernel_rfl) ?_ _;clear k0 k1 k2 k3 k4;obtain⟨aS,nS,cS,aF,nF,cF,aL,nL,cL,hd,hcells,hr3,hfin⟩:=UK HPF.o RB.o eO.o hrl [I (k.aj.length:Int),I 0];have qN:=ai hfin;have R3:=ai hr3;have Oj:=ai hcells;obtain⟨W5,Oz⟩:=ex (wG.setCell (Ad mb 3) (.slice aG (S.L.length+1) cG));rw[<- Oz] at Oj R3 qN ⊢;clear Oz hfin hr3 hcells;obtain⟨q0,q1,q2,q3,q4⟩:=Oj.o;obtain⟨y0,y1,y2,y3,y4⟩:=dx R3.o;have f0:=aJ R3.o 0;have f1:=aJ R3.o 1;have f2:=aJ R3.o 2;have f3:=aJ R3.o 3;have f4:=aJ R3.o 4;have h5:=ai (fun V=>gY R3.o (.slice aS nS cS) (.slice aF nF cF) (.slice aL nL cL) (.slice aG (S.L.length+1) cG) (I hd) (V:=V));have Xd:¬mb=w.heap.size+1:=by have:=JY.o;omega
      have alA:¬w.heap.size+1=mb:=by omega
      go_upto_region 16 with fail;go_region;go_wp2;obtain⟨r1,r2⟩:=h5.out _ rfl;obtain⟨y0,y1,y2,y3,y4⟩:=dx (aQ r1 (aK _ _).drew (aO r1));refine bR (v:=.tuple #[.agg #[.slice aS nS cS,.slice aF nF cF,.slice aL nL cL,.slice aG (S.L.length+1) cG,I hd],I (S.L.length:Int),I 0]) (by simp[results,Tryz.results39,go_sem,y0,y1,y2,y3,y4]) rfl ?_;have e:(I (S.L.length:Int):Value)=I (k.aj.length:Int):=by rw[HLK.o]
      rw[e,HP.o];exact qN.o _ (r2.trans (aH.drew _ _) (fun _ _ g=>g))
 · have hA:wV k sp=(cJ,0,dM k sp):=by grind [wV]
   rw[hA];have abr:=ai (Eh vt.o c);obtain⟨C,hC2⟩:=ex (dM k sp);rw[<- hC2] at abr c ⊢;have cb:(C != 0)=true:=by grind
   have cZ:=ai (fun V (h:Below w.heap.size w V)=>y9.o V C h);obtain⟨P,hP⟩:=ex (bN w cJ [I 0,I C]);show Calls _ _ _ _ (bN w cJ [I 0,I C]);rw[<- hP] at cZ ⊢;unfold aT at abr iG ⊢;clear hK hF hsp hA hC2 c hP iK hb0 kb rb vt y9 zw;go_enter Tryz.func39,Tryz.ntmps39;go_upto_region 1 with fail;rw[<- iG.o];go_upto_region 3 with(go_at_call 69;refine abr.o.mono ?_;rintro e w1 ⟨rfl,hb1⟩;have kO:=ai (eO.o.trans (hb1.mono eO.o.size));have R1:=ai (RB.o _ hb1);clear hb1)
   obtain⟨y0,y1,y2,y3,y4⟩:=dx R1.o;have f0:=aJ R1.o 0;have f1:=aJ R1.o 1;have f2:=aJ R1.o 2;have f3:=aJ R1.o 3;have f4:=aJ R1.o 4;have h5:=ai (fun V=>gY R1.o Nl Nl Nl Nl (I 0) (V:=V));go_wp2;obtain⟨r1,r2⟩:=h5.out _ rfl;obtain⟨y0,y1,y2,y3,y4⟩:=dx r1;refine bR (v:=.tuple #[.agg #[Nl,Nl,Nl,Nl,I 0],I 0,I C]) (by simp[results,Tryz.results39,go_sem,y0,y1,y2,y3,y4]) rfl ?_;exact cZ.o _ (aH.below kO.o r2 kO.o.size (fun b e=>by omega))
theorem wW:oD:=fun k a w hK hs=>Pj k a w hK hs
def Ao (V:World) (K:List bM->aN) (a:fP):Prop:=∃b1 b2 b3 d1 d2 d3,fT V a (K (jN b1 b2 b3 d1 d2 d3))
theorem FV {w:World} {K:List bM->aN} {H:List bM} {vs:List Value} {e:Ending} {w':World} (hH:H.map eQ=LB) (hS:∀H,(K H).aA=H) (hW:∀H H',bu (K H) H'=K H') (h:bN w (K H) vs e w'):∃a b1 b2 b3 d1 d2 d3,e=.returned (.tuple (Value.agg (aT a (K (jN b1 b2 b3 d1 d2 d3)))::vs).toArray)/\(∀U,aH (fun b=>b<w.heap.size) w' U->Ao U K a)/\Below w.heap.size w w':=by
 obtain⟨hs,a,h1,h2,h3,h4⟩:=Qd h;rw[hS] at h1;obtain⟨b1,b2,b3,d1,d2,d3,rfl⟩:=YQ (Eq.trans h1 hH);rw[hW] at h2 h3;exact⟨a,b1,b2,b3,d1,d2,d3,h2,fun U hU=>⟨b1,b2,b3,d1,d2,d3,h3 U hU⟩,h4⟩
theorem Am (b1 b2 b3:Option Addr) (d1 d2 d3:Nat):(jN b1 b2 b3 d1 d2 d3).map eQ=LB:=rfl
theorem adp {V:World} {ar ah:Option Addr} {cr ch:Nat} {a1 a2 a3:Option Addr} {c1 c2 c3:Nat} (h1:eU V (.slice ar 2 cr) tX) (h2:iM V ah (jN a1 a2 a3 c1 c2 c3)) (h3:3<=ch):Calls Tryz.prog 18 #[.agg #[.slice ar 2 cr,.slice ah 3 ch,I 16],I 3,I 8] V fun e w'=>∃a,e=.returned (.tuple #[.agg #[.slice a.aS 3 a.cS,.slice a.aF 3 a.cF,.slice a.aL 8 a.cL,.slice a.aP 1 a.cP,I 0],I 0])/\(∀U,aH (fun b=>b<V.heap.size) w' U->Ao U Hr a)/\Below V.heap.size V w':=by
 refine(aam wW tX (jN a1 a2 a3 c1 c2 c3) 16 3 8 (.slice ar 2 cr) ah ch V h1 aa5 h2 (aa4 a1 a2 a3 c1 c2 c3) h3 (by grind [dY])).mono fun e w' h=>?_
 have e0:Oh tX (jN a1 a2 a3 c1 c2 c3) 16 3 8=(Hr (jN a1 a2 a3 c1 c2 c3),0):=by rfl
 rw[e0] at h;obtain⟨a,b1,b2,b3,d1,d2,d3,g1,g2,g3⟩:=FV (Am _ _ _ _ _ _) (fun _=>rfl) (fun _ _=>rfl) h;exact⟨a,g1,g2,g3⟩
theorem VQ {V:World} {a:fP} (h:Ao V Hr a):Calls Tryz.prog 28 #[.agg #[.slice a.aS 3 a.cS,.slice a.aF 3 a.cF,.slice a.aL 8 a.cL,.slice a.aP 1 a.cP,I 0],I 0,I 46,.string ⟨#[119,120,121,122]⟩] V fun e w'=>∃a,e=.returned (.tuple #[.agg #[.slice a.aS 3 a.cS,.slice a.aF 3 a.cF,.slice a.aL 8 a.cL,.slice a.aP 1 a.cP,I 0],.agg #[I 0,I 0],I 0])/\(∀U,aH (fun b=>b<V.heap.size) w' U->Ao U Hq a)/\Below V.heap.size V w':=by
 obtain⟨b1,b2,b3,d1,d2,d3,hk⟩:=h;refine(CI wW _ a 0 46 aeZ V hk (aa8 b1 b2 b3 d1 d2 d3) (by grind [dY]) (by grind [dY])).mono fun e w' h=>?_
 rw[VY] at h;obtain⟨a,b1,b2,b3,d1,d2,d3,g1,g2,g3⟩:=FV (Am _ _ _ _ _ _) (fun _=>rfl) (fun _ _=>rfl) h;exact⟨a,g1,g2,g3⟩
theorem aa3 {V:World} {a:fP} (h:Ao V Hq a):Calls Tryz.prog 39 #[.agg #[.slice a.aS 3 a.cS,.slice a.aF 3 a.cF,.slice a.aL 8 a.cL,.slice a.aP 1 a.cP,I 0],I 0] V fun e w'=>∃a,e=.returned (.tuple #[.agg #[.slice a.aS 3 a.cS,.slice a.aF 3 a.cF,.slice a.aL 8 a.cL,.slice a.aP 2 a.cP,I 0],I 1,I 0])/\(∀U,aH (fun b=>b<V.heap.size) w' U->Ao U Hp a)/\Below V.heap.size V w':=by
 obtain⟨b1,b2,b3,d1,d2,d3,hk⟩:=h;refine(XQ wW _ a 0 V hk (aa7 b1 b2 b3 d1 d2 d3) (by grind [dY])).mono fun e w' h=>?_
 have e0:wV (Hq (jN b1 b2 b3 d1 d2 d3)) 0=(Hp (jN b1 b2 b3 d1 d2 d3),1,0):=by rfl
 rw[e0] at h;obtain⟨a,b1,b2,b3,d1,d2,d3,g1,g2,g3⟩:=FV (Am _ _ _ _ _ _) (fun _=>rfl) (fun _ _=>rfl) h;exact⟨a,g1,g2,g3⟩
theorem VP {V:World} {a:fP} (h:Ao V Hp a):Calls Tryz.prog 28 #[.agg #[.slice a.aS 3 a.cS,.slice a.aF 3 a.cF,.slice a.aL 8 a.cL,.slice a.aP 2 a.cP,I 0],I 1,I 32,.string ⟨#[113]⟩] V fun e w'=>∃a,e=.returned (.tuple #[.agg #[.slice a.aS 3 a.cS,.slice a.aF 3 a.cF,.slice a.aL 8 a.cL,.slice a.aP 2 a.cP,I 0],.agg #[I 0,I 0],I 0])/\(∀U,aH (fun b=>b<V.heap.size) w' U->Ao U Dd a)/\Below V.heap.size V w':=by
 obtain⟨b1,b2,b3,d1,d2,d3,hk⟩:=h;refine(CI wW _ a 1 32 aim V hk (aa6 b1 b2 b3 d1 d2 d3) (by grind [dY]) (by grind [dY])).mono fun e w' h=>?_
 rw[VT] at h;obtain⟨a,b1,b2,b3,d1,d2,d3,g1,g2,g3⟩:=FV (Am _ _ _ _ _ _) (fun _=>rfl) (fun _ _=>rfl) h;exact⟨a,g1,g2,g3⟩
theorem aa2 {V:World} {a:fP} (h:Ao V Dd a):Calls Tryz.prog 25 #[.agg #[.slice a.aS 3 a.cS,.slice a.aF 3 a.cF,.slice a.aL 8 a.cL,.slice a.aP 2 a.cP,I 0],I 0,I 32,I 2,I 0] V fun e w'=>∃(a:fP) (hd:Int) (n1 n2 n3 n4:Nat),e=.returned (.tuple #[.agg #[.slice a.aS n1 a.cS,.slice a.aF n2 a.cF,.slice a.aL n3 a.cL,.slice a.aP n4 a.cP,I hd],.string ⟨#[97,98]⟩,.agg #[I 0,I 0],I 0])/\Below V.heap.size V w':=by
 obtain⟨b1,b2,b3,d1,d2,d3,hk⟩:=h;refine(Me wW _ a 0 32 2 0 V hk (Qf b1 b2 b3 d1 d2 d3) (by grind [dY]) (by grind [dY])).mono fun e w' h=>?_
 rw[YU] at h;obtain⟨hs,a,h1,h2,h3,h4⟩:=Qd h;exact⟨a,_,_,_,_,_,h2,h4⟩
theorem aa1 {V:World} {a:fP} (h:Ao V Dd a):Calls Tryz.prog 30 #[.agg #[.slice a.aS 3 a.cS,.slice a.aF 3 a.cF,.slice a.aL 8 a.cL,.slice a.aP 2 a.cP,I 0],I 1,I 2] V fun e w'=>e=.returned (.tuple #[.string LC,I 0])/\Below V.heap.size V w':=by
 obtain⟨b1,b2,b3,d1,d2,d3,hk⟩:=h;have:=XZ _ a 1 2 V hk (Qf b1 b2 b3 d1 d2 d3) (by grind [dY]);rw[YT] at this;exact this
theorem E2 {V U:World} {K:List bM->aN} {a:fP} (h:Ao V K a) (hb:Below V.heap.size V U):Ao U K a:=by
 obtain⟨b1,b2,b3,d1,d2,d3,hk⟩:=h;exact⟨b1,b2,b3,d1,d2,d3,hk.below hb⟩
theorem Qe {w W w3:World} {kb n:Nat} {b:fP} {c0 c1 c2 c3 c4:Value} {K:List bM->aN} (hB:Below w.heap.size w W) (hkw:w.heap.size<=kb) (hkb:kb<W.heap.size) (hb:Below W.heap.size W w3) (hk:w3.heap[kb]?=some (.cells #[c0,c1,c2,c3,c4] 27 (0,0))) (ht:∀U,aH (fun x=>x<W.heap.size) w3 U->Ao U K b) {V:World} (hV:V=(((((w3.setCell (Ad kb 0) (.slice b.aS 3 b.cS)).setCell (Ad kb 1) (.slice b.aF 3 b.cF)).setCell (Ad kb 2) (.slice b.aL 8 b.cL)).setCell (Ad kb 3) (.slice b.aP n b.cP)).setCell (Ad kb 4) (I 0))) :
  V.heap[kb]?=some (.cells #[.slice b.aS 3 b.cS,.slice b.aF 3 b.cF,.slice b.aL 8 b.cL,.slice b.aP n b.cP,I 0] 27 (0,0))/\Ao V K b/\Below w.heap.size w V/\aH (fun x=>x=kb) w3 V:=by
 have hk2:V.heap[kb]?=some (.cells #[.slice b.aS 3 b.cS,.slice b.aF 3 b.cF,.slice b.aL 8 b.cL,.slice b.aP n b.cP,I 0] 27 (0,0)):=by rw[hV];exact dG (dG (dG (dG (dG hk 0 _) 1 _) 2 _) 3 _) 4 _
 have kp:aH (fun x=>x=kb) w3 V:=by
  rw[hV];have k:∀(A:World) (j:Nat) (v:Value),aH (fun x=>x=kb) A (A.setCell (Ad kb j) v):=fun A j v=>aH.set _ A (Ad kb j) v rfl
  exact((((k _ _ _).trans (k _ _ _) (fun _ _ g=>g)).trans (k _ _ _) (fun _ _ g=>g)).trans (k _ _ _) (fun _ _ g=>g)).trans (k _ _ _) (fun _ _ g=>g)
 have iF:Below w.heap.size w w3:=hB.trans (hb.mono hB.size);exact⟨hk2,ht V (kp.mono (fun x _ e=>by rw[e];exact hkb)),aH.below iF kp iF.size (fun x e=>by rw[e];exact hkw),kp⟩
theorem De (w:World):Calls Tryz.prog 15 #[] w fun e w'=>e=.returned (.bool true)/\Below w.heap.size w w':=by
 go_enter Tryz.func15,Tryz.ntmps15;go_upto_region 2 with(first
  | (go_at_call 50;refine(VO _).mono ?_;rintro e w1 ⟨ar,cr,ah,ch,a1,a2,a3,c1,c2,c3,rfl,h1,h2,h3,h4⟩;have cT:=ai h4;have HN:=ai (adp h1 h2 h3);clear h1 h2 h3 h4)
  | (go_at_call 18;refine HN.o.mono ?_;rintro e w2 ⟨a,rfl,hth,hb⟩;have HT2:=ai hth;have fq:=ai (cT.o.trans (hb.mono cT.o.size));clear hth hb))
 have HB:=ai (fq.o.alloc fq.o.size (.cells #[.slice a.aS 3 a.cS,.slice a.aF 3 a.cF,.slice a.aL 8 a.cL,.slice a.aP 1 a.cP,I 0] 27));have KB:=ai (bG w2 #[.slice a.aS 3 a.cS,.slice a.aF 3 a.cF,.slice a.aL 8 a.cL,.slice a.aP 1 a.cP,I 0] 27);have HT:=ai (HT2.o _ (aH.alloc _ w2 (.cells #[.slice a.aS 3 a.cS,.slice a.aF 3 a.cF,.slice a.aL 8 a.cL,.slice a.aP 1 a.cP,I 0] 27)));obtain⟨W,hW⟩:=ex (w2.alloc (.cells #[.slice a.aS 3 a.cS,.slice a.aF 3 a.cF,.slice a.aL 8 a.cL,.slice a.aP 1 a.cP,I 0] 27));obtain⟨kb,hkb⟩:=ex w2.heap.size;have hkw:w.heap.size<=kb:=by rw[hkb];exact fq.o.size
 rw[<- hW] at HB KB HT ⊢;rw[<- hkb] at KB ⊢;clear hW hkb HT2 fq cT HN;obtain⟨k0,k1,k2,k3,k4⟩:=dx KB.o;have mg:=ai (VQ HT.o);go_upto_region 3 with(go_at_call 28;refine mg.o.mono ?_;rintro e v1 ⟨b1,rfl,hth,hb⟩;have HT3:=ai hth;have vO:=ai hb;have K3:=aQ KB.o hb (aO KB.o);have sX:=ai K3;obtain⟨k0,k1,k2,k3,k4⟩:=dx K3;have f0:=aJ K3 0;have f1:=aJ K3 1;have f2:=aJ K3 2;have f3:=aJ K3 3;have f4:=aJ K3 4;have hkl:=aO K3;clear hth hb K3)
 have HL:=ai (Qe (n:=1) HB.o hkw (aO KB.o) vO.o sX.o HT3.o rfl);have HX:=ai (HL.o.2.2.1.alloc HL.o.2.2.1.size (.cells #[I 0,I 0] 36));have KX:=ai (bE HL.o.1 (.cells #[I 0,I 0] 36));have HTX:=ai (E2 HL.o.2.1 ((aK _ _).alloc (aM _) (.cells #[I 0,I 0] 36)));have F1:=ai (bG (((((v1.setCell (Ad kb 0) (.slice b1.aS 3 b1.cS)).setCell (Ad kb 1) (.slice b1.aF 3 b1.cF)).setCell (Ad kb 2) (.slice b1.aL 8 b1.cL)).setCell (Ad kb 3) (.slice b1.aP 1 b1.cP)).setCell (Ad kb 4) (I 0)) #[I 0,I 0] 36);have hsz:(((((v1.setCell (Ad kb 0) (.slice b1.aS 3 b1.cS)).setCell (Ad kb 1) (.slice b1.aF 3 b1.cF)).setCell (Ad kb 2) (.slice b1.aL 8 b1.cL)).setCell (Ad kb 3) (.slice b1.aP 1 b1.cP)).setCell (Ad kb 4) (I 0)).heap.size=v1.heap.size:=by simp
 rw[hsz] at F1;obtain⟨fb1,G3⟩:=ex v1.heap.size;have QN:Hid (¬fb1=kb):=(show ¬fb1=kb from fun e=>by omega);obtain⟨W1,hW⟩:=ex ((((((v1.setCell (Ad kb 0) (.slice b1.aS 3 b1.cS)).setCell (Ad kb 1) (.slice b1.aF 3 b1.cF)).setCell (Ad kb 2) (.slice b1.aL 8 b1.cL)).setCell (Ad kb 3) (.slice b1.aP 1 b1.cP)).setCell (Ad kb 4) (I 0)).alloc (.cells #[I 0,I 0] 36));rw[<- hW] at HX KX HTX F1 ⊢;rw[<- G3] at F1 ⊢;clear hW G3 hsz;clear k0 k1 k2 k3 k4 f0 f1 f2 f3 f4 hkl HL sX HT3 vO mg HB KB HT;have HB:=HX;have KB:=KX;have HT:=HTX;clear HX KX HTX;obtain⟨k0,k1,k2,k3,k4⟩:=dx KB.o;have mg:=ai (aa3 HT.o);go_upto_region 4 with(go_at_call 39;refine mg.o.mono ?_;rintro e v2 ⟨b2,rfl,hth,hb⟩;have HT3:=ai hth;have vO:=ai hb;have K3:=aQ KB.o hb (aO KB.o);have sX:=ai K3;obtain⟨k0,k1,k2,k3,k4⟩:=dx K3;have f0:=aJ K3 0;have f1:=aJ K3 1;have f2:=aJ K3 2;have f3:=aJ K3 3;have f4:=aJ K3 4;clear hth hb K3)
 have HL:=ai (Qe (n:=2) HB.o hkw (aO KB.o) vO.o sX.o HT3.o rfl);have F1:=ai (HL.o.2.2.2.keep (aQ F1.o vO.o (aO F1.o)) QN.o);have HX:=ai HL.o.2.2.1;have KX:=ai HL.o.1;have HTX:=ai HL.o.2.1;obtain⟨W2,hW⟩:=ex ((((((v2.setCell (Ad kb 0) (.slice b2.aS 3 b2.cS)).setCell (Ad kb 1) (.slice b2.aF 3 b2.cF)).setCell (Ad kb 2) (.slice b2.aL 8 b2.cL)).setCell (Ad kb 3) (.slice b2.aP 2 b2.cP)).setCell (Ad kb 4) (I 0)));rw[<- hW] at HX KX HTX F1 ⊢;clear hW;clear k0 k1 k2 k3 k4 f0 f1 f2 f3 f4 HL sX HT3 vO mg HB KB HT;have HB:=HX;have KB:=KX;have HT:=HTX;clear HX KX HTX;obtain⟨k0,k1,k2,k3,k4⟩:=dx KB.o;have mg:=ai (VP HT.o);go_upto_region 5 with(go_at_call 28;refine mg.o.mono ?_;rintro e v3 ⟨b3,rfl,hth,hb⟩;have HT3:=ai hth;have vO:=ai hb;have K3:=aQ KB.o hb (aO KB.o);have sX:=ai K3;obtain⟨k0,k1,k2,k3,k4⟩:=dx K3;have f0:=aJ K3 0;have f1:=aJ K3 1;have f2:=aJ K3 2;have f3:=aJ K3 3;have f4:=aJ K3 4;have hkl:=aO K3;clear hth hb K3)
 have HL:=ai (Qe (n:=2) HB.o hkw (aO KB.o) vO.o sX.o HT3.o rfl);have F1:=ai (HL.o.2.2.2.keep (aQ F1.o vO.o (aO F1.o)) QN.o);have HX:=ai (HL.o.2.2.1.alloc HL.o.2.2.1.size (.cells #[I 0,I 0] 36));have KX:=ai (bE HL.o.1 (.cells #[I 0,I 0] 36));have HTX:=ai (E2 HL.o.2.1 ((aK _ _).alloc (aM _) (.cells #[I 0,I 0] 36)));have F1:=ai (bE F1.o (.cells #[I 0,I 0] 36));have F2:=ai (bG (((((v3.setCell (Ad kb 0) (.slice b3.aS 3 b3.cS)).setCell (Ad kb 1) (.slice b3.aF 3 b3.cF)).setCell (Ad kb 2) (.slice b3.aL 8 b3.cL)).setCell (Ad kb 3) (.slice b3.aP 2 b3.cP)).setCell (Ad kb 4) (I 0)) #[I 0,I 0] 36);have hsz:(((((v3.setCell (Ad kb 0) (.slice b3.aS 3 b3.cS)).setCell (Ad kb 1) (.slice b3.aF 3 b3.cF)).setCell (Ad kb 2) (.slice b3.aL 8 b3.cL)).setCell (Ad kb 3) (.slice b3.aP 2 b3.cP)).setCell (Ad kb 4) (I 0)).heap.size=v3.heap.size:=by simp
 rw[hsz] at F2;obtain⟨fb2,G3⟩:=ex v3.heap.size;obtain⟨W3,hW⟩:=ex ((((((v3.setCell (Ad kb 0) (.slice b3.aS 3 b3.cS)).setCell (Ad kb 1) (.slice b3.aF 3 b3.cF)).setCell (Ad kb 2) (.slice b3.aL 8 b3.cL)).setCell (Ad kb 3) (.slice b3.aP 2 b3.cP)).setCell (Ad kb 4) (I 0)).alloc (.cells #[I 0,I 0] 36));rw[<- hW] at HX KX HTX F1 F2 ⊢;rw[<- G3] at F2 ⊢;clear hW G3 hsz;clear k0 k1 k2 k3 k4 f0 f1 f2 f3 f4 hkl HL sX HT3 vO mg HB KB HT;have HB:=HX;have KB:=KX;have HT:=HTX;clear HX KX HTX;obtain⟨k0,k1,k2,k3,k4⟩:=dx KB.o;have mg:=ai (aa2 HT.o);go_upto_region 6 with(go_at_call 25;refine mg.o.mono ?_;rintro e v4 ⟨b4,SK,m1,m2,m3,m4,rfl,hb⟩;have vO:=ai hb;clear hb)
 have oo:=ai (vO.o.alloc vO.o.size (.cells #[.slice b4.aS m1 b4.cS,.slice b4.aF m2 b4.cF,.slice b4.aL m3 b4.cL,.slice b4.aP m4 b4.cP,I SK] 27));have Y7:=ai (oo.o.alloc oo.o.size (.cells #[I 0,I 0] 36));have F3:=ai (nN v4 (.cells #[.slice b4.aS m1 b4.cS,.slice b4.aF m2 b4.cF,.slice b4.aL m3 b4.cL,.slice b4.aP m4 b4.cP,I SK] 27) #[I 0,I 0] 36);obtain⟨W4,hW⟩:=ex ((v4.alloc (.cells #[.slice b4.aS m1 b4.cS,.slice b4.aF m2 b4.cF,.slice b4.aL m3 b4.cL,.slice b4.aP m4 b4.cP,I SK] 27)).alloc (.cells #[I 0,I 0] 36));obtain⟨fb3,G3⟩:=ex (v4.heap.size+1);rw[<- hW] at Y7 F3 ⊢;rw[<- G3] at F3 ⊢;clear hW G3 oo vO k0 k1 k2 k3 k4;have KY:=ai (aQ KB.o Y7.o (aO KB.o));have HTY:=ai (E2 HT.o Y7.o);have F1:=ai (aQ F1.o Y7.o (aO F1.o));have F2:=ai (aQ F2.o Y7.o (aO F2.o));have kO:=ai (HB.o.trans (Y7.o.mono HB.o.size));obtain⟨k0,k1,k2,k3,k4⟩:=dx KY.o;have qd:=ai (aa1 HTY.o);have hp1:LC.size=16:=rfl;have hp2:LC.extract 0 3=⟨#[113,98,99]⟩:=by kernel_rfl
 have hp3:LC.extract 14 16=⟨#[119,120]⟩:=by kernel_rfl
 obtain⟨D,hD⟩:=ex LC;rw[<- hD] at qd hp1 hp2 hp3;clear hD;go_upto_region 7 with(go_at_call 30;refine qd.o.mono ?_;rintro e v5 ⟨rfl,hb⟩;have ym:=ai (kO.o.trans (hb.mono kO.o.size));obtain⟨x1,y1⟩:=kI (aQ F1.o hb (aO F1.o));obtain⟨x2,y2⟩:=kI (aQ F2.o hb (aO F2.o));obtain⟨x3,y3⟩:=kI (aQ F3.o hb (aO F3.o));clear hb)
 go_wp2;go_ret;exact⟨by simp,ym.o⟩
end Go.Proofs.YtpgifpeohlllfaaGreat
end Go.Proofs.YtpgifpeohlllfaaGreat
