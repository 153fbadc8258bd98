import Derived.Test.YtpgifpeohlllfaaGreatGT35
set_option maxHeartbeats 20000000
set_option linter.unusedVariables false
set_option maxRecDepth 100000
set_option linter.unusedSimpArgs false
namespace Go.Proofs.YtpgifpeohlllfaaGreat
namespace KR
open Go.RowKit GK KO
open FW (ai aD)
open KW (fh cK aI eB aZ aK dA cu eY)
open KS (Lc bw kM cD blk cJ)
open KZ (b6 gK iD fe lI)
open KY (vh sH uP)
theorem aeE (s f l p:Option Addr) (n1 c1 n2 c2 n3 c3 n4 c4:Nat) (h:Int) (w:World):Sem.run Tryz.prog (Instr.field 27 (.agg #[.slice s n1 c1,.slice f n2 c2,.slice l n3 c3,.slice p n4 c4,I h]) 3) w=.ok (.slice p n4 c4) w:=by kernel_rfl
theorem Ip (k:KM.Kn) (a:fh) (sp:Int) (w:World) (hK:cK w a k) (hF:eB k) (hsp:M.gu sp) :
  Calls Tryz.prog 41 #[.agg (aI a k),I sp] w (b6 w (fe k sp).1 [I (fe k sp).2.1,I (fe k sp).2.2]):=by
 obtain⟨WA,di⟩:=ex ((w.alloc (.cells (aI a k) 27)).alloc (.cells #[Nl,Nl,Nl,Nl,I 0] 27));have hb0:Below w.heap.size w WA:=by rw[di];exact((Below.refl _ _).alloc (Nat.le_refl _) _).alloc (by simp) _
 have kb:WA.heap[w.heap.size]?=some (.cells (aI a k) 27 (0,0)):=by rw[di];exact B.alloc (B.new w _ _) _
 have rb:WA.heap[w.heap.size+1]?=some (.cells #[Nl,Nl,Nl,Nl,I 0] 27 (0,0)):=by
  have:=B.new (w.alloc (.cells (aI a k) 27)) #[Nl,Nl,Nl,Nl,I 0] 27;rw[World.size_alloc] at this;rw[di];exact this
 have RB:Hid (∀V,Below WA.heap.size WA V->V.heap[w.heap.size+1]?=some (.cells #[Nl,Nl,Nl,Nl,I 0] 27 (0,0))):=fun V hb=>B.below rb hb (B.isLt rb)
 have KB:Hid (∀V,Below WA.heap.size WA V->V.heap[w.heap.size]?=some (.cells #[.slice a.aS k.ak.length a.cS,.slice a.aF k.frames.length a.cF,.slice a.aL k.slots.length a.cL,.slice a.aP k.aj.length a.cP,I k.hand] 27 (0,0))):=fun V hb=>B.below kb hb (B.isLt kb)
 obtain⟨k0,k1,k2,k3,k4⟩:=B.c5 (KB.o WA (Below.refl _ _));have eZ:=ai di;have bR:=ai hb0;have hrl:=B.isLt rb;have D2:=ai (ES k a sp WA (hK.below hb0) hF hsp);have vr:Hid (∀(V:World) (C:Int),Below w.heap.size w V->b6 w gK [I 0,I C] (.returned (.tuple #[.agg #[Nl,Nl,Nl,Nl,I 0],I 0,I C])) V):=fun V C hV=>iD _ hV
 by_cases c:cu k sp=0
 · obtain⟨hR,qi,hj,gN⟩:=KY.gJ c;obtain⟨j,L4⟩:∃j:Nat,sp=(j:Int):=⟨sp.toNat,by omega⟩;subst L4;rw[Int.toNat_natCast] at hj gN;have MW:fe k (j:Int)=if k.aj.length=4 then (gK,0,2) else if KM.room k.aj+AM.b7 (KM.au k.aj j).aB>(k.slots.length:Int) then (gK,0,8) else (KM.fX k j,(k.aj.length:Int),0):=by
    unfold fe;rw[if_neg (fun x=>x c),Int.toNat_natCast]
   rw[MW];rw[c] at D2;have hsm:=KY.lG hR hF;have hcc:=hR.c;have hsj:=hR.sp hj;have DJ:(j:Int)<(k.aj.length:Int):=by omega
   by_cases c4:k.aj.length=4
   · rw[if_pos c4];have c4i:(k.aj.length:Int)=4:=by omega
     have bB:=ai (fun V (h:Below w.heap.size w V)=>vr.o V 2 h);obtain⟨P,hP⟩:=ex (b6 w gK [I 0,I 2]);show Calls _ _ _ _ (b6 w gK [I 0,I 2]);rw[<- hP] at bB ⊢;unfold aI at D2 eZ ⊢;clear hK hF hsp MW c hP di hb0 kb rb hR gN qi hsm hsj hcc hj c4 vr;go_enter Tryz.func41,Tryz.ntmps41;go_upto_region 1 with fail;rw[<- eZ.o];go_upto_region 2 with(go_at_call 56;refine D2.o.mono ?_;rintro e w1 ⟨rfl,hb1⟩;have bE:=ai hb1;obtain⟨k0,k1,k2,k3,k4⟩:=B.c5 (KB.o _ hb1);clear hb1)
     go_upto_region 4 with fail;have j3:=Q.dE w1;have pQ:Hid (∀V,Below w1.heap.size w1 V->V.cell? (Ad w.heap.size 0)=some (.slice a.aS k.ak.length a.cS)/\V.cell? (Ad w.heap.size 1)=some (.slice a.aF k.frames.length a.cF)/\V.cell? (Ad w.heap.size 2)=some (.slice a.aL k.slots.length a.cL)/\V.cell? (Ad w.heap.size 3)=some (.slice a.aP k.aj.length a.cP)/\V.cell? (Ad w.heap.size 4)=some (I k.hand)):=fun V hV=>by
      have:=KB.o V (bE.o.trans (hV.mono bE.o.size));exact⟨B.cell this 0 rfl,B.cell this 1 rfl,B.cell this 2 rfl,B.cell this 3 rfl,B.cell this 4 rfl⟩
     have q0:∀x:Q.ez w1.heap.size w1,x.world.cell? (Ad w.heap.size 0)=some (.slice a.aS k.ak.length a.cS):=fun x=>(pQ.o _ x.keeps).1
     have q1:∀x:Q.ez w1.heap.size w1,x.world.cell? (Ad w.heap.size 1)=some (.slice a.aF k.frames.length a.cF):=fun x=>(pQ.o _ x.keeps).2.1
     have q2:∀x:Q.ez w1.heap.size w1,x.world.cell? (Ad w.heap.size 2)=some (.slice a.aL k.slots.length a.cL):=fun x=>(pQ.o _ x.keeps).2.2.1
     have q3:∀x:Q.ez w1.heap.size w1,x.world.cell? (Ad w.heap.size 3)=some (.slice a.aP k.aj.length a.cP):=fun x=>(pQ.o _ x.keeps).2.2.2.1
     have q4:∀x:Q.ez w1.heap.size w1,x.world.cell? (Ad w.heap.size 4)=some (I k.hand):=fun x=>(pQ.o _ x.keeps).2.2.2.2
     clear k0 k1 k2 k3 k4;refine Q.bu (by kernel_rfl) (by kernel_rfl) ?_
     repeat (first | go_big_quiet_step (fail) | quiet_step (fail))
     refine wpQuiet_nil ?_;rintro _ ⟨X,rfl⟩;have lB:=ai (bE.o.trans (X.keeps.mono bE.o.size));have R1:=ai (RB.o _ lB.o);have gw:=ai (bR.o.trans (lB.o.mono bR.o.size));obtain⟨y0,y1,y2,y3,y4⟩:=B.c5 R1.o;have f0:=B.free R1.o 0;have f1:=B.free R1.o 1;have f2:=B.free R1.o 2;have f3:=B.free R1.o 3;have f4:=B.free R1.o 4;have h5:=ai (fun V=>lI R1.o Nl Nl Nl Nl (I 0) (V:=V));clear q0 q1 q2 q3 q4 j3;go_wp2;obtain⟨r1,r2⟩:=h5.out _ rfl;obtain⟨y0,y1,y2,y3,y4⟩:=B.c5 r1;refine bodyPost_ret (v:=.tuple #[.agg #[Nl,Nl,Nl,Nl,I 0],I 0,I 2]) (by simp[results,Tryz.results41,go_sem,y0,y1,y2,y3,y4]) rfl ?_;exact bB.o _ (Kp.below gw.o r2 gw.o.size (fun b e=>by omega))
   rw[if_neg c4];have c4i:¬(k.aj.length:Int)=4:=by omega
   obtain⟨U7,U6,hpo,hpl,Ah⟩:=hK.aj (by omega);obtain⟨va,ap,cp,v0,v1,v2,Po,BQ,_⟩:=Ah j hj;have ng:=Po;obtain⟨aa,ca,sI,_⟩:=Po;subst sI;have ek:∀{V:World},Below WA.heap.size WA V->Below w.heap.size w V:=fun hV=>hb0.trans (hV.mono hb0.size)
   have HV1:Hid (∀V,Below WA.heap.size WA V->V.cell? (Ad U7 (U6+j*3+1))=some (.slice aa (KM.au k.aj j).aB.length ca)):=fun V hV=>((ek hV).cell (p:=(Ad U7 (U6+j*3+1))) hpl).trans v1
   have Ux:Hid (∀V,Below WA.heap.size WA V->Calls Tryz.prog 47 #[.agg #[.slice a.aS k.ak.length a.cS,.slice a.aF k.frames.length a.cF,.slice a.aL k.slots.length a.cL,.slice a.aP k.aj.length a.cP,I k.hand]] V fun e w'=>e=.returned (I (KM.room k.aj))/\Below V.heap.size V w'):=fun V hV=>Ex k a V (hK.below (ek hV)).aj (fun i hi=>(hR.sp hi).aB) (by omega)
   have vw:Hid (∀V,Below WA.heap.size WA V->Calls Tryz.prog 61 #[.slice aa (KM.au k.aj j).aB.length ca] V fun e w'=>e=.returned (I (AM.b7 (KM.au k.aj j).aB))/\Below V.heap.size V w'):=fun V hV=>AW.oC _ _ V (ng.below (ek hV)) hsj.aB
   have Yr:=KW.qE k.aj k.aj.length;have hd1:=KW.jS (KM.au k.aj j).aB;obtain⟨na,nZ⟩:=ex ((KM.au k.aj j).aB.length);rw[<- nZ] at HV1 vw;obtain⟨RM,De⟩:=ex (KM.room k.aj);obtain⟨T1,MV⟩:=ex (AM.b7 (KM.au k.aj j).aB);have Tt:0<=RM/\RM<=65025*4:=by
    rw[De];unfold KM.room;omega
   rw[<- MV] at hd1 vw ⊢;rw[<- De] at Ux ⊢;rw[hpo] at Ux KB k3;by_cases cr:RM+T1>(k.slots.length:Int)
   · rw[if_pos cr];have c2:(k.slots.length:Int)<RM+T1:=cr;have bB:=ai (fun V (h:Below w.heap.size w V)=>vr.o V 8 h);obtain⟨P,hP⟩:=ex (b6 w gK [I 0,I 8]);show Calls _ _ _ _ (b6 w gK [I 0,I 8]);rw[<- hP] at bB ⊢;unfold aI at D2 eZ ⊢;rw[hpo] at D2 eZ ⊢;clear hK hF hsp MW c hP di hb0 kb rb hR gN qi hsm hsj hcc hj c4 vr Ah v0 v1 v2 ng BQ hpo Yr nZ De MV cr ek;go_enter Tryz.func41,Tryz.ntmps41;go_upto_region 1 with fail;rw[<- eZ.o];go_upto_region 2 with(go_at_call 56;refine D2.o.mono ?_;rintro e w1 ⟨rfl,hb1⟩;have bE:=ai hb1;obtain⟨k0,k1,k2,k3,k4⟩:=B.c5 (KB.o _ hb1);clear hb1)
     go_upto_region 4 with fail;have MD:=ai (fun V (hV:Below w1.heap.size w1 V)=>Ux.o V (bE.o.trans (hV.mono bE.o.size)));have vv:=ai (fun V (hV:Below w1.heap.size w1 V)=>vw.o V (bE.o.trans (hV.mono bE.o.size)));have qa:∀x:Q.ez w1.heap.size w1,x.world.cell? (Ad U7 (U6+j*3+1))=some (.slice aa na ca):=fun x=>HV1.o _ (bE.o.trans (x.keeps.mono bE.o.size))
     have j3:=Q.dE w1;have pQ:Hid (∀V,Below w1.heap.size w1 V->V.cell? (Ad w.heap.size 0)=some (.slice a.aS k.ak.length a.cS)/\V.cell? (Ad w.heap.size 1)=some (.slice a.aF k.frames.length a.cF)/\V.cell? (Ad w.heap.size 2)=some (.slice a.aL k.slots.length a.cL)/\V.cell? (Ad w.heap.size 3)=some (.slice (some (Ad U7 U6)) k.aj.length a.cP)/\V.cell? (Ad w.heap.size 4)=some (I k.hand)):=fun V hV=>by
      have:=KB.o V (bE.o.trans (hV.mono bE.o.size));exact⟨B.cell this 0 rfl,B.cell this 1 rfl,B.cell this 2 rfl,B.cell this 3 rfl,B.cell this 4 rfl⟩
     have q0:∀x:Q.ez w1.heap.size w1,x.world.cell? (Ad w.heap.size 0)=some (.slice a.aS k.ak.length a.cS):=fun x=>(pQ.o _ x.keeps).1
     have q1:∀x:Q.ez w1.heap.size w1,x.world.cell? (Ad w.heap.size 1)=some (.slice a.aF k.frames.length a.cF):=fun x=>(pQ.o _ x.keeps).2.1
     have q2:∀x:Q.ez w1.heap.size w1,x.world.cell? (Ad w.heap.size 2)=some (.slice a.aL k.slots.length a.cL):=fun x=>(pQ.o _ x.keeps).2.2.1
     have q3:∀x:Q.ez w1.heap.size w1,x.world.cell? (Ad w.heap.size 3)=some (.slice (some (Ad U7 U6)) k.aj.length a.cP):=fun x=>(pQ.o _ x.keeps).2.2.2.1
     have q4:∀x:Q.ez w1.heap.size w1,x.world.cell? (Ad w.heap.size 4)=some (I k.hand):=fun x=>(pQ.o _ x.keeps).2.2.2.2
     clear k0 k1 k2 k3 k4;refine Q.bu (by kernel_rfl) (by kernel_rfl) ?_
     repeat (first | go_big_quiet_step (first | (go_at_call 47;exact eY _ MD.o) | (go_at_call 61;exact eY _ vv.o)) | quiet_step (first | (go_at_call 47;exact eY _ MD.o) | (go_at_call 61;exact eY _ vv.o)))
     refine wpQuiet_nil ?_;rintro _ ⟨X,rfl⟩;have lB:=ai (bE.o.trans (X.keeps.mono bE.o.size));have R1:=ai (RB.o _ lB.o);have gw:=ai (bR.o.trans (lB.o.mono bR.o.size));obtain⟨y0,y1,y2,y3,y4⟩:=B.c5 R1.o;have f0:=B.free R1.o 0;have f1:=B.free R1.o 1;have f2:=B.free R1.o 2;have f3:=B.free R1.o 3;have f4:=B.free R1.o 4;have h5:=ai (fun V=>lI R1.o Nl Nl Nl Nl (I 0) (V:=V));clear q0 q1 q2 q3 q4 qa j3;go_wp2;obtain⟨r1,r2⟩:=h5.out _ rfl;obtain⟨y0,y1,y2,y3,y4⟩:=B.c5 r1;refine bodyPost_ret (v:=.tuple #[.agg #[Nl,Nl,Nl,Nl,I 0],I 0,I 8]) (by simp[results,Tryz.results41,go_sem,y0,y1,y2,y3,y4]) rfl ?_;exact bB.o _ (Kp.below gw.o r2 gw.o.size (fun b e=>by omega))
   rw[if_neg cr];have c2:¬(k.slots.length:Int)<RM+T1:=cr;have hO0:∀V,Below WA.heap.size WA V->Calls Tryz.prog 16 #[.agg (aI a k)] V (vh V k):=fun V hV=>qG k a V (hK.below (ek hV)) hsm
   obtain⟨nP,AJ⟩:=ex k.aj.length;have MF:Hid (∀V,Below WA.heap.size WA V->Calls Tryz.prog 16 #[.agg (aI a k)] V fun e w'=>∃hs S aS nS cS aF nF cF aL nL cL pb cP,e=.returned (.agg #[.slice aS nS cS,.slice aF nF cF,.slice aL nL cL,.slice (some (Ad pb 0)) nP cP,I k.hand])/\KM.Same k.ak hs/\Kr WA.heap.size w' S (KM.aT k hs)/\(S.vS=.slice aS nS cS/\S.vF=.slice aF nF cF/\S.vL=.slice aL nL cL/\S.vP=.slice (some (Ad pb 0)) nP cP)/\Below V.heap.size V w'):=fun V hV=>by
    refine(hO0 V hV).mono fun e w' ⟨S,hs,h1,h2,h3,h4⟩=>?_
    obtain⟨pb,cP,A⟩:=h3.sp (by show 0<k.aj.length;omega);obtain⟨aS,nS,cS,eS⟩:∃b n d,S.vS=.slice b n d:=by obtain⟨b,d,e,_⟩:=aN h3.ak;exact⟨b,_,d,e⟩
    obtain⟨aF,nF,cF,eF⟩:∃b n d,S.vF=.slice b n d:=by obtain⟨b,d,e,_⟩:=aN h3.frames;exact⟨b,_,d,e⟩
    obtain⟨aL,nL,cL,eL⟩:∃b n d,S.vL=.slice b n d:=by obtain⟨b,d,e,_⟩:=aN h3.slots;exact⟨b,_,d,e⟩
    have eP:S.vP=.slice (some (Ad pb 0)) nP cP:=by rw[AJ];exact A.v
    exact⟨hs,S,aS,nS,cS,aF,nF,cF,aL,nL,cL,pb,cP,by rw[h2,eS,eF,eL,eP],h1,h3.mono hV.size,⟨eS,eF,eL,eP⟩,h4⟩
   obtain⟨sj,uV⟩:=ex (KM.au k.aj j);have oh:Hid (∀V,Below WA.heap.size WA V->Calls Tryz.prog 16 #[.agg (aI a k)] V fun e w'=>∃aS nS cS aF nF cF aL nL cL pb cP xa nx cx ya cy,e=.returned (.agg #[.slice aS nS cS,.slice aF nF cF,.slice aL nL cL,.slice (some (Ad pb 0)) nP cP,I k.hand])/\(w'.cell? (Ad pb (j*3))=some (.bool sj.live)/\w'.cell? (Ad pb (j*3+1))=some (.slice xa nx cx)/\w'.cell? (Ad pb (j*3+2))=some (.slice ya sj.aA.length cy))/\cJ V.heap.size w' ⟨sj.live,.slice xa nx cx,.slice ya sj.aA.length cy⟩ sj/\(∀b,blk (.slice ya sj.aA.length cy) b->¬blk (.slice xa nx cx) b)/\Below V.heap.size V w'):=fun V hV=>by
    refine(hO0 V hV).mono fun e w' ⟨S,hs,h1,h2,h3,h4⟩=>?_
    obtain⟨pb,cP,A⟩:=h3.sp (by show 0<k.aj.length;omega);obtain⟨aS,nS,cS,eS⟩:∃b n d,S.vS=.slice b n d:=by obtain⟨b,d,e,_⟩:=aN h3.ak;exact⟨b,_,d,e⟩
    obtain⟨aF,nF,cF,eF⟩:∃b n d,S.vF=.slice b n d:=by obtain⟨b,d,e,_⟩:=aN h3.frames;exact⟨b,_,d,e⟩
    obtain⟨aL,nL,cL,eL⟩:∃b n d,S.vL=.slice b n d:=by obtain⟨b,d,e,_⟩:=aN h3.slots;exact⟨b,_,d,e⟩
    have eP:S.vP=.slice (some (Ad pb 0)) nP cP:=by rw[AJ];exact A.v
    have BC:=h3.each j hj;have BC:cJ V.heap.size w' (cD S.L j) (KM.au k.aj j):=BC;obtain⟨xa,cx,exa,_⟩:=aN BC.aB;obtain⟨ya,cy,eya,_⟩:=aN BC.aJ;have x0:=A.x0 j hj;have x1:=A.x1 j hj;have x2:=A.x2 j hj;have hlab:∀b,blk (cD S.L j).vp b->¬blk (cD S.L j).va b:=fun b g1 g2=>by
     have e1:=h3.lE j hj b g1;have e2:=h3.lA j hj b g2;rw[e1] at e2;cases e2
    have eL3:cD S.L j=⟨(KM.au k.aj j).live,.slice xa (KM.au k.aj j).aB.length cx,.slice ya (KM.au k.aj j).aA.length cy⟩:=by
     rw[<- exa,<- eya,<- BC.live]
    rw[exa] at x1;rw[eya] at x2;rw[exa,eya] at hlab;rw[eL3] at BC;rw[uV];exact⟨aS,nS,cS,aF,nF,cF,aL,nL,cL,pb,cP,xa,_,cx,ya,cy,by rw[h2,eS,eF,eL,eP],⟨x0,x1,x2⟩,BC,hlab,h4⟩
   have HEK:Hid (∀n,n<sj.aA.length->((KM.aM sj.aA n).kind=1->0<=(KM.aM sj.aA n).loc/\(KM.aM sj.aA n).loc<(k.frames.length:Int))/\((KM.aM sj.aA n).kind≠1->0<=(KM.aM sj.aA n).loc/\(KM.aM sj.aA n).loc<(k.slots.length:Int))):=fun n hn=>by
    rw[uV] at hn ⊢;obtain⟨_,e2⟩:=hsj.u9 _ (KM.dO (d:=KM.js) hn);rcases e2 with⟨e4,e5,e6⟩ | ⟨e4,e5,e6⟩
    · exact⟨fun _=>⟨e5,e6⟩,fun g=>absurd e4 g⟩
    · exact⟨fun g=>absurd (e4.symm.trans g) (by decide),fun _=>⟨e5,e6⟩⟩
   have ru:Hid (∀(X:List KM.Sp) (hs:List LM.Sh) (n:Nat),n<=sj.aA.length->(∀i,i<k.frames.length->0<=(KM.aH (KM.aV { KM.aT k hs with aj:=X } sj.aA n).frames i).refs/\(KM.aH (KM.aV { KM.aT k hs with aj:=X } sj.aA n).frames i).refs<=1000000)/\(∀i,i<k.slots.length->0<=(KM.bj (KM.aV { KM.aT k hs with aj:=X } sj.aA n).slots i).refs/\(KM.bj (KM.aV { KM.aT k hs with aj:=X } sj.aA n).slots i).refs<=1000000)):=fun X hs n hn=>by
    rw[uV] at hn ⊢;exact NY hR hj X hs n hn
   have Sa:Hid (∀hs,KM.aV { KM.aT k hs with aj:=k.aj++[sj] } sj.aA sj.aA.length=KM.aT (KM.fX k j) hs):=fun hs=>by
    rw[uV];exact(PV (KM.aT k hs) j).trans (KM.Ik k hs j)
   have Xu:Hid ((KM.fX k j).ak=k.ak/\(KM.fX k j).hand=k.hand):=by
    have hp:=KM.jI hR hj _ (Nat.le_refl _);exact(show(KM.fX k j).ak=k.ak/\(KM.fX k j).hand=k.hand from⟨hp.1,hp.2.1⟩)
   have hel:sj.aA.length<=1000000:=by rw[uV];exact hsm.aA j hj
   have hfl:k.frames.length<=64:=by omega
   have hll:k.slots.length<=512:=by omega
   have adQ:nP<=4:=by omega
   obtain⟨P,hP⟩:=ex (b6 w (KM.fX k j) [I (k.aj.length:Int),I 0]);show Calls _ _ _ _ (b6 w (KM.fX k j) [I (k.aj.length:Int),I 0]);rw[<- hP];have HP:=ai hP;unfold aI at D2 eZ MF oh ⊢;rw[hpo] at D2 eZ MF oh ⊢;have UD:=ai AJ;have hjn:(j:Int)<(nP:Int):=by omega
   clear hK hF hsp MW c hP di hb0 kb rb hR gN qi hsm hsj hcc hj c4 vr Ah v0 v1 v2 ng BQ hpo Yr nZ De MV cr ek hO0 AJ uV;go_enter Tryz.func41,Tryz.ntmps41;go_upto_region 1 with fail;rw[<- eZ.o];go_upto_region 2 with(go_at_call 56;refine D2.o.mono ?_;rintro e w1 ⟨rfl,hb1⟩;have bE:=ai hb1;obtain⟨k0,k1,k2,k3,k4⟩:=B.c5 (KB.o _ hb1);clear hb1)
   go_upto_region 4 with fail;have MD:=ai (fun V (hV:Below w1.heap.size w1 V)=>Ux.o V (bE.o.trans (hV.mono bE.o.size)));have vv:=ai (fun V (hV:Below w1.heap.size w1 V)=>vw.o V (bE.o.trans (hV.mono bE.o.size)));have qa:∀x:Q.ez w1.heap.size w1,x.world.cell? (Ad U7 (U6+j*3+1))=some (.slice aa na ca):=fun x=>HV1.o _ (bE.o.trans (x.keeps.mono bE.o.size))
   have j3:=Q.dE w1;have pQ:Hid (∀V,Below w1.heap.size w1 V->V.cell? (Ad w.heap.size 0)=some (.slice a.aS k.ak.length a.cS)/\V.cell? (Ad w.heap.size 1)=some (.slice a.aF k.frames.length a.cF)/\V.cell? (Ad w.heap.size 2)=some (.slice a.aL k.slots.length a.cL)/\V.cell? (Ad w.heap.size 3)=some (.slice (some (Ad U7 U6)) k.aj.length a.cP)/\V.cell? (Ad w.heap.size 4)=some (I k.hand)):=fun V hV=>by
    have:=KB.o V (bE.o.trans (hV.mono bE.o.size));exact⟨B.cell this 0 rfl,B.cell this 1 rfl,B.cell this 2 rfl,B.cell this 3 rfl,B.cell this 4 rfl⟩
   have q0:∀x:Q.ez w1.heap.size w1,x.world.cell? (Ad w.heap.size 0)=some (.slice a.aS k.ak.length a.cS):=fun x=>(pQ.o _ x.keeps).1
   have q1:∀x:Q.ez w1.heap.size w1,x.world.cell? (Ad w.heap.size 1)=some (.slice a.aF k.frames.length a.cF):=fun x=>(pQ.o _ x.keeps).2.1
   have q2:∀x:Q.ez w1.heap.size w1,x.world.cell? (Ad w.heap.size 2)=some (.slice a.aL k.slots.length a.cL):=fun x=>(pQ.o _ x.keeps).2.2.1
   have q3:∀x:Q.ez w1.heap.size w1,x.world.cell? (Ad w.heap.size 3)=some (.slice (some (Ad U7 U6)) k.aj.length a.cP):=fun x=>(pQ.o _ x.keeps).2.2.2.1
   have q4:∀x:Q.ez w1.heap.size w1,x.world.cell? (Ad w.heap.size 4)=some (I k.hand):=fun x=>(pQ.o _ x.keeps).2.2.2.2
   clear k0 k1 k2 k3 k4;refine Q.bu (by kernel_rfl) (by kernel_rfl) ?_
   repeat (first | go_big_quiet_step (first | (go_at_call 47;exact eY _ MD.o) | (go_at_call 61;exact eY _ vv.o)) | quiet_step (first | (go_at_call 47;exact eY _ MD.o) | (go_at_call 61;exact eY _ vv.o)))
   refine wpQuiet_nil ?_;rintro _ ⟨X,rfl⟩;have lB:=ai (bE.o.trans (X.keeps.mono bE.o.size));clear j3 q0 q1 q2 q3 q4 qa pQ MD vv Ux vw HV1;obtain⟨WX,hWX⟩:=ex X.world;rw[<- hWX] at lB ⊢;clear hWX;obtain⟨k0,k1,k2,k3,k4⟩:=B.c5 (KB.o _ lB.o);go_upto_region 9 with(go_at_call 16;refine(MF.o _ lB.o).mono ?_;rintro e w4 ⟨hs,S,aS,nS,cS,aF,nF,cF,aL,nL,cL,pb,cP,rfl,hs2,hk2,hv2,hb4⟩;have iM:=ai hs2;have jd:=ai hk2;have HVV:=ai hv2;have gw:=ai (lB.o.trans (hb4.mono lB.o.size));clear hs2 hk2 hv2 hb4)
   have wZ:Hid (Km WA.heap.size w4.heap.size 27 [] (w4.alloc (.cells #[.slice aS nS cS,.slice aF nF cF,.slice aL nL cL,.slice (some (Ad pb 0)) nP cP,I k.hand] 27)) ⟨fun b=>if b=w4.heap.size then .head else S.lab b,S.vS,S.vF,S.vL,S.vP,S.L⟩ (KM.aT k hs)):=by
    have:=JC jd.o gw.o.size;obtain⟨v1,v2,v3,v4⟩:=HVV.o;rw[v1,v2,v3,v4] at this ⊢;exact this
   have pM:=ai (gw.o.alloc gw.o.size (.cells #[.slice aS nS cS,.slice aF nF cF,.slice aL nL cL,.slice (some (Ad pb 0)) nP cP,I k.hand] 27));obtain⟨W4,PF⟩:=ex (w4.alloc (.cells #[.slice aS nS cS,.slice aF nF cF,.slice aL nL cL,.slice (some (Ad pb 0)) nP cP,I k.hand] 27));obtain⟨mb,hmb⟩:=ex w4.heap.size;rw[<- PF] at wZ pM ⊢;rw[<- hmb] at wZ ⊢;clear PF hmb gw jd;obtain⟨S4,hS4⟩:∃S4:St,S4=⟨fun b=>if b=mb then .head else S.lab b,S.vS,S.vF,S.vL,S.vP,S.L⟩:=⟨_,rfl⟩;rw[<- hS4] at wZ;have YI:Hid (S4.vS=.slice aS nS cS/\S4.vF=.slice aF nF cF/\S4.vL=.slice aL nL cL/\S4.vP=.slice (some (Ad pb 0)) nP cP):=by rw[hS4];exact HVV.o
   clear hS4 HVV;obtain⟨k0,k1,k2,k3,k4⟩:=B.c5 (KB.o _ pM.o);go_upto_region 10 with(go_at_call 16;refine(oh.o _ pM.o).mono ?_;rintro e w5 ⟨bS,mS,dS,bF,mF,dF,bL,mL,dL,pc,dP,xa,nx,cx,ya,cy,rfl,⟨x0,x1,x2⟩,BC,hap,uw⟩;have DU:=ai BC;have Kj:=ai hap;have Gc:=ai uw;clear BC hap uw;have hfd:=aeE bS bF bL (some (Ad pc 0)) mS dS mF dF mL dL nP dP k.hand w5)
   have A6:=ai (Gc.o.alloc Gc.o.size (.cells #[.bool sj.live,.slice xa nx cx,.slice ya sj.aA.length cy] 43));have SB:=ai (B.new w5 #[.bool sj.live,.slice xa nx cx,.slice ya sj.aA.length cy] 43);have aaW:=ai (DU.o.kp (Kp.alloc (fun _=>False) w5 (.cells #[.bool sj.live,.slice xa nx cx,.slice ya sj.aA.length cy] 43)) (fun _ _ g=>g) (fun _ _ g=>g));have Tq:W4.heap.size<=w5.heap.size:=Gc.o.size;obtain⟨W6,hW6⟩:=ex (w5.alloc (.cells #[.bool sj.live,.slice xa nx cx,.slice ya sj.aA.length cy] 43));obtain⟨sb,pC⟩:=ex w5.heap.size;rw[<- hW6] at A6 SB aaW ⊢;rw[<- pC] at SB Tq ⊢;have aaX:=ai Tq;clear hW6 pC x0 x1 x2 DU Gc Tq hfd;have m3:W6.cell? (Ad mb 3)=some (.slice (some (Ad pb 0)) nP cP):=by
    have h:=(wZ.o.below A6.o).c3;rw[YI.o.2.2.2] at h;exact h
   have m3f:W6.frozen? (Ad mb 3)=false:=(wZ.o.below A6.o).free 3;obtain⟨s0,s1,s2⟩:=B.c3 SB.o;have HLN:Hid (S4.L.length=nP):=by
    have:=wZ.o.len;have e:(KM.aT k hs).aj.length=k.aj.length:=rfl;have:=UD.o;exact(show S4.L.length=nP by omega)
   have Al:Hid (∀o,(W6.alloc o).ownsRow WA.heap.size 43 3 (.slice (some (Ad pb 0)) nP cP) nP (S4.L.flatMap bw)):=fun o=>by
    have:=(wZ.o.below (A6.o.trans ((Below.refl W6.heap.size W6).alloc (Nat.le_refl _) o |>.mono A6.o.size))).aj;rw[YI.o.2.2.2,HLN.o] at this;exact this
   have VG:Hid (mb<W4.heap.size/\WA.heap.size<=mb):=⟨wZ.o.lt,wZ.o.lo_le⟩;have Gr:Hid (∀wG O vG,(W6.alloc O).grownBy wG (some pb)->wG.ownsRow WA.heap.size 43 3 vG (nP+1) (S4.L.flatMap bw++bw ⟨sj.live,.slice xa nx cx,.slice ya sj.aA.length cy⟩)->(vG.ownBlock=some pb∨vG.ownBlock=some (W6.alloc O).heap.size)->wG.cell? (Ad mb 3)=some (.slice (some (Ad pb 0)) nP cP)/\wG.frozen? (Ad mb 3)=false/\∃SQ:St,(SQ.vS=S4.vS/\SQ.vF=S4.vF/\SQ.vL=S4.vL/\SQ.vP=vG)/\Km WA.heap.size mb 27 [] (wG.setCell (Ad mb 3) vG) SQ { KM.aT k hs with aj:=k.aj++[sj] }/\SQ.L=S4.L++[⟨sj.live,.slice xa nx cx,.slice ya sj.aA.length cy⟩]/\(∀b,SQ.lab b=.frames∨SQ.lab b=.slots->WA.heap.size<=b/\b<W4.heap.size)/\(wG.setCell (Ad mb 3) vG).heap[sb]?=some (.cells #[.bool sj.live,.slice xa nx cx,.slice ya sj.aA.length cy] 43 (0,0))/\Below WA.heap.size WA (wG.setCell (Ad mb 3) vG)):=fun wG O vG h1 h2 h3=>by
    have hpb:S4.lab pb=.aj:=wZ.o.lP pb (by rw[YI.o.2.2.2];rfl);have hpl:=wZ.o.iJ pb (by rw[hpb];simp);have hpm:mb≠pb:=fun e=>by have:=wZ.o.lH;rw[e,hpb] at this;cases this
    have kg:Kp (fun b=>b=pb) (W6.alloc O) wG:=Kp.grown h1 (fun q e=>by injection e with e;exact e.symm);have eP:S4.vP.ownBlock=some pb:=by rw[YI.o.2.2.2];rfl
    have hm6:=wZ.o.below (A6.o.trans ((Below.refl W6.heap.size W6).alloc (Nat.le_refl _) O |>.mono A6.o.size));have xN:=kg.keep hm6.head hpm;obtain⟨g1,g2,g3⟩:=wZ.o.push pM.o.size A6.o aaW.o Kj.o (by rw[eP];exact h1) (by rw[HLN.o];exact h2) (by rw[eP];exact h3);have hsz:=A6.o.size;have hm:=VG.o;have ajP:=B.isLt SB.o;have Tq:=aaX.o;refine⟨?_,B.free xN 3,⟨qh S4 vG ⟨sj.live,.slice xa nx cx,.slice ya sj.aA.length cy⟩,S4.vS,S4.vF,S4.vL,vG,S4.L++[⟨sj.live,.slice xa nx cx,.slice ya sj.aA.length cy⟩]⟩,⟨rfl,rfl,rfl,rfl⟩,g1,rfl,fun b hb=>?_,?_,?_⟩
    · have:=B.cell xN 3 (v:=S4.vP) (by simp);rw[YI.o.2.2.2] at this;exact this
    · have:=OH hb;exact wZ.o.iJ b (fun e=>by rw[e] at this;rcases this with x | x <;> cases x)
    · have e1:=kg.keep (B.alloc SB.o O) (show sb≠pb by omega);exact B.other e1 mb 3 vG (by omega)
    · exact Kp.below pM.o g3 pM.o.size (fun b hb=>(wZ.o.iJ b hb).1)
   obtain⟨i0,hin,hz0,hz1,hz2⟩:=info_parts sH;have ry:=ai hin;have vo:=ai hz0;have vk:=ai hz1;have uj:=ai hz2;have Gs:Hid (∀o,WA.heap.size<=(W6.alloc o).heap.size):=fun o=>by rw[World.size_alloc];have:=A6.o.size;have:=pM.o.size;omega
   clear hin hz0 hz1 hz2;go_upto_region 11 with(at_builtin;refine bO (P:=Tryz.prog) rfl _ _ 25 rfl WA.heap.size 43 i0 (.agg #[.bool false,Nl,Nl]) 3 56 Tryz.underlying25 ry.o vo.o vk.o uj.o rfl (by decide) (.slice (some (Ad pb 0)) nP cP) nP (S4.L.flatMap bw) (by rfl) (Al.o _) (some (Ad W6.heap.size 0)) 1 1 (bw ⟨sj.live,.slice xa nx cx,.slice ya sj.aA.length cy⟩) (by rfl) rfl (fun _=>⟨_,rfl,uP W6 _ _⟩) (by intro u hu;simp[bw] at hu;rcases hu with rfl | rfl | rfl <;> rfl) (by unfold maxLen;omega) (by omega) (Gs.o _) ?_;intro vG wG qR s6 ux;obtain⟨aG,cG,C9,_,_⟩:=aN qR;subst C9;obtain⟨p0,p1,SQ,hq1,hq2,hq3,hq4,hq5,hq6⟩:=Gr.o _ _ _ s6 qR ux;have HQ1:=ai hq1;have HQ2:=ai hq2;have HQ3:=ai hq3;have HQ4:=ai hq4;have HQ5:=ai hq5;have HQ6:=ai hq6;clear qR s6 ux hq1 hq2 hq3 hq4 hq5 hq6)
   obtain⟨WQ,hWQ⟩:=ex (wG.setCell (Ad mb 3) (.slice aG (nP+1) cG));rw[<- hWQ] at HQ2 HQ5 HQ6 ⊢;clear hWQ p0 p1 m3 m3f s0 s1 s2 Gr;have HL0:Hid (Lf WA.heap.size mb SQ { KM.aT k hs with aj:=k.aj++[sj] } sj.aA WQ 0 WQ):=⟨HQ2.o,Kp.refl _ _⟩;have afa:Hid (∀V,Kp (fun b=>SQ.lab b=.frames∨SQ.lab b=.slots) WQ V->V.cell? (Ad sb 2)=some (.slice ya sj.aA.length cy)/\Below WA.heap.size WA V):=fun V hV=>⟨B.cell (hV.keep HQ5.o (fun g=>by have:=(HQ4.o sb g).2;have:=aaX.o;omega)) 2 rfl,Kp.below HQ6.o hV HQ6.o.size (fun b hb=>(HQ4.o b hb).1)⟩
   have iy:Hid (∀V n,Lf WA.heap.size mb SQ { KM.aT k hs with aj:=k.aj++[sj] } sj.aA WQ n V->aZ aK 3 KM.js V ya sj.aA):=fun V n h=>Tf h rfl HQ3.o rfl
   have Ng:Hid (∀n,(KM.aV { KM.aT k hs with aj:=k.aj++[sj] } sj.aA n).hand=k.hand):=fun n=>by
    induction n with
    | zero=>rfl
    | succ n ih=>rw[<- ih];show(KM.dh _ _ _).hand=_;unfold KM.dh;split <;> rfl
   go_wp2;go_loopw [10] (fun iv wq=>∃n:Nat,n<=sj.aA.length/\iv=I (n:Int)/\Lf WA.heap.size mb SQ { KM.aT k hs with aj:=k.aj++[sj] } sj.aA WQ n wq) (fun iv _=>sj.aA.length-(intOf iv).toNat)
   case atStart=>exact⟨0,by omega,rfl,HL0.o⟩
   case round =>
    obtain⟨n,hn,rfl,hl⟩:=hrel;have HL:=ai hl;have RY:=ai hn;obtain⟨z2,qU⟩:=afa.o _ hl.2;have tj:=ai qU;by_cases hlt:n<sj.aA.length
    · have hni:(n:Int)<(sj.aA.length:Int):=by omega
      have HLT:=ai hlt;obtain⟨eb,eo,e1,e2,e3⟩:=(iy.o _ _ hl) (by omega);have w1:=e3 n hlt 1 (by omega);have w2:=e3 n hlt 2 (by omega);replace w1:wr.cell? (Ad eb (eo+n*3+1))=some (I (KM.aM sj.aA n).kind):=w1;replace w2:wr.cell? (Ad eb (eo+n*3+2))=some (I (KM.aM sj.aA n).loc):=w2;subst e1;have zm:=HEK.o n hlt;have hrf:=ru.o (k.aj++[sj]) hs n hn;clear e2 e3 hn hlt qU;by_cases ck:(KM.aM sj.aA n).kind=1
      · obtain⟨i,hi⟩:∃i:Nat,(KM.aM sj.aA n).loc=(i:Int):=⟨(KM.aM sj.aA n).loc.toNat,by have:=zm.1 ck;omega⟩;have hif:i<k.frames.length:=by have:=zm.1 ck;omega
        have Da:=hrf.1 i hif;obtain⟨fb,cF2,y1,y2,y3,hl2⟩:=OE hl ck hi hif Da.1;obtain⟨R,hRR⟩:=ex ((KM.aH (KM.aV { KM.aT k hs with aj:=k.aj++[sj] } sj.aA n).frames i).refs);rw[<- hRR] at y2 Da hl2;have A4:=ai hl2;replace y1:wr.cell? (Ad mb 1)=some (.slice (some (Ad fb 0)) k.frames.length cF2):=y1;rw[hi] at w2;obtain⟨kd,ZQ⟩:=ex ((KM.aM sj.aA n).kind);rw[<- ZQ] at w1 ck;have kb:(kd==1)=true:=by simpa using ck
        obtain⟨nf,lj⟩:=ex k.frames.length;rw[<- lj] at y1 hif;have wj:(i:Int)<(nf:Int):=by omega
        have hw:IntKind.i64.wrap (R+1)=R+1:=IntWalk.i64_in _ (by omega);clear hl hl2 zm hrf hi hRR ZQ ck lj hif;go_upto_region 15 with fail;go_region;go_wp2;go_roundw
        case rel=>exact⟨n+1,HLT.o,by go_num,A4.o⟩
        case measure=>simp[intOf];have:=HLT.o;omega
      · obtain⟨i,hi⟩:∃i:Nat,(KM.aM sj.aA n).loc=(i:Int):=⟨(KM.aM sj.aA n).loc.toNat,by have:=zm.2 ck;omega⟩;have hif:i<k.slots.length:=by have:=zm.2 ck;omega
        have Da:=hrf.2 i hif;obtain⟨fb,cF2,y1,y2,y3,hl2⟩:=Te hl ck hi hif Da.1;obtain⟨R,hRR⟩:=ex ((KM.bj (KM.aV { KM.aT k hs with aj:=k.aj++[sj] } sj.aA n).slots i).refs);rw[<- hRR] at y2 Da hl2;have A4:=ai hl2;replace y1:wr.cell? (Ad mb 2)=some (.slice (some (Ad fb 0)) k.slots.length cF2):=y1;rw[hi] at w2;obtain⟨kd,ZQ⟩:=ex ((KM.aM sj.aA n).kind);rw[<- ZQ] at w1 ck;have kb:(kd==1)=false:=by simpa using ck
        obtain⟨nf,lj⟩:=ex k.slots.length;rw[<- lj] at y1 hif;have wj:(i:Int)<(nf:Int):=by omega
        have hw:IntKind.i64.wrap (R+1)=R+1:=IntWalk.i64_in _ (by omega);clear hl hl2 zm hrf hi hRR ZQ ck lj hif;go_upto_region 16 with fail;go_region;go_wp2;go_roundw
        case rel=>exact⟨n+1,HLT.o,by go_num,A4.o⟩
        case measure=>simp[intOf];have:=HLT.o;omega
    · obtain rfl:n=sj.aA.length:=by omega
      obtain⟨q1,q2,q3,q4⟩:=HQ1.o;obtain⟨v1,v2,v3,v4⟩:=YI.o;rw[v1] at q1;rw[v2] at q2;rw[v3] at q3;have dG:=hl.1;have c0:=dG.c0;have c1:=dG.c1;have c2:=dG.c2;have c3:=dG.c3;have c4:=dG.c4;rw[q1] at c0;rw[q2] at c1;rw[q3] at c2;rw[q4] at c3;rw[Ng.o] at c4;rw[Sa.o] at dG;have abg:=ai dG;have R3:=ai (RB.o _ qU);obtain⟨y0,y1,y2,y3,y4⟩:=B.c5 R3.o;have f0:=B.free R3.o 0;have f1:=B.free R3.o 1;have f2:=B.free R3.o 2;have f3:=B.free R3.o 3;have f4:=B.free R3.o 4;obtain⟨k0,k1,k2,k3,k4⟩:=B.c5 (KB.o _ qU);have h5:=ai (fun V=>lI R3.o (.slice aS nS cS) (.slice aF nF cF) (.slice aL nL cL) (.slice aG (nP+1) cG) (I k.hand) (V:=V));have hm:=VG.o;have zg:¬mb=w.heap.size+1:=by omega
      have Pe:¬w.heap.size+1=mb:=by omega
      have kY:Hid (∀U,Kp (fun b=>b=w.heap.size+1) wr U->b6 w (KM.fX k j) [I (k.aj.length:Int),I 0] (.returned (.tuple #[.agg #[.slice aS nS cS,.slice aF nF cF,.slice aL nL cL,.slice aG (nP+1) cG,I k.hand],I (k.aj.length:Int),I 0])) U):=fun U hU=>by
       have ek:Below w.heap.size w wr:=bR.o.trans (tj.o.mono bR.o.size);refine⟨SQ,hs,by rw[Xu.o.1];exact iM.o,by rw[q1,q2,q3,q4,Xu.o.2],(abg.o.toKr.kp hU (fun b hb e=>by have:=(abg.o.iJ b hb).1;omega)).mono bR.o.size,Kp.below ek hU ek.size (fun b e=>by omega)⟩
      clear q1 q2 q3 q4 v1 v2 v3 v4 dG hl hn hlt qU hm;go_upto_region 17 with fail;go_region;go_wp2;obtain⟨r1,r2⟩:=h5.out _ rfl;obtain⟨y0,y1,y2,y3,y4⟩:=B.c5 (B.below r1 (Below.refl _ _).drew (B.isLt r1));refine bodyPost_ret (v:=.tuple #[.agg #[.slice aS nS cS,.slice aF nF cF,.slice aL nL cL,.slice aG (nP+1) cG,I k.hand],I (k.aj.length:Int),I 0]) (by simp[results,Tryz.results41,go_sem,y0,y1,y2,y3,y4]) rfl ?_;rw[HP.o];exact kY.o _ (r2.trans (Kp.drew _ _) (fun _ _ g=>g))
 · have hA:fe k sp=(gK,0,cu k sp):=by unfold fe;rw[if_pos c]
   rw[hA];obtain⟨C,hC⟩:=ex (cu k sp);rw[<- hC] at D2 c ⊢;have cb:(C != 0)=true:=by simpa using c
   have cz:(C==0)=false:=by simpa using c
   have bB:=ai (fun V (h:Below w.heap.size w V)=>vr.o V C h);obtain⟨P,hP⟩:=ex (b6 w gK [I 0,I C]);show Calls _ _ _ _ (b6 w gK [I 0,I C]);rw[<- hP] at bB ⊢;unfold aI at D2 eZ ⊢;clear hK hF hsp hA hC hP di hb0 kb rb vr;go_enter Tryz.func41,Tryz.ntmps41;go_upto_region 1 with fail;rw[<- eZ.o];go_upto_region 2 with(go_at_call 56;refine D2.o.mono ?_;rintro e w1 ⟨rfl,hb1⟩;have bE:=ai hb1;obtain⟨k0,k1,k2,k3,k4⟩:=B.c5 (KB.o _ hb1);clear hb1)
   go_upto_region 4 with fail;have j3:=Q.dE w1;have pQ:Hid (∀V,Below w1.heap.size w1 V->V.cell? (Ad w.heap.size 0)=some (.slice a.aS k.ak.length a.cS)/\V.cell? (Ad w.heap.size 1)=some (.slice a.aF k.frames.length a.cF)/\V.cell? (Ad w.heap.size 2)=some (.slice a.aL k.slots.length a.cL)/\V.cell? (Ad w.heap.size 3)=some (.slice a.aP k.aj.length a.cP)/\V.cell? (Ad w.heap.size 4)=some (I k.hand)):=fun V hV=>by
    have:=KB.o V (bE.o.trans (hV.mono bE.o.size));exact⟨B.cell this 0 rfl,B.cell this 1 rfl,B.cell this 2 rfl,B.cell this 3 rfl,B.cell this 4 rfl⟩
   have q0:∀x:Q.ez w1.heap.size w1,x.world.cell? (Ad w.heap.size 0)=some (.slice a.aS k.ak.length a.cS):=fun x=>(pQ.o _ x.keeps).1
   have q1:∀x:Q.ez w1.heap.size w1,x.world.cell? (Ad w.heap.size 1)=some (.slice a.aF k.frames.length a.cF):=fun x=>(pQ.o _ x.keeps).2.1
   have q2:∀x:Q.ez w1.heap.size w1,x.world.cell? (Ad w.heap.size 2)=some (.slice a.aL k.slots.length a.cL):=fun x=>(pQ.o _ x.keeps).2.2.1
   have q3:∀x:Q.ez w1.heap.size w1,x.world.cell? (Ad w.heap.size 3)=some (.slice a.aP k.aj.length a.cP):=fun x=>(pQ.o _ x.keeps).2.2.2.1
   have q4:∀x:Q.ez w1.heap.size w1,x.world.cell? (Ad w.heap.size 4)=some (I k.hand):=fun x=>(pQ.o _ x.keeps).2.2.2.2
   clear k0 k1 k2 k3 k4;refine Q.bu (by kernel_rfl) (by kernel_rfl) ?_
   repeat (first | go_big_quiet_step (fail) | quiet_step (fail))
   refine wpQuiet_nil ?_;rintro _ ⟨X,rfl⟩;have lB:=ai (bE.o.trans (X.keeps.mono bE.o.size));have R1:=ai (RB.o _ lB.o);have gw:=ai (bR.o.trans (lB.o.mono bR.o.size));obtain⟨y0,y1,y2,y3,y4⟩:=B.c5 R1.o;have f0:=B.free R1.o 0;have f1:=B.free R1.o 1;have f2:=B.free R1.o 2;have f3:=B.free R1.o 3;have f4:=B.free R1.o 4;have h5:=ai (fun V=>lI R1.o Nl Nl Nl Nl (I 0) (V:=V));clear q0 q1 q2 q3 q4 j3;go_wp2;obtain⟨r1,r2⟩:=h5.out _ rfl;obtain⟨y0,y1,y2,y3,y4⟩:=B.c5 r1;refine bodyPost_ret (v:=.tuple #[.agg #[Nl,Nl,Nl,Nl,I 0],I 0,I C]) (by simp[results,Tryz.results41,go_sem,y0,y1,y2,y3,y4]) rfl ?_;exact bB.o _ (Kp.below gw.o r2 gw.o.size (fun b e=>by omega))
end KR
end Go.Proofs.YtpgifpeohlllfaaGreat
