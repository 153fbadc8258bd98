import Derived.Test.YtpgifpeohlllfaaGreatGV42
set_option maxHeartbeats 20000000
set_option linter.unusedVariables false
set_option maxRecDepth 100000
set_option linter.unusedSimpArgs false
namespace Go.Proofs.YtpgifpeohlllfaaGreat
namespace Go.Proofs.YtpgifpeohlllfaaGreat
open Go.RowKit
def Vg (j:Nat):iH->Bool
 | .aW i=>i==j
 | _=>false
def FN (S:dN) (j:Nat):Nat->iH:=fun b=>if Vg j (S.lab b)=true then .no else S.lab b
theorem Va {lo mb:Nat} {tt:TypeId} {X:List Value} {w:World} {S:dN} {k:aN} (h:bQ lo mb tt X w S k) {j:Nat} (hj:(cA S.L j).vp=Nl):bQ lo mb tt X w ⟨FN S j,S.vS,S.vF,S.vL,S.vP,S.L⟩ k:=by
 have old:∀b c,S.lab b=c->Vg j c=false->FN S j b=c:=fun b c e hc=>by
  grind [FN]
 refine⟨⟨fun b hb=>?_,h.aA,h.dn,h.frames,h.slots,h.aj,h.len,h.each,fun b hb=>old b _ (h.lS b hb) rfl,fun i hi b hb=>old b _ (h.lX i hi b hb) rfl,fun b hb=>old b _ (h.lF b hb) rfl,fun b hb=>old b _ (h.lL b hb) rfl,fun b hb=>old b _ (h.lP b hb) rfl,fun i hi b hb=>old b _ (h.lA i hi b hb) rfl,fun i hi b hb=>?_⟩,h.head,old mb _ h.lH rfl⟩
 · refine h.qF b (fun e=>hb ?_)
   grind [FN]
 · by_cases c:i=j
   · subst c;have hb:bI (cA S.L i).vp b:=hb;rw[hj] at hb;cases hb
   · exact old b _ (h.lE i hi b hb) (by grind [Vg])
def yL (lo mb:Nat) (K:aN) (j:Nat) (l:List bc) (g:bC->Bool) (S0:dN) (W0:World) (m:Nat) (V:World):Prop:=∃S,bQ lo mb 27 [] V S (iD K j l g m)/\dI S0 W0 S V
theorem aaw {lo mb:Nat} {W:World} {S:dN} {K:aN} (h:bQ lo mb 27 [] W S K) {j:Nat} (hj:j<K.aj.length) {pb n cap:Nat} (hP:S.vP=.slice (some (Ad pb 0)) n cap) {v:Value} {l:List bc} (hr:dC lo W v l) (hat:∀b,bI v b->S.lab b=.no) (g:bC->Bool) :
  ∃ae ce S0,(cA S.L j).vp=.slice ae (ak K.aj j).aW.length ce/\(S0.vS=S.vS/\S0.vF=S.vF/\S0.vL=S.vL/\S0.vP=S.vP)/\yL lo mb K j l g S0 ((W.setCell (Ad pb (j*3+1)) v).setCell (Ad pb (j*3+2)) Nl) 0 ((W.setCell (Ad pb (j*3+1)) v).setCell (Ad pb (j*3+2)) Nl) /\
   (∀V,aH (fun b=>S0.lab b≠.no) ((W.setCell (Ad pb (j*3+1)) v).setCell (Ad pb (j*3+2)) Nl) V->dz bk 3 eD V ae (ak K.aj j).aW)/\aH (fun b=>lo<=b) W ((W.setCell (Ad pb (j*3+1)) v).setCell (Ad pb (j*3+2)) Nl)/\(∀b,S0.lab b≠.no->lo<=b):=by
 have hpb:S.lab pb=.aj:=h.lP pb (by rw[hP];rfl);have hpl:=h.qF pb (by grind);obtain⟨m1,_⟩:=h.ad1 hj hP hr hat
 have hlen:j<S.L.length:=by rw[h.len];exact hj
 obtain⟨m2,_⟩:=m1.SG (j:=j) (by grind) (v:=Nl) (es:=[]) hP (aH.refl _ _) (km _ _ _ _) (fun b hb=>by cases hb);have hvp:(cA ((S.L.set j ⟨(cA S.L j).lv,v,(cA S.L j).vp⟩).set j ⟨(cA (S.L.set j ⟨(cA S.L j).lv,v,(cA S.L j).vp⟩) j).lv,(cA (S.L.set j ⟨(cA S.L j).lv,v,(cA S.L j).vp⟩) j).va,Nl⟩) j).vp=Nl:=by
  grind [Lj]
 have m3:=Va m2 hvp;obtain⟨ae,ce,e1,e2⟩:=h.toiZ.aW hj;have hk1:aH (fun b=>b=pb) W ((W.setCell (Ad pb (j*3+1)) v).setCell (Ad pb (j*3+2)) Nl):=(aH.set (fun b=>b=pb) W (Ad pb (j*3+1)) v rfl).trans (aH.set (fun b=>b=pb) _ (Ad pb (j*3+2)) _ rfl) (fun _ _ g=>g);refine⟨ae,ce,⟨FN ⟨uO ⟨si S j v,S.vS,S.vF,S.vL,S.vP,(S.L.set j ⟨(cA S.L j).lv,v,(cA S.L j).vp⟩)⟩ j Nl,S.vS,S.vF,S.vL,S.vP,((S.L.set j ⟨(cA S.L j).lv,v,(cA S.L j).vp⟩).set j ⟨(cA (S.L.set j ⟨(cA S.L j).lv,v,(cA S.L j).vp⟩) j).lv,(cA (S.L.set j ⟨(cA S.L j).lv,v,(cA S.L j).vp⟩) j).va,Nl⟩)⟩ j,S.vS,S.vF,S.vL,S.vP,((S.L.set j ⟨(cA S.L j).lv,v,(cA S.L j).vp⟩).set j ⟨(cA (S.L.set j ⟨(cA S.L j).lv,v,(cA S.L j).vp⟩) j).lv,(cA (S.L.set j ⟨(cA S.L j).lv,v,(cA S.L j).vp⟩) j).va,Nl⟩)⟩,e1,⟨rfl,rfl,rfl,rfl⟩,⟨_,?_,dI.refl _ _⟩,fun V hV=>?_,hk1.mono (fun b _ e=>by omega),fun b hb=>(m3.qF b hb).1⟩
 · grind [aaR,dX,List.set_set,ja]
 · have ZQ:=(h.each j hj).aR;have ale:∀b,bI (cA S.L j).vp b->S.lab b=.aW j:=fun b hb=>h.lE j hj b hb
   have r1:=hk1.row ZQ (fun b hb e=>by have:=ale b hb;grind);have r2:=hV.row r1 (fun b hb x=>x (by
    have e3:=ale b hb;have hne:¬v.ownBlock=some b:=fun e=>by have:=hat b e;grind
    grind [FN,uO,si,Vg]))
   obtain⟨ae',ce',e',_,hr'⟩:=nD bk (fun _=>rfl) eD r2
   grind
theorem Yo {lo mb:Nat} {K:aN} {j:Nat} {l:List bc} {g:bC->Bool} {S0:dN} {W0 V:World} {m:Nat} (hR:bg K) (hj:j<K.aj.length) (h:yL lo mb K j l g S0 W0 m V) (hm:m<(ak K.aj j).aW.length) (hg:g (aI (ak K.aj j).aW m)=true) :
  Calls Tryz.prog 81 #[.pointer (some (Ad mb 0)),.agg #[I (aI (ak K.aj j).aW m).page,I (aI (ak K.aj j).aW m).kind,I (aI (ak K.aj j).aW m).loc]] V fun e w'=>e=.returned (.tuple #[])/\yL lo mb K j l g S0 W0 (m+1) w':=by
 obtain⟨S,h1,h2⟩:=h;have hin:aI (ak K.aj j).aW m∈(ak K.aj j).aW:=jD hm;have hb:=iQ hR hj hin;have hr:=uj K (ak K.aj j).aW g m;have hp:=uS hR hj g m (by omega);have hf:=o7 hp;have hf1:∀i,i<(cU K (ak K.aj j).aW g m).frames.length->0<=(au (cU K (ak K.aj j).aW g m).frames i).refs/\(au (cU K (ak K.aj j).aW g m).frames i).refs<=512:=hf.1;have hf2:∀i,i<(cU K (ak K.aj j).aW g m).slots.length->0<=(bw (cU K (ak K.aj j).aW g m).slots i).refs/\(bw (cU K (ak K.aj j).aW g m).slots i).refs<=512:=hf.2;have ef:(iD K j l g m).frames=(cU K (ak K.aj j).aW g m).frames:=rfl;have el:(iD K j l g m).slots=(cU K (ak K.aj j).aW g m).slots:=rfl;refine(CT _ S V (aI (ak K.aj j).aW m) h1 (fun c=>?_) (fun c=>?_) ⟨fun c=>?_,fun c=>?_⟩).mono fun e w' ⟨e1,e2,e3⟩=>⟨e1,S,by grind [Vl],h2.trans e3⟩
 · grind
 · grind
 · grind
 grind
theorem aaD {lo mb:Nat} {K:aN} {j:Nat} {l:List bc} {g:bC->Bool} {S0:dN} {W0 V:World} {m:Nat} {pb nP cP:Nat} {ae:Option Addr} (hj:j<K.aj.length) (h:yL lo mb K j l g S0 W0 m V) (hm:m<(ak K.aj j).aW.length) (hg:g (aI (ak K.aj j).aW m)=false) (hP:S0.vP=.slice (some (Ad pb 0)) nP cP)
  (hrow:∀V,aH (fun b=>S0.lab b≠.no) W0 V->dz bk 3 eD V ae (ak K.aj j).aW) :
  ∃av cnt cv xs,cnt<=m/\(∀U,aH (fun b=>bI (.slice av cnt cv) b) V.drew U->U.cell? (Ad pb (j*3+2))=some (.slice av cnt cv)/\U.frozen? (Ad pb (j*3+2))=false/\dz bk 3 eD U ae (ak K.aj j).aW)/\(∀o,(V.drew.alloc o).ownsRow lo 45 3 (.slice av cnt cv) cnt xs) /\
   (∀o wG vG,(V.drew.alloc o).grownBy wG (Value.slice av cnt cv).ownBlock->wG.ownsRow lo 45 3 vG (cnt+1) (xs++bk (aI (ak K.aj j).aW m))->(vG.ownBlock=(Value.slice av cnt cv).ownBlock∨vG.ownBlock=some (V.drew.alloc o).heap.size)->yL lo mb K j l g S0 W0 (m+1) (wG.setCell (Ad pb (j*3+2)) vG)):=by
 obtain⟨S,h1,h2⟩:=h;have hD:Below V.heap.size V V.drew:=(aK _ _).drew;have h1D:=h1.below hD;have hPS:S.vP=.slice (some (Ad pb 0)) nP cP:=h2.eP.trans hP;have hjn:j<(iD K j l g m).aj.length:=by show j<(K.aj.set j _).length;grind
 have es:ak (iD K j l g m).aj j=⟨(ak K.aj j).live,l,gA ((ak K.aj j).aW.take m) g⟩:=by
  show ak (K.aj.set j _) j=_
  grind [ja]
 obtain⟨av,cv,e1,hle,_⟩:=aY (h1D.each j hjn).aR;have e1:(cA S.L j).vp=.slice av (ak (iD K j l g m).aj j).aW.length cv:=e1;have agG:(ak (iD K j l g m).aj j).aW.length<=m:=by
  grind [gA]
 obtain⟨GV,ZX,A⟩:=h1D.toiZ.sp (by omega);obtain rfl:pb=GV:=by have ev:=hPS.symm.trans A.v;grind
 have hlE:∀b,bI (cA S.L j).vp b->S.lab b=.aW j:=fun b hb=>h1.lE j hjn b hb
 rw[e1] at hlE;have zy:=(h1D.each j hjn).aR;have zy:V.drew.ownsRow lo 45 3 (cA S.L j).vp (ak (iD K j l g m).aj j).aW.length ((ak (iD K j l g m).aj j).aW.flatMap bk):=zy;rw[e1] at zy;refine⟨av,_,cv,_,agG,fun U hU=>⟨?_,?_,?_⟩,fun o=>aH.row (aH.alloc (fun _=>False) _ o) zy (fun _ _ g=>g),fun o wG vG q1 q2 q3=>?_⟩
 · grind [Vk.x2,aH.cell,Vk.lab]
 · have hrS:=hU.row h1D.aj (fun b hb x=>by have y1:=hlE b x;have y2:=h1.lP b hb;grind)
   grind [aY,ig]
 · refine hrow U ((h2.kp.trans (aH.drew _ _) (fun _ _ g=>g)).trans hU (fun b hb x hn=>?_))
   grind [dI.no]
 · have hGk:aH (fun b=>S.lab b=.aW j) V wG:=((aH.b7 hD).trans (aH.alloc _ _ o) (fun _ _ g=>g)).trans (aH.grown q1 (fun b e=>hlE b e)) (fun _ _ g=>g);have hzz:(V.drew.alloc o).heap.size=V.heap.size+1:=by simp_all
   have e6:(ak (iD K j l g m).aj j).aW.flatMap bk++bk (aI (ak K.aj j).aW m)=((ak (iD K j l g m).aj j).aW++[aI (ak K.aj j).aW m]).flatMap bk:=by
    grind
   have hnew:∀b,bI vG b->S.lab b=.aW j∨V.heap.size<=b:=fun b hb=>by
    rcases q3 with q3 | q3
    · exact .inl (hlE b (show(Value.slice av _ cv).ownBlock=some b by rw[<- q3];exact hb))
    · have hb:vG.ownBlock=some b:=hb
      grind
   obtain⟨m1,m2⟩:=h1.SG (j:=j) hjn (v:=vG) (es:=(ak (iD K j l g m).aj j).aW++[aI (ak K.aj j).aW m]) hPS hGk (by grind) (fun b hb=>(hnew b hb).imp id (fun x=>h1.toiZ.new x));refine⟨_,?_,h2.trans (m2 (fun b hb hx=>?_))⟩
   · grind [YA]
   grind
theorem Pq (k:aN) (a:fP) (sp pg n:Int) (w:World) (hK:fT w a k) (hF:gW k) (hsp:dY sp) (wS:dY pg) (hn:dY n) :
  Calls Tryz.prog 37 #[.agg (aT a k),I sp,I pg,I n] w (bN w (eG k sp (dA (ak k.aj sp.toNat).aZ pg n)).1 [I (eG k sp (dA (ak k.aj sp.toNat).aZ pg n)).2]):=by
 obtain⟨WA,iK⟩:=ex ((w.alloc (.cells (aT a k) 27)).alloc (.cells #[Nl,Nl,Nl,Nl,I 0] 27));have hb0:Below w.heap.size w WA:=by simp_all [aK,mq]
 have kb:WA.heap[w.heap.size]?=some (.cells (aT a k) 27 (0,0)):=by grind [bE,bG]
 have rb:WA.heap[w.heap.size+1]?=some (.cells #[Nl,Nl,Nl,Nl,I 0] 27 (0,0)):=by
  grind [bG,World.size_alloc]
 have RB:Hid (∀V,Below WA.heap.size WA V->V.heap[w.heap.size+1]?=some (.cells #[Nl,Nl,Nl,Nl,I 0] 27 (0,0))):=fun V hb=>aQ rb hb (aO rb)
 have KB:Hid (∀V,Below WA.heap.size WA V->V.heap[w.heap.size]?=some (.cells #[.slice a.aS k.aA.length a.cS,.slice a.aF k.frames.length a.cF,.slice a.aL k.slots.length a.cL,.slice a.aP k.aj.length a.cP,I k.hand] 27 (0,0))):=fun V hb=>aQ kb hb (aO kb)
 obtain⟨k0,k1,k2,k3,k4⟩:=dx (KB.o WA (aK _ _));have iG:=ai iK;have eO:=ai hb0;have hrl:=aO rb;have zE:=ai (Af k a sp WA (hK.below hb0) hF hsp);have y9:Hid (∀(V:World) (C:Int),Below w.heap.size w V->bN w cJ [I C] (.returned (.tuple #[.agg #[Nl,Nl,Nl,Nl,I 0],I C])) V):=fun V C hV=>mo _ hV
 by_cases c:dM k sp=0
 · obtain⟨hR,wR,hj,mN⟩:=jy c;obtain⟨j,Xh⟩:∃j:Nat,sp=(j:Int):=⟨sp.toNat,by omega⟩;subst Xh;rw[iu] at hj mN ⊢;rw[c] at zE;have hsm:=oC hR hF;have hcc:=hR.c;have KT:(j:Int)<(k.aj.length:Int):=by omega
   obtain⟨pb0,po0,hpo,hpl,Aw⟩:=hK.aj (by omega);obtain⟨va,ap,cp,v0,v1,v2,L3,Bn,_⟩:=Aw j hj;have oU:=L3;obtain⟨aa,ca,yt,_⟩:=L3;subst yt;have iF:∀{V:World},Below WA.heap.size WA V->Below w.heap.size w V:=fun hV=>hb0.trans (hV.mono hb0.size)
   have ZC:Hid (∀V,Below WA.heap.size WA V->V.cell? (Ad pb0 (po0+j*3+1))=some (.slice aa (ak k.aj j).aZ.length ca)):=fun V hV=>((iF hV).cell (p:=(Ad pb0 (po0+j*3+1))) hpl).trans v1
   have hfit:=(hF.sp j hj).aZ;obtain⟨rr,zy⟩:=ex (dA (ak k.aj j).aZ pg n);have tP:Hid (∀V,Below WA.heap.size WA V->Calls Tryz.prog 80 #[.slice aa (ak k.aj j).aZ.length ca,I pg,I n] V fun e w'=>∃ar nr cr,e=.returned (.tuple #[.slice ar nr cr,I rr.2])/\dC V.heap.size w' (.slice ar nr cr) rr.1/\Below V.heap.size V w'):=fun V hV=>(Wp _ _ pg n V (oU.below (iF hV)) hfit wS hn).mono fun e w' ⟨r,h1,h2,h3⟩=>by
    obtain⟨ar,cr,er,_⟩:=aY h2
    grind
   obtain⟨na,wh⟩:=ex ((ak k.aj j).aZ.length);rw[<- wh] at ZC tP;rw[hpo] at KB k3;by_cases ce:rr.2=0
   · rw[ce] at tP;rw[PF hR hj c (by grind),<- zy];obtain⟨nP,QH⟩:=ex k.aj.length;have Si:Hid (∀V,Below WA.heap.size WA V->Calls Tryz.prog 16 #[.agg (aT a k)] V fun e w'=>∃hs S aS nS cS aF nF cF aL nL cL pb cP,e=.returned (.agg #[.slice aS nS cS,.slice aF nF cF,.slice aL nL cL,.slice (some (Ad pb 0)) nP cP,I k.hand])/\dw k.aA hs/\iZ WA.heap.size w' S (bu k hs)/\(S.vS=.slice aS nS cS/\S.vF=.slice aF nF cF/\S.vL=.slice aL nL cL/\S.vP=.slice (some (Ad pb 0)) nP cP)/\(∀b,S.lab b≠.no->V.heap.size<=b)/\Below V.heap.size V w'):=fun V hV=>by
      refine(CS k a V (hK.below (iF hV)) hsm).mono fun e w' ⟨S,hs,h1,h2,h3,h4⟩=>?_
      obtain⟨pb,cP,A⟩:=h3.sp (by show 0<k.aj.length;omega);obtain⟨aS,nS,cS,eS⟩:∃b n d,S.vS=.slice b n d:=by obtain⟨b,d,e,_⟩:=aY h3.aA;grind
      obtain⟨aF,nF,cF,eF⟩:∃b n d,S.vF=.slice b n d:=by obtain⟨b,d,e,_⟩:=aY h3.frames;grind
      obtain⟨aL,nL,cL,eL⟩:∃b n d,S.vL=.slice b n d:=by obtain⟨b,d,e,_⟩:=aY h3.slots;grind
      have eP:S.vP=.slice (some (Ad pb 0)) nP cP:=by rw[QH];exact A.v
      exact⟨hs,S,aS,nS,cS,aF,nF,cF,aL,nL,cL,pb,cP,by grind,h1,h3.mono hV.size,⟨eS,eF,eL,eP⟩,fun b hb=>(h3.qF b hb).1,h4⟩
     have hbn:1<=pg/\1<=n/\pg+n<=256:=by
      obtain⟨_,xw,_⟩:=vV _ _ _ _ _ (show(dV (ak k.aj j).aZ pg n 0 cH).2=0 by rw[zy] at ce;exact ce)
      grind [eu]
     obtain⟨es,hes⟩:=ex ((ak k.aj j).aW);have hel:es.length<=1000000:=by grind [yH.aW]
     have HLE:Hid (∀V m hs mb S0 W0,dw k.aA hs->yL WA.heap.size mb (bu k hs) j rr.1 (mX pg n) S0 W0 m V->m<es.length->mX pg n (aI es m)=true->Calls Tryz.prog 81 #[.pointer (some (Ad mb 0)),.agg #[I (aI es m).page,I (aI es m).kind,I (aI es m).loc]] V fun e w'=>e=.returned (.tuple #[])/\yL WA.heap.size mb (bu k hs) j rr.1 (mX pg n) S0 W0 (m+1) w'):=fun V m hs mb S0 W0 h1 h2 h3 h4=>by
      rw[hes] at h3 h4 ⊢;exact Yo (hR.Dn h1) hj h2 h3 h4
     have Wa:Hid (∀V m hs mb S0 W0 pb nP cP ae,yL WA.heap.size mb (bu k hs) j rr.1 (mX pg n) S0 W0 m V->m<es.length->mX pg n (aI es m)=false->S0.vP=.slice (some (Ad pb 0)) nP cP->(∀V,aH (fun b=>S0.lab b≠.no) W0 V->dz bk 3 eD V ae es)->∃av cnt cv xs,cnt<=m/\(∀U,aH (fun b=>bI (.slice av cnt cv) b) V.drew U->U.cell? (Ad pb (j*3+2))=some (.slice av cnt cv)/\U.frozen? (Ad pb (j*3+2))=false/\dz bk 3 eD U ae es)/\(∀o,(V.drew.alloc o).ownsRow WA.heap.size 45 3 (.slice av cnt cv) cnt xs)/\(∀o wG vG,(V.drew.alloc o).grownBy wG (Value.slice av cnt cv).ownBlock->wG.ownsRow WA.heap.size 45 3 vG (cnt+1) (xs++bk (aI es m))->(vG.ownBlock=(Value.slice av cnt cv).ownBlock∨vG.ownBlock=some (V.drew.alloc o).heap.size)->yL WA.heap.size mb (bu k hs) j rr.1 (mX pg n) S0 W0 (m+1) (wG.setCell (Ad pb (j*3+2)) vG))):=fun V m hs mb S0 W0 pb nP cP ae h1 h2 h3 h4 h5=>by
      rw[hes] at h2 h3 h5 ⊢;exact aaD (K:=bu k hs) hj h1 h2 h3 h4 h5
     have qN:Hid (∀V U hs mb S0 W0,dw k.aA hs->yL WA.heap.size mb (bu k hs) j rr.1 (mX pg n) S0 W0 es.length V->Below WA.heap.size WA V->aH (fun b=>b=w.heap.size+1) V U->bN w (iD k j rr.1 (mX pg n) (ak k.aj j).aW.length) [I 0] (.returned (.tuple #[.agg #[S0.vS,S0.vF,S0.vL,S0.vP,I k.hand],I 0])) U):=fun V U hs mb S0 W0 h1 ⟨S,g1,g2⟩ g3 hU=>by
      rw[hes] at g1;have e1:=Yz k hs j rr.1 (mX pg n) (ak k.aj j).aW.length;rw[e1] at g1;have hc:=uj k (ak k.aj j).aW (mX pg n) (ak k.aj j).aW.length;have hsk:(iD k j rr.1 (mX pg n) (ak k.aj j).aW.length).aA=k.aA:=hc.1;have ZR:(iD k j rr.1 (mX pg n) (ak k.aj j).aW.length).hand=k.hand:=hc.2.1;have iF:Below w.heap.size w V:=hb0.trans (g3.mono hb0.size);exact⟨S,hs,by grind,by grind [dI.eS,dI.eF,dI.eL,dI.eP],(g1.toiZ.kp hU (fun b hb e=>by have:=(g1.qF b hb).1;omega)).mono hb0.size,aH.below iF hU iF.size (fun b e=>by omega)⟩
     have HC4:Hid (∀V hs mb S0 W0 m,yL WA.heap.size mb (bu k hs) j rr.1 (mX pg n) S0 W0 m V->V.cell? (Ad mb 0)=some S0.vS/\V.cell? (Ad mb 1)=some S0.vF/\V.cell? (Ad mb 2)=some S0.vL/\V.cell? (Ad mb 3)=some S0.vP/\V.cell? (Ad mb 4)=some (I k.hand)):=fun V hs mb S0 W0 m ⟨S,g1,g2⟩=>by
      have c4:=g1.c4;have hh:(iD (bu k hs) j rr.1 (mX pg n) m).hand=k.hand:=(uj (bu k hs) _ _ _).2.1;rw[hh] at c4;exact⟨by rw[<- g2.eS];exact g1.c0,by rw[<- g2.eF];exact g1.c1,by rw[<- g2.eL];exact g1.c2,by rw[<- g2.eP];exact g1.c3,c4⟩
     have HUP:Hid (∀hs mb W S pb v cap,bQ WA.heap.size mb 27 [] W S (bu k hs)->S.vP=.slice (some (Ad pb 0)) nP cap->dC WA.heap.size W v rr.1->(∀b,bI v b->S.lab b=.no)->∃ae ce S0,(cA S.L j).vp=.slice ae es.length ce/\(S0.vS=S.vS/\S0.vF=S.vF/\S0.vL=S.vL/\S0.vP=S.vP)/\yL WA.heap.size mb (bu k hs) j rr.1 (mX pg n) S0 ((W.setCell (Ad pb (j*3+1)) v).setCell (Ad pb (j*3+2)) Nl) 0 ((W.setCell (Ad pb (j*3+1)) v).setCell (Ad pb (j*3+2)) Nl)/\(∀V,aH (fun b=>S0.lab b≠.no) ((W.setCell (Ad pb (j*3+1)) v).setCell (Ad pb (j*3+2)) Nl) V->dz bk 3 eD V ae es)/\aH (fun b=>WA.heap.size<=b) W ((W.setCell (Ad pb (j*3+1)) v).setCell (Ad pb (j*3+2)) Nl)/\(∀b,S0.lab b≠.no->WA.heap.size<=b)):=fun hs mb W S pb v cap h1 h2 h3 h4=>by
      rw[hes];exact aaw h1 hj h2 h3 h4 _
     obtain⟨P,hP⟩:=ex (bN w (iD k j rr.1 (mX pg n) (ak k.aj j).aW.length) [I 0]);show Calls _ _ _ _ (bN w (iD k j rr.1 (mX pg n) (ak k.aj j).aW.length) [I 0]);rw[<- hP];have HP:=ai hP;unfold aT at zE iG Si ⊢;rw[hpo] at zE iG Si ⊢;have hjn:(j:Int)<(nP:Int):=by omega
     have HJ:=ai hj;clear hK hF hsp wS hn c hP iK hb0 kb rb hR mN wR hsm hcc y9 Aw v0 v1 v2 oU Bn hpo wh iF hfit  QH ce zy hes;go_enter Tryz.func37,Tryz.ntmps37;go_upto_region 1 with fail;rw[<- iG.o];go_upto_region 2 with(go_at_call 56;refine zE.o.mono ?_;rintro e w1 ⟨rfl,hb1⟩;have cT:=ai hb1;obtain⟨k0,k1,k2,k3,k4⟩:=dx (KB.o _ hb1);clear hb1)
     go_upto_region 3 with fail;have z1:=ZC.o _ cT.o;go_upto_region 5 with(go_at_call 80;refine(tP.o _ cT.o).mono ?_;rintro e w2 ⟨ar,nr,cr,rfl,hr2,hb2⟩;have zC:=ai hr2;have fq:=ai (cT.o.trans (hb2.mono cT.o.size));clear hr2 hb2;obtain⟨k0,k1,k2,k3,k4⟩:=dx (KB.o _ fq.o))
     have oo:=ai fq.o;have HXX:Hid (Below w2.heap.size w2 w2):=aK _ _;clear z1;obtain⟨WX,N9⟩:=ex w2;rw[<- N9] at oo HXX k0 k1 k2 k3 k4 ⊢;have HWX:=ai N9;rw[<- N9] at zC;clear N9;go_upto_region 8 with(go_at_call 16;refine(Si.o _ oo.o).mono ?_;rintro e w4 ⟨hs,S,aS,nS,cS,aF,nF,cF,aL,nL,cL,pb,cP,rfl,hs2,hk2,hv2,II,hb4⟩;have qd:=ai hs2;have pH:=ai hk2;have HVV:=ai hv2;have pq:=ai II;have QK:=ai hb4;have kO:=ai (oo.o.trans (hb4.mono oo.o.size));clear hs2 hk2 hv2 II hb4)
     have E6:Hid (bQ WA.heap.size w4.heap.size 27 [] (w4.alloc (.cells #[.slice aS nS cS,.slice aF nF cF,.slice aL nL cL,.slice (some (Ad pb 0)) nP cP,I k.hand] 27)) ⟨fun b=>if b=w4.heap.size then .head else S.lab b,S.vS,S.vF,S.vL,S.vP,S.L⟩ (bu k hs)):=by
      have:=CU pH.o kO.o.size;obtain⟨v1,v2,v3,v4⟩:=HVV.o;rw[v1,v2,v3,v4] at this ⊢;exact this
     have ym:=ai (kO.o.alloc kO.o.size (.cells #[.slice aS nS cS,.slice aF nF cF,.slice aL nL cL,.slice (some (Ad pb 0)) nP cP,I k.hand] 27));have Y8:Hid (dC WA.heap.size (w4.alloc (.cells #[.slice aS nS cS,.slice aF nF cF,.slice aL nL cL,.slice (some (Ad pb 0)) nP cP,I k.hand] 27)) (.slice ar nr cr) rr.1):=by
      have h1:Below WX.heap.size WX (w4.alloc (.cells #[.slice aS nS cS,.slice aF nF cF,.slice aL nL cL,.slice (some (Ad pb 0)) nP cP,I k.hand] 27)):=(HXX.o.trans (QK.o.mono HXX.o.size)).alloc (gJ HXX.o.size QK.o.size) _;have h2:=aH.row (aH.b7 (D:=fun _=>False) h1) zC.o (fun _ _ g=>g);exact lu h2 (fun g hg=>gJ cT.o.size (zC.o.lt g hg).1)
     have Kz:Hid (∀b,bI (.slice ar nr cr) b->b<w4.heap.size/\S.lab b=.no):=fun b hb=>by
      have g1:=(zC.o.lt b hb).2;have g3:=QK.o.size;exact⟨by omega,pK.1 fun x=>by have:=pq.o b x;omega⟩
     have DV:Hid (bQ WA.heap.size w4.heap.size 27 [] ((w4.alloc (.cells #[.slice aS nS cS,.slice aF nF cF,.slice aL nL cL,.slice (some (Ad pb 0)) nP cP,I k.hand] 27)).setCell (Ad pb (j*3+1)) (.slice ar nr cr)) ⟨si ⟨fun b=>if b=w4.heap.size then .head else S.lab b,S.vS,S.vF,S.vL,S.vP,S.L⟩ j (.slice ar nr cr),S.vS,S.vF,S.vL,S.vP,S.L.set j ⟨(cA S.L j).lv,.slice ar nr cr,(cA S.L j).vp⟩⟩ (bu (rJ k j rr.1) hs)/\aH (fun b=>(if b=w4.heap.size then iH.head else S.lab b)≠.no) (w4.alloc (.cells #[.slice aS nS cS,.slice aF nF cF,.slice aL nL cL,.slice (some (Ad pb 0)) nP cP,I k.hand] 27)) ((w4.alloc (.cells #[.slice aS nS cS,.slice aF nF cF,.slice aL nL cL,.slice (some (Ad pb 0)) nP cP,I k.hand] 27)).setCell (Ad pb (j*3+1)) (.slice ar nr cr))):=E6.o.ad1 HJ.o HVV.o.2.2.2 Y8.o (fun b hb=>by
      have:=Kz.o b hb
      grind)
     have Y4:Hid (∀b,bI (.slice ar nr cr) b->(if b=w4.heap.size then iH.head else S.lab b)=.no):=fun b hb=>by
      have:=Kz.o b hb
      grind
     obtain⟨SA,hSA⟩:∃SA:dN,SA=⟨si ⟨fun b=>if b=w4.heap.size then .head else S.lab b,S.vS,S.vF,S.vL,S.vP,S.L⟩ j (.slice ar nr cr),S.vS,S.vF,S.vL,S.vP,S.L.set j ⟨(cA S.L j).lv,.slice ar nr cr,(cA S.L j).vp⟩⟩:=⟨_,rfl⟩;rw[<- hSA] at DV;have gK:Hid (Below WA.heap.size WA ((w4.alloc (.cells #[.slice aS nS cS,.slice aF nF cF,.slice aL nL cL,.slice (some (Ad pb 0)) nP cP,I k.hand] 27)).setCell (Ad pb (j*3+1)) (.slice ar nr cr))):=aH.below ym.o DV.o.2 ym.o.size (fun b hb=>(E6.o.qF b hb).1);have m3:(w4.alloc (.cells #[.slice aS nS cS,.slice aF nF cF,.slice aL nL cL,.slice (some (Ad pb 0)) nP cP,I k.hand] 27)).cell? (Ad w4.heap.size 3)=some (.slice (some (Ad pb 0)) nP cP):=by
      simp
     obtain⟨GV,ZX,A⟩:=E6.o.toiZ.sp (by show 0<k.aj.length;omega);obtain rfl:pb=GV:=by have ev:=HVV.o.2.2.2.symm.trans A.v;grind
     have x1:=A.x1 j HJ.o;have f1:=A.fz (j*3+1);have x2:=A.x2 j HJ.o;have f2:=A.fz (j*3+2);have hpn:¬w4.heap.size=pb:=fun e=>by have h1:=E6.o.lH;have h2:=A.lab;grind
     obtain⟨W4,L8⟩:=ex (w4.alloc (.cells #[.slice aS nS cS,.slice aF nF cF,.slice aL nL cL,.slice (some (Ad pb 0)) nP cP,I k.hand] 27));obtain⟨mb,hmb⟩:=ex w4.heap.size;rw[<- L8] at E6 ym Y8 DV gK m3 x1 f1 x2 f2 ⊢;rw[<- hmb] at E6 DV m3 hpn Y4 ⊢;clear L8 hmb kO pH A QK pq Kz;have aly:∀b,bI (.slice ar nr cr) b->(if b=mb then iH.head else S.lab b)=.no:=Y4.o;obtain⟨ae,ce,S0,u1,u2,u3,u4,u5,u6⟩:=HUP.o _ _ _ _ _ _ _ E6.o HVV.o.2.2.2 Y8.o aly;replace x2:W4.cell? (Ad pb (j*3+2))=some (.slice ae es.length ce):=by grind
     obtain⟨v1a,hx1⟩:∃v,v=(cA (dN.L ⟨fun b=>if b=mb then iH.head else S.lab b,S.vS,S.vF,S.vL,S.vP,S.L⟩) j).va:=⟨_,rfl⟩;replace x1:W4.cell? (Ad pb (j*3+1))=some v1a:=by grind
     have TA:Hid (S0.vS=.slice aS nS cS/\S0.vF=.slice aF nF cF/\S0.vL=.slice aL nL cL/\S0.vP=.slice (some (Ad pb 0)) nP cP):=by
      grind
     have HU3:=ai u3;have HU4:=ai u4;have HU6:=ai u6;have HU7:Hid (Below WA.heap.size WA ((W4.setCell (Ad pb (j*3+1)) (.slice ar nr cr)).setCell (Ad pb (j*3+2)) Nl)):=aH.below ym.o u5 ym.o.size (fun b hb=>hb);clear u1 u2 u3 u4 u5 u6 aly hx1 hSA DV gK;go_upto_region 12 with fail;obtain⟨WZ,hWZ⟩:=ex ((W4.setCell (Ad pb (j*3+1)) (.slice ar nr cr)).setCell (Ad pb (j*3+2)) Nl);rw[<- hWZ] at HU3 HU4 HU7 ⊢;clear hWZ x1 x2 f1 f2 m3;have HBV:Hid (∀V m,yL WA.heap.size mb (bu k hs) j rr.1 (mX pg n) S0 WZ m V->aH (fun b=>S0.lab b≠.no) WZ V/\Below WA.heap.size WA V):=fun V m ⟨S,_,g2⟩=>⟨g2.kp,aH.below HU7.o g2.kp HU7.o.size HU6.o⟩
     go_wp2;go_loopw [15] (fun iv wq=>∃m:Nat,m<=es.length/\iv=I (m:Int)/\yL WA.heap.size mb (bu k hs) j rr.1 (mX pg n) S0 WZ m wq) (fun iv _=>es.length-(intOf iv).toNat)
     case atStart=>grind [Hid.o]
     case round =>
      obtain⟨m,hm,rfl,hl⟩:=hrel;have HL:=ai hl;obtain⟨hkq,zB⟩:=HBV.o _ _ hl;by_cases hlt:m<es.length
      · have hni:(m:Int)<(es.length:Int):=by omega
        have We:=ai hlt;obtain⟨eb,eo,e1,e2,e3⟩:=(HU4.o _ hkq) (by omega);have z0:=e3 m hlt 0 (by omega);have z1:=e3 m hlt 1 (by omega);have z2:=e3 m hlt 2 (by omega);rw[gV] at z0;by_cases ci:mX pg n (aI es m)=true
        · have HLQ:=ai (HLE.o _ m _ _ _ _ qd.o HL.o hlt ci);obtain⟨E,hE⟩:=ex (aI es m);rw[show es.getD m eD=E from hE.symm] at z0 z1 z2;rw[<- hE] at HLQ ci;obtain⟨pe,kd,lc⟩:=E;replace z0:wr.cell? (Ad eb (eo+m*3))=some (I pe):=z0;replace z1:wr.cell? (Ad eb (eo+m*3+1))=some (I kd):=z1;replace z2:wr.cell? (Ad eb (eo+m*3+2))=some (I lc):=z2;simp only at HLQ;have LG:Hid (∀V,Calls Tryz.prog 44 #[I pe,I pg,I (pg+n-1)] V fun e w'=>e=.returned (.bool true)/\V=w'):=fun V=>by
           have:=gP pe pg (pg+n-1) V;have ci:decide (pg<=pe/\pe<=pg+n-1)=true:=ci;rw[ci] at this;exact this
          subst e1;clear hl e2 e3 hE ci hlt hm hkq zB;go_wp2_with (first | (go_at_call 44;refine(LG.o _).mono ?_;rintro e w5 ⟨rfl,rfl⟩) | (go_at_call 81;refine HLQ.o.mono ?_;rintro e w5 ⟨rfl,hl5⟩;have HL5:=ai hl5;clear hl5))
          go_roundw
          case rel=>grind [Hid.o]
          case measure=>simp[intOf];omega
        · have ci:mX pg n (aI es m)=false:=by grind
          obtain⟨av,cnt,cv,xs,p1,p2,p3,p4⟩:=Wa.o _ _ _ _ _ _ _ _ _ _ hl hlt ci TA.o.2.2.2 HU4.o;have LG:Hid (∀V,Calls Tryz.prog 44 #[I (aI es m).page,I pg,I (pg+n-1)] V fun e w'=>e=.returned (.bool false)/\V=w'):=fun V=>by
           have:=gP (aI es m).page pg (pg+n-1) V;have ci:decide (pg<=(aI es m).page/\(aI es m).page<=pg+n-1)=false:=ci;rw[ci] at this;exact this
          subst e1;have ij:Hid (∀U,aH (fun b=>bI (.slice av cnt cv) b) wr.drew U->U.cell? (Ad pb (j*3+2))=some (.slice av cnt cv)/\U.frozen? (Ad pb (j*3+2))=false/\U.cell? (Ad eb (eo+m*3))=some (I (aI es m).page)/\U.cell? (Ad eb (eo+m*3+1))=some (I (aI es m).kind)/\U.cell? (Ad eb (eo+m*3+2))=some (I (aI es m).loc)):=fun U hU=>by
           obtain⟨g1,g2,g3⟩:=p2 U hU;obtain⟨eb',eo',q1,q2,q3⟩:=g3 (by omega);injection q1 with q1;injection q1 with q1 q4 _;subst q1 q4;have y0:=q3 m We.o 0 (by omega);rw[gV] at y0;exact⟨g1,g2,y0,q3 m We.o 1 (by omega),q3 m We.o 2 (by omega)⟩
          obtain⟨E,hE⟩:=ex (aI es m);have HPE:Hid (∀o wG vG,(wr.drew.alloc o).grownBy wG (Value.slice av cnt cv).ownBlock->wG.ownsRow WA.heap.size 45 3 vG (cnt+1) (xs++bk E)->(vG.ownBlock=(Value.slice av cnt cv).ownBlock∨vG.ownBlock=some (wr.drew.alloc o).heap.size)->yL WA.heap.size mb (bu k hs) j rr.1 (mX pg n) S0 WZ (m+1) (wG.setCell (Ad pb (j*3+2)) vG)):=by rw[hE];exact p4
          have Sh:=ai p3;rw[show es.getD m eD=E from hE.symm] at z0 z1 z2;rw[<- hE] at LG ij;obtain⟨pe,kd,lc⟩:=E;replace z0:wr.cell? (Ad eb (eo+m*3))=some (I pe):=z0;simp only at LG ij;have hlw:WA.heap.size<=wr.drew.heap.size:=zB.size;obtain⟨WD,Gn⟩:=ex wr.drew;rw[<- Gn] at ij HPE Sh hlw;have HWD:=ai Gn;obtain⟨i0,hin,hz0,hz1,hz2⟩:=iq uk;have tP:=ai hin;have Dg:=ai hz0;have Df:=ai hz1;have BI:=ai hz2;have hcm:cnt<=1000000:=by omega
          clear hl e2 e3 hE ci hlt hm hkq zB p1 p2 p3 p4 z1 z2 Gn hin hz0 hz1 hz2;go_upto_region 17 with(go_at_call 44;refine(LG.o _).mono ?_;rintro e w5 ⟨rfl,rfl⟩)
          refine nB (S:=fun V=>aH (fun b=>bI (.slice av cnt cv) b) WD V) (z:=13) (by rfl) ?_;rw[<- HWD.o];have gj:Hid (aH (fun b=>bI (.slice av cnt cv) b) WD WD):=aH.refl _ _;refine cB 0 gj.o ?_ ?_ ?_;rotate_left 1
          · intro V h;rfl
          refine cB 1 gj.o ?_ ?_ ?_;rotate_left 1
          · intro V h;rfl
          refine cB 2 gj.o ?_ ?_ ?_;rotate_left 1
          · intro V h;rfl
          refine cB 3 gj.o ?_ ?_ ?_;rotate_left 1
          · intro V h;obtain⟨k0,k1,k2,k3,k4⟩:=ij.o V h;go_simp;rfl
          refine cB 4 gj.o ?_ ?_ ?_;rotate_left 1
          · intro V h;obtain⟨k0,k1,k2,k3,k4⟩:=ij.o V h;go_simp;rfl
          refine cB 5 gj.o ?_ ?_ ?_;rotate_left 1
          · intro V h;rfl
          refine cB 6 gj.o ?_ ?_ ?_;rotate_left 1
          · intro V h;rfl
          refine cB 7 gj.o ?_ ?_ ?_;rotate_left 1
          · intro V h;obtain⟨k0,k1,k2,k3,k4⟩:=ij.o V h;go_simp;rfl
          refine cB 8 gj.o ?_ ?_ ?_;rotate_left 1
          · intro V h;obtain⟨k0,k1,k2,k3,k4⟩:=ij.o V h;go_simp;rfl
          refine ck (rs:=[9]) (by kernel_rfl) (by simp) ?_;refine aU.cons rfl (fun K hK=>?_) aU.nil;go_simp;refine hK.out _ _ (fun _=>?_) ?_
          · simp[aH.alloc]
          clear hK K
          try simp only[Act.put,bW,bV,bU]
          refine ck (rs:=[10]) (by kernel_rfl) (by simp) ?_;refine aU.cons rfl (fun K hK=>?_) aU.nil;rw[bf (by rfl)];refine eK (P:=Tryz.prog) _ _ 41 rfl WA.heap.size 45 i0 (.agg #[I 0,I 0,I 0]) 3 24 Tryz.underlying41 tP.o Dg.o Df.o BI.o rfl (by decide) (.slice av cnt cv) cnt xs rfl (Sh.o _) (some (Ad WD.heap.size 0)) 1 1 (bk ⟨pe,kd,lc⟩) rfl rfl (fun _=>⟨_,rfl,uL WD _ _⟩) (by intro u hu;simp[bk] at hu;rcases hu with rfl | rfl | rfl <;> rfl) (by unfold maxLen;omega) (by omega) (by rw[iJ];omega) ?_;intro vG wG zu Ce D5;obtain⟨aG,cG,MT,_,_⟩:=aY zu;subst MT;have BJ:Hid (aH (fun b=>bI (.slice av cnt cv) b) WD wG):=(aH.alloc _ _ _).trans (aH.grown Ce (fun q hq=>hq)) (fun _ _ g=>g);have HLG:=ai (HPE.o _ _ _ Ce zu D5);clear zu Ce D5;refine hK.out _ _ (fun _=>?_) ?_
          · exact BJ.o
          clear hK K
          try simp only[Act.put,bW,bV,bU]
          refine ck (rs:=[11]) (by kernel_rfl) (by simp) ?_;refine aU.cons rfl (fun K hK=>?_) aU.nil;go_simp;refine hK.out _ _ (fun _=>?_) ?_
          · exact BJ.o
          clear hK K
          try simp only[Act.put,bW,bV,bU]
          refine ck (rs:=[12]) (by kernel_rfl) (by simp) ?_;refine aU.cons rfl (fun K hK=>?_) aU.nil;go_simp;refine hK.out _ _ (fun _=>?_) ?_
          · exact BJ.o
          clear hK K
          try simp only[Act.put,bW,bV,bU]
          obtain⟨k0,k1,k2,k3,k4⟩:=ij.o _ BJ.o;refine ck (rs:=[13]) (by kernel_rfl) (by simp) ?_;refine aU.cons rfl (fun K hK=>?_) aU.nil;go_simp;refine hK.out _ _ (fun g=>absurd rfl g) ?_;refine jL (by rfl) ?_ _;clear k0 k1 k2 k3 k4;obtain⟨W5,Oz⟩:=ex (wG.setCell (Ad pb (j*3+2)) (.slice aG (cnt+1) cG));rw[<- Oz] at HLG ⊢;clear Oz;go_wp2;go_roundw
          case rel=>exact⟨m+1,We.o,by go_num,HLG.o⟩
          case measure=>simp[intOf];omega
      · obtain rfl:m=es.length:=by omega
        obtain⟨v1,v2,v3,v4⟩:=TA.o;obtain⟨c0,c1,c2,c3,c4⟩:=HC4.o _ _ _ _ _ _ hl;rw[v1] at c0;rw[v2] at c1;rw[v3] at c2;rw[v4] at c3;have R3:=ai (RB.o _ zB);obtain⟨y0,y1,y2,y3,y4⟩:=dx R3.o;have f0:=aJ R3.o 0;have f1:=aJ R3.o 1;have f2:=aJ R3.o 2;have f3:=aJ R3.o 3;have f4:=aJ R3.o 4;have h5:=ai (fun V=>gY R3.o (.slice aS nS cS) (.slice aF nF cF) (.slice aL nL cL) (.slice (some (Ad pb 0)) nP cP) (I k.hand) (V:=V));have HFQ:=ai (fun U hU=>qN.o _ U _ _ _ _ qd.o HL.o zB hU);rw[v1,v2,v3,v4] at HFQ;clear hl v1 v2 v3 v4 hkq zB hm hlt;go_wp2;obtain⟨r1,r2⟩:=h5.out _ rfl;obtain⟨y0,y1,y2,y3,y4⟩:=dx r1;refine bR (v:=.tuple #[.agg #[.slice aS nS cS,.slice aF nF cF,.slice aL nL cL,.slice (some (Ad pb 0)) nP cP,I k.hand],I 0]) (by simp[results,Tryz.results37,go_sem,y0,y1,y2,y3,y4]) rfl ?_;rw[HP.o];exact HFQ.o _ r2
   · rw[CV c (by grind),<- zy];obtain⟨C,hC⟩:=ex rr.2;rw[<- hC] at tP ce ⊢;have cb:(C != 0)=true:=by grind
     have cz:(C==0)=false:=by grind
     have cZ:=ai (fun V (h:Below w.heap.size w V)=>y9.o V C h);obtain⟨P,hP⟩:=ex (bN w cJ [I C]);show Calls _ _ _ _ (bN w cJ [I C]);rw[<- hP] at cZ ⊢;unfold aT at zE iG ⊢;rw[hpo] at zE iG ⊢;clear hK hF hsp wS hn c hP iK hb0 kb rb hR mN wR hsm hcc hj y9 Aw v0 v1 v2 oU Bn hpo wh iF hfit zy hC;go_enter Tryz.func37,Tryz.ntmps37;go_upto_region 1 with fail;rw[<- iG.o];go_upto_region 2 with(go_at_call 56;refine zE.o.mono ?_;rintro e w1 ⟨rfl,hb1⟩;have cT:=ai hb1;obtain⟨k0,k1,k2,k3,k4⟩:=dx (KB.o _ hb1);clear hb1)
     go_upto_region 3 with fail;have z1:=ZC.o _ cT.o;go_upto_region 5 with(go_at_call 80;refine(tP.o _ cT.o).mono ?_;rintro e w2 ⟨ar,nr,cr,rfl,hr2,hb2⟩;have fq:=ai (cT.o.trans (hb2.mono cT.o.size));clear hr2 hb2;obtain⟨k0,k1,k2,k3,k4⟩:=dx (KB.o _ fq.o))
     clear z1;have A7:=ai fq.o;have oo:=ai (A7.o);have R1:=ai (RB.o _ oo.o);have kO:=ai (eO.o.trans (oo.o.mono eO.o.size));obtain⟨y0,y1,y2,y3,y4⟩:=dx R1.o;have f0:=aJ R1.o 0;have f1:=aJ R1.o 1;have f2:=aJ R1.o 2;have f3:=aJ R1.o 3;have f4:=aJ R1.o 4;have h5:=ai (fun V=>gY R1.o Nl Nl Nl Nl (I 0) (V:=V));go_wp2;obtain⟨r1,r2⟩:=h5.out _ rfl;obtain⟨y0,y1,y2,y3,y4⟩:=dx r1;refine bR (v:=.tuple #[.agg #[Nl,Nl,Nl,Nl,I 0],I C]) (by simp[results,Tryz.results37,go_sem,y0,y1,y2,y3,y4]) rfl ?_;exact cZ.o _ (aH.below kO.o r2 kO.o.size (fun b e=>by omega))
 · rw[AU c];obtain⟨C,hC⟩:=ex (dM k sp);rw[<- hC] at zE c ⊢;have cb:(C != 0)=true:=by grind
   have cz:(C==0)=false:=by grind
   have cZ:=ai (fun V (h:Below w.heap.size w V)=>y9.o V C h);obtain⟨P,hP⟩:=ex (bN w cJ [I C]);show Calls _ _ _ _ (bN w cJ [I C]);rw[<- hP] at cZ ⊢;unfold aT at zE iG ⊢;clear hK hF hsp wS hn hC hP iK hb0 kb rb y9;go_enter Tryz.func37,Tryz.ntmps37;go_upto_region 1 with fail;rw[<- iG.o];go_upto_region 2 with(go_at_call 56;refine zE.o.mono ?_;rintro e w1 ⟨rfl,hb1⟩;have cT:=ai hb1;clear hb1)
   go_upto_region 5 with fail;have A7:=ai cT.o;have oo:=ai (A7.o);have R1:=ai (RB.o _ oo.o);have kO:=ai (eO.o.trans (oo.o.mono eO.o.size));obtain⟨y0,y1,y2,y3,y4⟩:=dx R1.o;have f0:=aJ R1.o 0;have f1:=aJ R1.o 1;have f2:=aJ R1.o 2;have f3:=aJ R1.o 3;have f4:=aJ R1.o 4;have h5:=ai (fun V=>gY R1.o Nl Nl Nl Nl (I 0) (V:=V));go_wp2;obtain⟨r1,r2⟩:=h5.out _ rfl;obtain⟨y0,y1,y2,y3,y4⟩:=dx r1;refine bR (v:=.tuple #[.agg #[Nl,Nl,Nl,Nl,I 0],I C]) (by simp[results,Tryz.results37,go_sem,y0,y1,y2,y3,y4]) rfl ?_;exact cZ.o _ (aH.below kO.o r2 kO.o.size (fun b e=>by omega))
end Go.Proofs.YtpgifpeohlllfaaGreat
end Go.Proofs.YtpgifpeohlllfaaGreat
