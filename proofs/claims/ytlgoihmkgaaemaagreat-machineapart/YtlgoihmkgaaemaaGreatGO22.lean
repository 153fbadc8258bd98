import Derived.Test.YtlgoihmkgaaemaaGreatGO21
set_option maxHeartbeats 20000000
set_option linter.unusedVariables false
set_option maxRecDepth 100000
set_option linter.unusedSimpArgs false
namespace Go.Proofs.YtlgoihmkgaaemaaGreat
open Go.RowKit
structure FI (k:aR):Prop where
 aM:k.aM.length<=1000000
 eZ:∀i,i<k.aM.length->(bu k.aM i).eZ.length<=1000000
 frames:k.frames.length<=1000000
 slots:k.slots.length<=1000000
 aj:k.aj.length<=1000000
 aT:∀i,i<k.aj.length->(ak k.aj i).aT.length<=1000000
 bf:∀i,i<k.aj.length->(ak k.aj i).bf.length<=1000000
def We (w:World) (k:aR) (e:Ending) (w':World):Prop:=∃S hs,cA k.aM hs/\e=.returned (.agg #[S.vS,S.vF,S.vL,S.vP,I k.hand])/\Kr w.heap.size w' S (aU k hs)/\Below w.heap.size w w'
open Go.RowKit
def rO:Prop:=∀(k:aR) (a:iH) (w:World),jg w a k->FI k->Calls Tryz.prog 79 #[.agg (bc a k)] w (We w k)
def iq (k:aR):List Value:=rh (mg k.aM k.aM.length) 256
theorem Nt {k:aR} (hr:ia k.aM=true) {hs:List bG} (h:cA k.aM hs):KR (iq k) hs:=fun n hn=>by
 grind [iq,FO,FQ,F8]
theorem Ip {hs:List bG} (h:ia hs=true) (i:Nat) (hi:i<hs.length):(bu hs i).eZ.length<=16:=by
 have all:∀n,ki hs n=true->∀i,i<n->dw (bu hs i)=true:=fun n=>by
  induction n with
  | zero=>omega
  | succ n ih =>
   grind [ki]
 have hb:=all hs.length h i hi;unfold dw at hb;rw[eO] at hb;have:=sY _ _ hb.2;omega
theorem qA {k:aR} (hR:aW k) (hF:nZ k):FI k:=by
 have hc:=hR.c;refine⟨by omega,fun i hi=>?_,by omega,by omega,by omega,fun i hi=>?_,fun i hi=>by grind [ot]⟩
 · grind [Ip,aW.lT]
 · have:=oC _ (hR.sp hi).aT;omega
theorem afY {lo mb:Nat} {w' V:World} {S:gL} {k:aR} {hs:List bG} {k0:aR} {a:iH} (hr:Kr lo w' S (aU k hs)) (hm:w'.heap[mb]?=some (.cells (lQ a k0) 158 (0,0))) (hlb:lo<=mb) (hno:S.lab mb=.no) (ht:iq k0=iq k)
  (hV:V=((((w'.setCell (Ad mb 0) S.vS).setCell (Ad mb 1) S.vF).setCell (Ad mb 2) S.vL).setCell (Ad mb 3) S.vP).setCell (Ad mb 4) (I k.hand)) :
  bJ lo mb 158 (iq k) V ⟨fun b=>if b=mb then .head else S.lab b,S.vS,S.vF,S.vL,S.vP,S.L⟩ (aU k hs):=by
 have kp:aC (fun b=>b=mb) w' V:=by
  rw[hV];exact((((aC.set (fun b=>b=mb) w' (Ad mb 0) _ rfl).trans (aC.set (fun b=>b=mb) _ (Ad mb 1) _ rfl) (fun _ _ g=>g)).trans (aC.set (fun b=>b=mb) _ (Ad mb 2) _ rfl) (fun _ _ g=>g)).trans (aC.set (fun b=>b=mb) _ (Ad mb 3) _ rfl) (fun _ _ g=>g)).trans (aC.set (fun b=>b=mb) _ (Ad mb 4) _ rfl) (fun _ _ g=>g)
 have r1:=hr.kp kp (fun b hb e=>hb (by grind));have lb:∀b c,S.lab b=c->c≠.no->(if b=mb then o9.head else S.lab b)=c:=fun b c e hc=>by
  grind
 refine⟨⟨fun b hb=>?_,r1.aM,r1.eZ,r1.frames,r1.slots,r1.aj,r1.len,r1.each,fun b hb=>lb b _ (r1.lS b hb) (by simp),fun i hi b hb=>lb b _ (r1.lX i hi b hb) (by simp),fun b hb=>lb b _ (r1.lF b hb) (by simp),fun b hb=>lb b _ (r1.lL b hb) (by simp),fun b hb=>lb b _ (r1.lP b hb) (by simp),fun i hi b hb=>lb b _ (r1.lA i hi b hb) (by simp),fun i hi b hb=>lb b _ (r1.lE i hi b hb) (by simp)⟩,?_,aB rfl⟩
 · by_cases c:b=mb
   · simp_all [aJ]
   · have hb:(if b=mb then o9.head else S.lab b)≠.no:=hb;rw[au c] at hb;exact r1.yL b hb
 · rw[hV,fP (fP (fP (fP (fP hm 0 S.vS) 1 S.vF) 2 S.vL) 3 S.vP) 4 (I k.hand)];unfold lQ mH;rw[<- ht];congr 2
theorem DT (Hi:rO) (k:aR) (a:iH) (mb:Nat) (w:World) (hK:jg w a k) (hsm:FI k) (hm:w.heap[mb]?=some (.cells (lQ a k) 158 (0,0))) (lo:Nat) (hlo:lo<=mb) :
  Calls Tryz.prog 267 #[.pointer (some (Ad mb 0))] w fun e w'=>e=.returned (.tuple #[])/\∃S hs,cA k.aM hs/\bJ lo mb 158 (iq k) w' S (aU k hs)/\(∀b,S.lab b≠.no->b=mb∨w.heap.size<=b)/\aC (fun b=>b=mb) w w':=by
 have HCP:=ai (Hi k a w hK hsm);have Ji:=aJ hm;have HM:=ai hm;have dB:Hid (∀w1 S hs V,cA k.aM hs->Kr w.heap.size w1 S (aU k hs)->Below w.heap.size w w1->V=((((w1.setCell (Ad mb 0) S.vS).setCell (Ad mb 1) S.vF).setCell (Ad mb 2) S.vL).setCell (Ad mb 3) S.vP).setCell (Ad mb 4) (I k.hand)->∃S hs,cA k.aM hs/\bJ lo mb 158 (iq k) V S (aU k hs)/\(∀b,S.lab b≠.no->b=mb∨w.heap.size<=b)/\aC (fun b=>b=mb) w V):=fun w1 S hs V h1 h2 h3 h4=>by
  have ni:=aN HM.o h3 Ji;have hno:S.lab mb=.no:=zg.1 fun x=>by grind [Kr.yL]
  have r1:Kr lo w1 S (aU k hs):=h2.mono (by omega);have m:=afY r1 ni hlo hno rfl h4;refine⟨_,hs,h1,m,fun b hb=>?_,?_⟩
  · by_cases c:b=mb
    · omega
    · have hb:(if b=mb then o9.head else S.lab b)≠.no:=hb;rw[au c] at hb;exact .inr (h2.yL b hb).1
  · have kp:aC (fun b=>b=mb) w1 V:=by
     rw[h4];exact((((aC.set (fun b=>b=mb) w1 (Ad mb 0) _ rfl).trans (aC.set (fun b=>b=mb) _ (Ad mb 1) _ rfl) (fun _ _ g=>g)).trans (aC.set (fun b=>b=mb) _ (Ad mb 2) _ rfl) (fun _ _ g=>g)).trans (aC.set (fun b=>b=mb) _ (Ad mb 3) _ rfl) (fun _ _ g=>g)).trans (aC.set (fun b=>b=mb) _ (Ad mb 4) _ rfl) (fun _ _ g=>g)
    exact(aC.bZ h3).trans kp (fun _ _ g=>g)
 have anl:Hid (Calls Tryz.prog 79 #[.agg (bc a k)] w fun e w'=>∃S hs aS nS cS aF nF cF aL nL cL aP nP cP,S.vS=.slice aS nS cS/\S.vF=.slice aF nF cF/\S.vL=.slice aL nL cL/\S.vP=.slice aP nP cP/\cA k.aM hs/\e=.returned (.agg #[.slice aS nS cS,.slice aF nF cF,.slice aL nL cL,.slice aP nP cP,I k.hand])/\Kr w.heap.size w' S (aU k hs)/\Below w.heap.size w w'):=HCP.o.mono fun e w' ⟨S,hs,h1,h2,h3,h4⟩=>by
  obtain⟨aS,cS,eS,_⟩:=bg h3.aM;obtain⟨aF,cF,eF,_⟩:=bg h3.frames;obtain⟨aL,cL,eL,_⟩:=bg h3.slots;obtain⟨aP,cP,eP,_⟩:=bg h3.aj
  grind
 have c0:w.cell? (Ad mb 0)=some (.slice a.aS k.aM.length a.cS):=aq hm 0 rfl;have c1:w.cell? (Ad mb 1)=some (.slice a.aF k.frames.length a.cF):=aq hm 1 rfl;have c2:w.cell? (Ad mb 2)=some (.slice a.aL k.slots.length a.cL):=aq hm 2 rfl;have c3:w.cell? (Ad mb 3)=some (.slice a.aP k.aj.length a.cP):=aq hm 3 rfl;have c4:w.cell? (Ad mb 4)=some (I k.hand):=aq hm 4 rfl;have HCM:Hid (∀V,Below w.heap.size w V->(V.cell? (Ad mb 0)=some (.slice a.aS k.aM.length a.cS)/\V.cell? (Ad mb 1)=some (.slice a.aF k.frames.length a.cF)/\V.cell? (Ad mb 2)=some (.slice a.aL k.slots.length a.cL)/\V.cell? (Ad mb 3)=some (.slice a.aP k.aj.length a.cP)/\V.cell? (Ad mb 4)=some (I k.hand))/\V.frozen? (Ad mb 0)=false/\V.frozen? (Ad mb 1)=false/\V.frozen? (Ad mb 2)=false/\V.frozen? (Ad mb 3)=false/\V.frozen? (Ad mb 4)=false):=fun V hb=>by
  have h1:=aN HM.o hb Ji;exact⟨⟨aq h1 0 rfl,aq h1 1 rfl,aq h1 2 rfl,aq h1 3 rfl,aq h1 4 rfl⟩,aO h1 0,aO h1 1,aO h1 2,aO h1 3,aO h1 4⟩
 unfold bc at anl;clear hm hK hsm HCP;go_enter Tryz.func267,Tryz.ntmps267;go_wp2_with (go_at_call 79;refine anl.o.mono ?_;rintro e w1 ⟨S,hs,aS,nS,cS,aF,nF,cF,aL,nL,cL,aP,nP,cP,eS,eF,eL,eP,hsame,rfl,hkr,hb1⟩;have UZ:=ai (fun V=>dB.o w1 S hs V hsame hkr hb1);rw[eS,eF,eL,eP] at UZ;obtain⟨⟨y0,y1,y2,y3,y4⟩,f0,f1,f2,f3,f4⟩:=HCM.o w1 hb1;clear hsame hkr hb1 eS eF eL eP)
 refine vK (v:=.tuple #[]) (by simp[results,Tryz.results267,go_sem]) rfl ?_;exact⟨rfl,UZ.o _ rfl⟩
open Go.RowKit
def ja (k:aR) (sp size way:Int) (ways:List Int):Int:=if cT k sp≠0 then cT k sp else if ¬(1<=size/\size<=8) then 3 else if way∈ways then 0 else 10
def MF (w:World) (k:aR) (e:Ending) (w':World):Prop:=∃mb S hs,e=.returned (.tuple #[.pointer (some (Ad mb 0)),I 0])/\cA k.aM hs/\bJ w.heap.size mb 158 (iq k) w' S (aU k hs)/\Below w.heap.size w w'
theorem Bg {w:World} {a:iH} {k:aR} {sp:Int} (h:Calls Tryz.prog 76 #[.agg (bc a k),I sp] w (xm w a k (cT k sp))) (hc:cT k sp≠0):Calls Tryz.prog 76 #[.agg (bc a k),I sp] w fun e w'=>e=.returned (.tuple #[.pointer none,I (cT k sp)])/\Below w.heap.size w w':=h.mono fun e w' ⟨hb,hh⟩=>by
 grind
theorem QO {w:World} {a:iH} {k:aR} {sp:Int} (h:Calls Tryz.prog 76 #[.agg (bc a k),I sp] w (xm w a k (cT k sp))) (hc:cT k sp=0):Calls Tryz.prog 76 #[.agg (bc a k),I sp] w fun e w'=>∃mb,e=.returned (.tuple #[.pointer (some (Ad mb 0)),I 0])/\w.heap.size<=mb/\w'.heap[mb]?=some (.cells (lQ a k) 158 (0,0))/\Below w.heap.size w w':=h.mono fun e w' ⟨hb,hh⟩=>by
 grind
theorem pS {k:aR} {sp:Int} (h:cT k sp=0):aW k/\0<=sp/\sp.toNat<k.aj.length/\(ak k.aj sp.toNat).live=true:=by
 grind [cT,oh]
theorem FH (k:aR) (a:iH) (sp size way:Int) (ways:List Int) (aw:Option Addr) (cw:Nat) (w:World) (hK:jg w a k) (hF:nZ k) (hsp:cN sp) (hw:eB iF 1 0 w aw ways) (hwl:ways.length<=1000000) (hc:ja k sp size way ways≠0) :
  Calls Tryz.prog 271 #[.agg (bc a k),I sp,I size,I way,.slice aw ways.length cw] w fun e w'=>e=.returned (.tuple #[.pointer none,I (ja k sp size way ways)])/\Below w.heap.size w w':=by
 have AG:=ai (fun V (hV:Below w.heap.size w V)=>vA k a sp V (hK.below hV) hF hsp);have HCT:=ai (fun V (hV:Below w.heap.size w V)=>xk ways way aw cw V (hw.below hV) hwl);have gB:=ai ((aK w.heap.size w).alloc (aD _) (.cells (bc a k) 30));have KB:=ai (bB w (bc a k) 30);obtain⟨C,hC⟩:=ex (ja k sp size way ways);rw[<- hC] at hc ⊢;obtain⟨P,hP⟩:∃P:Ending->World->Prop,P=fun e w'=>e=.returned (.tuple #[.pointer none,I C])/\Below w.heap.size w w':=⟨_,rfl⟩
 have HE:Hid (∀V,Below w.heap.size w V->P (.returned (.tuple #[.pointer none,I C])) V):=fun V hV=>by grind
 rw[<- hP];clear hP;unfold ja at hC;by_cases c1:cT k sp=0
 · rw[au (fun x=>x c1)] at hC;have C3:=ai (fun V hV=>QO (AG.o V hV) c1);by_cases c2:1<=size/\size<=8
   · rw[au (fun x=>x c2)] at hC;have c3:way∉ways:=fun x=>by grind
     rw[au c3] at hC;subst hC;rw[jq c3] at HCT;obtain⟨g1,g2⟩:=c2;clear AG c1 c3 hK hF hsp hw hc;unfold bc at C3 gB KB ⊢;go_enter Tryz.func271,Tryz.ntmps271;go_wp2_with (first
      | (go_at_call 76;refine(C3.o _ gB.o).mono ?_;rintro e w1 ⟨mb,rfl,ni,hm2,hb1⟩;have cH:=ai (bH gB.o hb1);clear hb1 hm2)
      | (go_at_call 282;refine(HCT.o _ cH.o).mono ?_;rintro e w2 ⟨rfl,rfl⟩))
     exact HE.o _ cH.o
   · rw[aB c2] at hC;subst hC;clear AG HCT c1 hK hF hsp hw hc;unfold bc at C3 gB KB ⊢;rcases(show size<1∨(1<=size/\8<size) by omega) with g | ⟨g1,g2⟩
     · go_enter Tryz.func271,Tryz.ntmps271;go_wp2_with (go_at_call 76;refine(C3.o _ gB.o).mono ?_;rintro e w1 ⟨mb,rfl,ni,hm2,hb1⟩;have cH:=ai (bH gB.o hb1);clear hb1 hm2)
       exact HE.o _ cH.o
     · have g3:¬size<1:=by omega
       go_enter Tryz.func271,Tryz.ntmps271;go_wp2_with (go_at_call 76;refine(C3.o _ gB.o).mono ?_;rintro e w1 ⟨mb,rfl,ni,hm2,hb1⟩;have cH:=ai (bH gB.o hb1);clear hb1 hm2)
       exact HE.o _ cH.o
 · rw[aB c1] at hC;have C3:=ai (fun V hV=>Bg (AG.o V hV) c1);rw[<- hC] at C3;have cb:(C != 0)=true:=by grind
   clear AG HCT c1 hK hF hsp hw hc hC;unfold bc at C3 gB KB ⊢;go_enter Tryz.func271,Tryz.ntmps271;go_wp2_with (go_at_call 76;refine(C3.o _ gB.o).mono ?_;rintro e w1 ⟨rfl,hb1⟩;have cH:=ai (bH gB.o hb1);clear hb1)
   exact HE.o _ cH.o
theorem Iq (Hi:rO) (k:aR) (a:iH) (sp size way:Int) (ways:List Int) (aw:Option Addr) (cw:Nat) (w:World) (hK:jg w a k) (hF:nZ k) (hsp:cN sp) (hw:eB iF 1 0 w aw ways) (hwl:ways.length<=1000000) (hc:ja k sp size way ways=0) :
  Calls Tryz.prog 271 #[.agg (bc a k),I sp,I size,I way,.slice aw ways.length cw] w (MF w k):=by
 have c1:cT k sp=0:=by
  grind [ja]
 have c2:1<=size/\size<=8:=by
  grind [ja]
 have c3:way∈ways:=by
  grind [ja]
 have hR:=(pS c1).1;have hsm:=qA hR hF;have C3:=ai (fun V (hV:Below w.heap.size w V)=>QO (vA k a sp V (hK.below hV) hF hsp) c1);have HCT:=ai (fun V (hV:Below w.heap.size w V)=>xk ways way aw cw V (hw.below hV) hwl);rw[ic c3] at HCT;have gB:=ai ((aK w.heap.size w).alloc (aD _) (.cells (bc a k) 30));have HOW:Hid (∀V mb,Below w.heap.size w V->w.heap.size<=mb->V.heap[mb]?=some (.cells (lQ a k) 158 (0,0))->Calls Tryz.prog 267 #[.pointer (some (Ad mb 0))] V fun e w'=>e=.returned (.tuple #[])/\MF w k (.returned (.tuple #[.pointer (some (Ad mb 0)),I 0])) w'):=fun V mb hV ni hm2=>(DT Hi k a mb V (hK.below hV) hsm hm2 w.heap.size ni).mono fun e w' ⟨h1,S,hs,h2,h3,h4,h5⟩=>⟨h1,mb,S,hs,rfl,h2,h3,aC.below hV h5 hV.size (fun b e=>by omega)⟩
 obtain⟨P,hP⟩:=ex (MF w k);rw[<- hP] at HOW ⊢;obtain⟨g1,g2⟩:=c2;clear c1 c3 hK hF hsp hw hc hR hsm hP;unfold bc at C3 gB ⊢;go_enter Tryz.func271,Tryz.ntmps271;go_wp2_with (first
  | (go_at_call 76;refine(C3.o _ gB.o).mono ?_;rintro e w1 ⟨mb,rfl,ni,hm2,hb1⟩;have cH:=ai (bH gB.o hb1);have Gx:=ai hm2;have SC:Hid (w.heap.size<=mb):=(by simp at ni;grind);clear hb1 hm2 ni)
  | (go_at_call 282;refine(HCT.o _ cH.o).mono ?_;rintro e w2 ⟨rfl,rfl⟩)
  | (go_at_call 267;refine(HOW.o _ _ cH.o SC.o Gx.o).mono ?_;rintro e w3 ⟨rfl,hq⟩;have HQ:=ai hq;clear hq))
 exact HQ.o
open Go.RowKit
def dX:aR:=⟨[],[],[],[],0⟩
def afV:gL:=⟨fun _=>.no,Nl,Nl,Nl,Nl,[]⟩
def cu (w:World) (k:aR) (vs:List Value) (e:Ending) (w':World):Prop:=∃S hs,cA k.aM hs/\e=.returned (.tuple (Value.agg #[S.vS,S.vF,S.vL,S.vP,I k.hand]::vs).toArray)/\Kr w.heap.size w' S (aU k hs)/\Below w.heap.size w w'
theorem abH (lo:Nat) (w:World):Kr lo w afV dX:=by
 refine⟨fun b hb=>absurd rfl hb,mG _ _ _ _,fun i hi=>?_,mG _ _ _ _,mG _ _ _ _,mG _ _ _ _,rfl,fun i hi=>?_,fun b hb=>?_,fun i hi=>?_,fun b hb=>?_,fun b hb=>?_,fun b hb=>?_,fun i hi=>?_,fun i hi=>?_⟩
 all_goals first | cases hb | cases hi
theorem qN {w w':World} (vs:List Value) (hb:Below w.heap.size w w'):cu w dX vs (.returned (.tuple (Value.agg #[Nl,Nl,Nl,Nl,I 0]::vs).toArray)) w':=⟨afV,[],rfl,rfl,abH _ _,hb⟩
theorem KN {k:aR} {sp size way:Int} {ways:List Int} (h:ja k sp size way ways=0):cT k sp=0/\(1<=size/\size<=8)/\way∈ways:=by
 grind [ja]
theorem DR {W:World} {rb fb:Nat} (hr:W.heap[rb]?=some (.cells #[Nl,Nl,Nl,Nl,I 0] 30 (0,0))) (hf:W.heap[fb]?=some (.cells #[I 0,I 0] 75 (0,0))) (hne:rb≠fb) (s f l p h x y:Value) {V:World} (hV:V=((((((W.setCell (Ad rb 0) s).setCell (Ad rb 1) f).setCell (Ad rb 2) l).setCell (Ad rb 3) p).setCell (Ad rb 4) h).setCell (Ad fb 0) x).setCell (Ad fb 1) y) :
  V.heap[rb]?=some (.cells #[s,f,l,p,h] 30 (0,0))/\V.heap[fb]?=some (.cells #[x,y] 75 (0,0))/\aC (fun b=>b=rb∨b=fb) W V:=by
 have h1:(((((W.setCell (Ad rb 0) s).setCell (Ad rb 1) f).setCell (Ad rb 2) l).setCell (Ad rb 3) p).setCell (Ad rb 4) h).heap[rb]?=some (.cells #[s,f,l,p,h] 30 (0,0)):=fP (fP (fP (fP (fP hr 0 s) 1 f) 2 l) 3 p) 4 h;have afn:fb≠rb:=fun e=>hne e.symm
 have h2:=mv (mv (mv (mv (mv hf rb 0 s afn) rb 1 f afn) rb 2 l afn) rb 3 p afn) rb 4 h afn;subst hV;refine⟨mv (mv h1 fb 0 x hne) fb 1 y hne,fP (fP h2 0 x) 1 y,?_⟩;have k:∀(A:World) (g j:Nat) (v:Value),g=rb∨g=fb->aC (fun b=>b=rb∨b=fb) A (A.setCell (Ad g j) v):=fun A g j v hg=>aC.set _ A (Ad g j) v hg
 exact((((((k _ _ _ _ (.inl rfl)).trans (k _ _ _ _ (.inl rfl)) (fun _ _ g=>g)).trans (k _ _ _ _ (.inl rfl)) (fun _ _ g=>g)).trans (k _ _ _ _ (.inl rfl)) (fun _ _ g=>g)).trans (k _ _ _ _ (.inl rfl)) (fun _ _ g=>g)).trans (k _ _ _ _ (.inr rfl)) (fun _ _ g=>g)).trans (k _ _ _ _ (.inr rfl)) (fun _ _ g=>g)
open Go.RowKit
theorem WT {s:bG} (h:dw s=true):DN s:=by
 unfold dw pE at h;rw[eO,lh] at h;obtain⟨⟨h1,h2,h3⟩,hf⟩:=h;have hl:=sY _ _ hf;refine⟨⟨by omega,by omega⟩,by unfold b7;omega,by unfold b7;omega,fun k hk=>?_⟩;have all:∀n,fU s.eZ n=true->∀i,i<n->fU s.eZ i=true/\zo (rJ s.eZ i) (nX s.eZ i)=true:=fun n=>by
  induction n with
  | zero=>intro _ i hi;omega
  | succ n ih =>
   intro hn i hi;simp only[fU,eO] at hn;by_cases c:i=n
   · rw[c];exact hn
   · exact ih hn.1 i (by omega)
 obtain⟨g1,g2⟩:=all _ hf k hk;have g3:=sY _ _ g1;unfold zo at g2;rw[lh] at g2;exact⟨⟨by omega,by omega⟩,by unfold b7;omega⟩
theorem TF {hs:List bG} (h:ia hs=true) (hl:hs.length<=255):rM hs:=⟨by unfold b7;omega,fun k hk=>WT (qY hs hs.length h k hk).1⟩
theorem om {k:aR} (h:aW k):nZ k:=by
 have hc:=h.c;obtain⟨r1,r2⟩:=yt h;have hh:=h.hand;refine⟨TF h.lT (by omega),by unfold b7;omega,fun i hi=>⟨?_,?_⟩,by unfold b7;omega,fun i hi=>⟨?_,?_⟩,by unfold b7;omega,fun i hi=>⟨?_,?_,fun n hn=>?_⟩,⟨by omega,by omega⟩⟩
 · have f:=h.zP i hi;unfold b7;by_cases c:bU k.aj 1 i=[]
   · rw[f.zero c];exact sD _
   · rw[f.size c];decide
 · have:=r1 i hi;exact⟨by omega,by omega⟩
 · have f:=h.slt i hi;unfold b7;by_cases c:bU k.aj 2 i=[]
   · rw[f.zero c];exact sD _
   · rw[f.size c];decide
 · have:=r2 i hi;exact⟨by omega,by omega⟩
 · exact lO _ (h.sp hi).aT
 · have:=ot h hi;unfold b7;omega
 · have s:=h.sp hi;have he:aX (ak k.aj i).bf n∈(ak k.aj i).bf:=jT hn;obtain⟨e1,e2⟩:=s.Mq _ he;have e3:=iw s.aT e1;rcases e2 with⟨e4,e5,e6⟩ | ⟨e4,e5,e6⟩
   · exact⟨⟨by omega,by omega⟩,by rw[e4];exact⟨by decide,by decide⟩,⟨by omega,by omega⟩⟩
   · exact⟨⟨by omega,by omega⟩,by rw[e4];exact⟨by decide,by decide⟩,⟨by omega,by omega⟩⟩
theorem Gm {lo:Nat} {w:World} {S:gL} {k:aR} (h:Kr lo w S k):∃a,#[S.vS,S.vF,S.vL,S.vP,I k.hand]=bc a k/\∀U,aC (fun b=>b<lo) w U->jg U a k:=by
 obtain⟨a,p,_⟩:=h.has;refine⟨a,by unfold bc;rw[p.eS,p.eF,p.eL,p.eP],fun U hU=>?_⟩;obtain⟨a',p',ha⟩:=(h.kp hU (fun b hb e=>by have:=(h.yL b hb).1;omega)).has;have e1:=p.eS.symm.trans p'.eS;have e2:=p.eF.symm.trans p'.eF;have e3:=p.eL.symm.trans p'.eL;have e4:=p.eP.symm.trans p'.eP;injection e1 with q1 _ q2;injection e2 with q3 _ q4;injection e3 with q5 _ q6;injection e4 with q7 _ q8;have:a'=a:=by
  cases a;cases a';simp only at q1 q2 q3 q4 q5 q6 q7 q8;subst q1 q2 q3 q4 q5 q6 q7 q8;rfl
 rw[<- this];exact ha
def aic (w:World) (k:aR) (vs:List Value) (e:Ending) (w':World):Prop:=∃hs a,cA k.aM hs/\e=.returned (.tuple (Value.agg (bc a (aU k hs))::vs).toArray)/\(∀U,aC (fun b=>b<w.heap.size) w' U->jg U a (aU k hs))/\Below w.heap.size w w'
theorem ZB {w:World} {k:aR} {vs:List Value} {e:Ending} {w':World} (h:cu w k vs e w'):aic w k vs e w':=by
 obtain⟨S,hs,h1,h2,h3,h4⟩:=h;obtain⟨a,e1,e2⟩:=Gm h3;exact⟨hs,a,h1,by rw[h2,<- e1];rfl,e2,h4⟩
open Go.RowKit
theorem DW (l:List Nat):(Ci l).length=l.length:=by unfold Ci;rw[ie]
theorem UC (l:List Nat) (n:Nat) (hn:n<l.length):D4 (Ci l) n=((l.getD n 0:Nat):Int):=by
 unfold D4 Ci;rw[fK,AQ,fK,l6 hn];rfl
theorem Nw {lo mb:Nat} {tt:TypeId} {X:List Value} (k:aR) (S:gL) (w:World) (l:List Nat) (av:Option Addr) (cv:Nat) (h:bJ lo mb tt X w S k) (hH:nk w S av (Ci l)) (hl:∀n,n<l.length->l.getD n 0<k.frames.length) (hll:l.length<=2) (hsz:∀n,n<l.length->(aH k.frames (l.getD n 0)).data.size<=1000) (Cb:0<k.frames.length) :
  Calls Tryz.prog 273 #[.pointer (some (Ad mb 0)),.slice av l.length cv] w fun e w'=>e=.returned (.string (iP k.frames l l.length))/\w'=w:=by
 obtain⟨fb,cF,A⟩:=h.toKr.fr Cb;have c1:=h.c1;rw[A.v] at c1;have HX:=ai A.x0;have HH:=ai hH.has;have HL:=ai hl;have HSZ:=ai hsz;have HJB:Hid (∀n,n<=l.length->(iP k.frames l n).size<=n*1000):=fun n=>by
  induction n with
  | zero=>intro _;exact sD _
  | succ n ih =>
   intro hn;unfold iP;rw[Vr];have:=ih (by omega);have:=hsz n (by omega);omega
 obtain⟨nf,afm⟩:=ex k.frames.length;rw[<- afm] at c1 HX HL;clear h hH A hl hsz Cb afm;go_enter Tryz.func273,Tryz.ntmps273;go_wp2;go_loopw [5,10] (fun dv iv wr=>∃n:Nat,n<=l.length/\iv=I (n:Int)/\dv=.string (iP k.frames l n)/\wr=w) (fun _ iv _=>l.length-(intOf iv).toNat)
 case atStart=>exact⟨0,by omega,rfl,rfl,rfl⟩
 case round =>
  obtain⟨n,hn,rfl,rfl,rfl⟩:=hrel;by_cases hlt:n<l.length
  · have hni:(n:Int)<(l.length:Int):=by omega
    have hjb:=HJB.o n hn;have hs1:=HSZ.o n hlt;obtain⟨eb,eo,hao,hbl,eY⟩:=HH.o (by rw[DW];omega);subst hao;have y0:=eY n (by rw[DW];exact hlt) 0 (by omega);rw[mF,Pd] at y0;have e0:=UC l n hlt;have x0:wr.cell? (Ad eb (eo+n))=some (I ((l.getD n 0:Nat):Int)):=by
     rw[<- e0];exact y0
    have hq:=HL.o n hlt;have xF:=HX.o (l.getD n 0) hq;have wW:Hid (iP k.frames l (n+1)=iP k.frames l n++(aH k.frames (l.getD n 0)).data):=rfl;obtain⟨q,hqe⟩:=ex (l.getD n 0);rw[<- hqe] at x0 xF wW hq hs1;obtain⟨FD,hFD⟩:=ex ((aH k.frames q).data);rw[<- hFD] at xF wW hs1;obtain⟨JD,hJD⟩:=ex (iP k.frames l n);rw[<- hJD] at wW hjb ⊢;have hqi:(q:Int)<(nf:Int):=by omega
    clear eY y0 e0 hqe hFD hJD;go_wp2;go_roundw
    case rel=>exact⟨n+1,by omega,by go_num,by rw[wW.o],trivial⟩
    case measure=>simp[intOf];omega
  · obtain rfl:n=l.length:=by omega
    go_wp2;go_ret;exact⟨rfl,rfl⟩
open Go.RowKit
theorem zZ (k:aR) (l:List Nat) (s:ByteArray):∀n,(lK k l s n).frames.length=k.frames.length
 | 0=>rfl
 | n+1=>by
  unfold lK wD;show(List.set _ _ _).length=_;rw[fC,zZ k l s n]
theorem Za {lo mb:Nat} {tt:TypeId} {X:List Value} (k:aR) (S:gL) (w:World) (l:List Nat) (s:ByteArray) (av:Option Addr) (cv:Nat) (h:bJ lo mb tt X w S k) (hH:nk w S av (Ci l)) (hl:∀n,n<l.length->l.getD n 0<k.frames.length) (hll:l.length<=2) (hs:l.length*16<=s.size) (hs2:s.size<=1000) (Cb:0<k.frames.length) :
  Calls Tryz.prog 278 #[.pointer (some (Ad mb 0)),.slice av l.length cv,.string s] w (mO lo mb tt X w S (.tuple #[]) (lK k l s l.length)):=by
 have HH:=ai hH;have HL:=ai hl;have Mh:Hid (∀V n,n<l.length->bJ lo mb tt X V S (lK k l s n)->∃fb cF,¬mb=fb/\V.cell? (Ad mb 1)=some (.slice (some (Ad fb 0)) k.frames.length cF)/\(∀V',Below V.heap.size V V'->V'.cell? (Ad fb (l.getD n 0*4))=some (.string (aH (lK k l s n).frames (l.getD n 0)).data)/\V'.frozen? (Ad fb (l.getD n 0*4))=false/\bJ lo mb tt X (V'.setCell (Ad fb (l.getD n 0*4)) (.string (s.extract (n*16) (n*16+16)))) S (lK k l s (n+1))/\cK S V S (V'.setCell (Ad fb (l.getD n 0*4)) (.string (s.extract (n*16) (n*16+16)))))):=fun V n hn hV=>by
  obtain⟨fb,cF,A⟩:=hV.toKr.fr (by rw[zZ];exact Cb);have c1:=hV.c1;rw[A.v,zZ] at c1;refine⟨fb,cF,fun e=>by have:=A.lab;rw[<- e,hV.lH] at this;simp at this,c1,fun V' hb=>?_⟩;have hV':=hV.below hb;obtain⟨fb',cF',A'⟩:=hV'.toKr.fr (by rw[zZ];exact Cb);have e:fb'=fb:=by
   have:=A'.v;rw[A.v] at this;injection this with e1 _ _;injection e1 with e1;injection e1 with e1 _ _;exact e1.symm
  subst e;have hi:l.getD n 0<(lK k l s n).frames.length:=by rw[zZ];exact hl n hn
  exact⟨A'.x0 _ hi,A'.fz _,hV'.Mk A'.v hi (j:=0) (by omega) rfl,(cK.below hb).trans (Ac hV'.toKr A'.v)⟩
 have HPA:Hid (∀V n,n<l.length->Calls Tryz.prog 171 #[.string s,I ((n:Int)*16),I 16] V fun e w'=>e=.returned (.tuple #[.string (s.extract (n*16) (n*16+16)),I 0])/\Below V.heap.size V w'):=fun V n hn=>by
  have:=GN s (n*16) 16 V (by omega) (by omega);rw[show((n*16:Nat):Int)=(n:Int)*16 by omega,show((16:Nat):Int)=16 from rfl] at this;exact this
 have ub:=ai h;have dB:Hid (∀V,bJ lo mb tt X V S (lK k l s l.length)->cK S w S V->mO lo mb tt X w S (.tuple #[]) (lK k l s l.length) (.returned (.tuple #[])) V):=fun V h1 h2=>⟨rfl,h1,h2⟩
 obtain⟨P,hP⟩:=ex (mO lo mb tt X w S (.tuple #[]) (lK k l s l.length));rw[<- hP] at dB ⊢;obtain⟨nf,afm⟩:=ex k.frames.length;rw[<- afm] at Mh HL;clear h hH hl Cb afm hs hs2 hP;go_enter Tryz.func278,Tryz.ntmps278;go_wp2;go_loopw [10] (fun iv wr=>∃n:Nat,n<=l.length/\iv=I (n:Int)/\bJ lo mb tt X wr S (lK k l s n)/\cK S w S wr) (fun iv _=>l.length-(intOf iv).toNat)
 case atStart=>exact⟨0,by omega,rfl,ub.o,cK.refl _ _⟩
 case round =>
  obtain⟨n,hn,rfl,rW,hch⟩:=hrel;by_cases hlt:n<l.length
  · have hni:(n:Int)<(l.length:Int):=by omega
    have zO:=HH.o.ch hch;obtain⟨eb,eo,hao,hbl,eY⟩:=zO.has (by rw[DW];omega);subst hao;have y0:=eY n (by rw[DW];exact hlt) 0 (by omega);rw[mF,Pd] at y0;have e0:=UC l n hlt;have x0:wr.cell? (Ad eb (eo+n))=some (I ((l.getD n 0:Nat):Int)):=by
     rw[<- e0];exact y0
    have hq:=HL.o n hlt;obtain⟨fb,cF,hmf,c1,hwr⟩:=Mh.o wr n hlt rW;have HWR:=ai hwr;have akx:=ai (fun V=>HPA.o V n hlt);have JF:=ai hch;obtain⟨q,hqe⟩:=ex (l.getD n 0);rw[<- hqe] at x0 hq HWR;obtain⟨FD,hFD⟩:=ex ((aH (lK k l s n).frames q).data);rw[<- hFD] at HWR;obtain⟨PD,hPD⟩:=ex (s.extract (n*16) (n*16+16));rw[<- hPD] at HWR akx;have hqi:(q:Int)<(nf:Int):=by omega
    have Ji:mb<wr.heap.size:=nW wr _ c1;have hmu:IntKind.i64.wrap ((n:Int)*16)=(n:Int)*16:=vN _ (by omega);clear eY y0 e0 hqe hFD hPD rW hch hwr zO ub;go_upto_region 3 with fail;have ub:=ai (aK wr.heap.size wr).drew;have nU:Hid (wr.drew.cell? (Ad mb 1)=some (.slice (some (Ad fb 0)) nf cF)):=(ub.o.cell (p:=(Ad mb 1)) Ji).trans c1
    go_region_held3 (fun V=>V.cell? (Ad mb 1)=some (.slice (some (Ad fb 0)) nf cF)) (first | exact sL.o | exact nU.o | exact HS4.o)
     ((go_at_call 171;refine(akx.o _).mono ?_;rintro r w5 ⟨rfl,Fm⟩;have HK5:=ai (ub.o.trans (Fm.mono ub.o.size));have sL:Hid (w5.cell? (Ad mb 1)=some (.slice (some (Ad fb 0)) nf cF)):=(HK5.o.cell (p:=(Ad mb 1)) Ji).trans c1;have HS4:Hid ((w5.setCell (Ad fb (q*4)) (.string PD)).cell? (Ad mb 1)=some (.slice (some (Ad fb 0)) nf cF)):=(cj _ _ _ _ _ _ hmf).trans sL.o;obtain⟨z0,z1,z2,z3⟩:=HWR.o w5 HK5.o;have yZ:=ai z2;have HZ3:=ai z3;clear Fm z2 z3))
    all_goals clear nU sL HS4 akx
    all_goals go_wp2
    go_roundw
    case rel=>exact⟨n+1,by omega,by go_num,yZ.o,JF.o.trans HZ3.o⟩
    case measure=>simp[intOf];omega
  · obtain rfl:n=l.length:=by omega
    have HX:=ai (dB.o wr rW hch);clear rW hch;go_wp2
    first
     | exact HX.o
     | (refine vK (v:=.tuple #[]) (by simp[results,Tryz.results278,go_sem]) rfl ?_;exact HX.o)
open Go.RowKit
def qz (k:aR) (sp a n way:Int):aR×ByteArray×(Int×Int)×Int:=if ja k sp n way [0,2]≠0 then (dX,⟨#[]⟩,(0,0),ja k sp n way [0,2]) else if (bR (ak k.aj sp.toNat).aT a n way).1≠0 then (dX,⟨#[]⟩,bR (ak k.aj sp.toNat).aT a n way,0) else ((aZ k sp.toNat a n way).2,mi k sp.toNat a n way,(0,0),0)
theorem abD (V:World):eB iF 1 0 (V.alloc (.cells #[I 0,I 2] 3)) (some (Ad V.heap.size 0)) [0,2]:=fun _=>by
 have h:=bB V #[I 0,I 2] 3;refine⟨V.heap.size,0,rfl,aJ h,fun i hi j hj=>?_⟩;obtain rfl:j=0:=by omega
 have hi:i<2:=hi;rcases(show i=0∨i=1 by omega) with rfl | rfl
 · exact aq h 0 rfl
 · exact aq h 1 rfl
theorem Y6 (Hi:rO) (k:aR) (a:iH) (sp ad n way:Int) (w:World) (hK:jg w a k) (hF:nZ k) (hsp:cN sp) (had:cN ad) :
  Calls Tryz.prog 262 #[.agg (bc a k),I sp,I ad,I n,I way] w (cu w (qz k sp ad n way).1 [.string (qz k sp ad n way).2.1,.agg #[I (qz k sp ad n way).2.2.1.1,I (qz k sp ad n way).2.2.1.2],I (qz k sp ad n way).2.2.2]):=by
 obtain⟨WA,lu⟩:=ex (((w.alloc (.cells (bc a k) 30)).alloc (.cells #[Nl,Nl,Nl,Nl,I 0] 30)).alloc (.cells #[I 0,I 0] 75));have hb0:Below w.heap.size w WA:=by rw[lu];exact(((aK _ _).alloc (aD _) _).alloc (by simp) _).alloc (by simp;omega) _
 have kb:WA.heap[w.heap.size]?=some (.cells (bc a k) 30 (0,0)):=by grind [bk,bB]
 have rb:WA.heap[w.heap.size+1]?=some (.cells #[Nl,Nl,Nl,Nl,I 0] 30 (0,0)):=by
  grind [bk,bB,World.size_alloc]
 have fb:WA.heap[w.heap.size+1+1]?=some (.cells #[I 0,I 0] 75 (0,0)):=by
  grind [bB,World.size_alloc]
 have hsz:WA.heap.size=w.heap.size+3:=by simp_all
 obtain⟨WB,hWB⟩:=ex (WA.alloc (.cells #[I 0,I 2] 3));have hb1:Below w.heap.size w WB:=by grind [Below.alloc]
 have hrow:eB iF 1 0 WB (some (Ad WA.heap.size 0)) [0,2]:=by grind [abD]
 have aaV:WB.heap.size=w.heap.size+4:=by simp_all
 have RB:Hid (∀V,Below WB.heap.size WB V->V.heap[w.heap.size+1]?=some (.cells #[Nl,Nl,Nl,Nl,I 0] 30 (0,0))):=fun V hb=>aN (by grind [bk]) hb (by omega)
 have FB:Hid (∀V,Below WB.heap.size WB V->V.heap[w.heap.size+1+1]?=some (.cells #[I 0,I 0] 75 (0,0))):=fun V hb=>aN (by grind [bk]) hb (by omega)
 have k0:WA.cell? (Ad w.heap.size 0)=some (.slice a.aS k.aM.length a.cS):=aq kb 0 rfl;have k1:WA.cell? (Ad w.heap.size 1)=some (.slice a.aF k.frames.length a.cF):=aq kb 1 rfl;have k2:WA.cell? (Ad w.heap.size 2)=some (.slice a.aL k.slots.length a.cL):=aq kb 2 rfl;have k3:WA.cell? (Ad w.heap.size 3)=some (.slice a.aP k.aj.length a.cP):=aq kb 3 rfl;have k4:WA.cell? (Ad w.heap.size 4)=some (I k.hand):=aq kb 4 rfl;have sB:=ai lu;have HWB:=ai hWB;have cH:=ai hb1;by_cases c:ja k sp n way [0,2]=0
 · obtain⟨hlv,hn,hwy⟩:=KN c;obtain⟨hR,Jg,hj,uu⟩:=pS hlv;obtain⟨j,hje⟩:∃j:Nat,sp=(j:Int):=⟨sp.toNat,by omega⟩;subst hje;rw[jz] at hj uu;have AG:=ai (Iq Hi k a (j:Int) n way [0,2] (some (Ad WA.heap.size 0)) 2 WB (hK.below hb1) hF hsp hrow (by simp) c);rw[show([0,2]:List Int).length=2 from rfl] at AG;have Uq:w.heap.size+1≠w.heap.size+1+1:=by omega
   have HLB:=ai (show w.heap.size+1+1<WB.heap.size by omega);by_cases hf:(bR (ak k.aj j).aT ad n way).1=0
   · obtain⟨hf0,hal,hau,hmap⟩:=rZ hn.1 hn.2 hf;have ni:dV k j (ad/16):=by
      have:=hmap 0 (by omega) (by omega);rw[Dn] at this;exact this
     have hm2:dV k j (cB ad n):=by
      have:=hmap (n-1) (by omega) (by omega);unfold cB;rw[show ad+n-1=ad+(n-1) by omega];exact this
     have RH:=od hR hj ad n way ni hm2;have hrk:=RH.kept.aM;have hcc:=hR.c;have adK:0<(aZ k j ad n way).2.frames.length:=by rw[RH.kept.nf];omega
     have Qb:(aZ k j ad n way).1.length<=2:=by
      rw[(Bh k j ad n way).2.2];unfold nY
      grind
     have Ox:∀m,m<(aZ k j ad n way).1.length->(aZ k j ad n way).1.getD m 0<(aZ k j ad n way).2.frames.length:=fun m hm=>by
      rw[RH.kept.nf];by_cases z:cB ad n=ad/16
      · have e:(aZ k j ad n way).1=[(fp k j ad way).1]:=by unfold aZ;rw[aB z]
        rw[e] at hm ⊢;have hm:m<1:=hm;obtain rfl:m=0:=by omega
        exact RH.one.2
      · have e:(aZ k j ad n way).1=[(fp k j ad way).1,(kI k j ad n way).1]:=by unfold aZ;rw[au z]
        rw[e] at hm ⊢;have hm:m<2:=hm;rcases(show m=0∨m=1 by omega) with rfl | rfl
        · exact RH.one.2
        · exact(RH.two z).2
     have Yt:∀m,m<(aZ k j ad n way).1.length->(aH (aZ k j ad n way).2.frames ((aZ k j ad n way).1.getD m 0)).data.size<=1000:=fun m hm=>by
      have hi:=Ox m hm;by_cases z:(aH (aZ k j ad n way).2.frames ((aZ k j ad n way).1.getD m 0)).refs=0
      · have:=(RH.right.zP _ hi).zero ((RH.right.zP _ hi).nil z);rw[this];show(0:Nat)<=1000;omega
      · have:=(RH.right.zP _ hi).size ((RH.right.zP _ hi).ne z);omega
     have hPg:Eg (bY k j) ad n:=⟨pH hR hj ni,pH hR hj hm2⟩;have hfit:=Bq hPg hn.1 hn.2;have hjs:=zz hPg hn.1 hn.2;have Ni:=xW hR hj ad n way ni hm2;have HPT:Hid (∀V,Calls Tryz.prog 171 #[.string (iP (aZ k j ad n way).2.frames (aZ k j ad n way).1 (aZ k j ad n way).1.length),I (((ad%16).toNat:Nat):Int),I n] V fun e w'=>e=.returned (.tuple #[.string (mi k j ad n way),I 0])/\Below V.heap.size V w'):=fun V=>by
      have:=GN (iP (aZ k j ad n way).2.frames (aZ k j ad n way).1 (aZ k j ad n way).1.length) (ad%16).toNat n.toNat V (by rw[Ni];omega) (by rw[Ni];omega);rw[show((n.toNat:Nat):Int)=n by omega] at this;exact this
     have ajH:ad.tmod 16=(((ad%16).toNat:Nat):Int):=by
      rw[acU (by omega)];omega
     have hA:qz k (j:Int) ad n way=((aZ k j ad n way).2,mi k j ad n way,(0,0),0):=by
      unfold qz;rw[au (fun x=>x c),jz,au (fun x=>x hf)]
     rw[hA];have Dl:Hid (∀V S mb hs,cA k.aM hs->bJ WB.heap.size mb 158 (iq k) V S (aU k hs)->Below w.heap.size w V->V.heap[w.heap.size+1]?=some (.cells #[Nl,Nl,Nl,Nl,I 0] 30 (0,0))->V.heap[w.heap.size+1+1]?=some (.cells #[I 0,I 0] 75 (0,0))->Calls Tryz.prog 272 #[.pointer (some (Ad mb 0)),I (j:Int),I ad,I n,I way] V fun e w'=>∃av nv cv aS nS cS aF nF cF aL nL cL aP nP cP hd,e=.returned (.tuple #[.slice av nv cv,.agg #[I 0,I 0]])/\w'.cell? (Ad mb 0)=some (.slice aS nS cS)/\w'.cell? (Ad mb 1)=some (.slice aF nF cF)/\w'.cell? (Ad mb 2)=some (.slice aL nL cL)/\w'.cell? (Ad mb 3)=some (.slice aP nP cP)/\w'.cell? (Ad mb 4)=some (I hd)/\mb<w'.heap.size/\(∀V',Below w'.heap.size w' V'->Calls Tryz.prog 273 #[.pointer (some (Ad mb 0)),.slice av nv cv] V' fun e w''=>e=.returned (.string (iP (aZ k j ad n way).2.frames (aZ k j ad n way).1 (aZ k j ad n way).1.length))/\w''=V')/\w'.heap[w.heap.size+1]?=some (.cells #[Nl,Nl,Nl,Nl,I 0] 30 (0,0))/\w'.heap[w.heap.size+1+1]?=some (.cells #[I 0,I 0] 75 (0,0))/\Below w.heap.size w w'/\(∀U,aC (fun b=>b=w.heap.size+1∨b=w.heap.size+1+1) w' U->cu w (aZ k j ad n way).2 [.string (mi k j ad n way),.agg #[I 0,I 0],I 0] (.returned (.tuple #[.agg #[.slice aS nS cS,.slice aF nF cF,.slice aL nL cL,.slice aP nP cP,I hd],.string (mi k j ad n way),.agg #[I 0,I 0],I 0])) U)):=fun V S mb hs hsame hV hbV hrV hfV=>by
      have hR':=hR.vJ hsame;refine(Ir (aU k hs) S V j ad n way hV hR' hj had hn hf (Nt hR.lT hsame)).mono fun e w' ⟨av,cv,S',e1,zO,hk',hc'⟩=>?_
      rw[s8 hR hj ni hsame] at hk' e1 zO;have Ow:∀b,b<WB.heap.size->S.lab b=.no:=fun b hb=>zg.1 fun x=>by have:=(hV.yL b x).1;omega
      have hbd:=HLB.o;obtain⟨aS,cS,eS,_⟩:=bg hk'.aM;obtain⟨aF,cF,eF,_⟩:=bg hk'.frames;obtain⟨aL,cL,eL,_⟩:=bg hk'.slots;obtain⟨aP,cP,eP,_⟩:=bg hk'.aj;have c0:=hk'.c0;have c1:=hk'.c1;have c2:=hk'.c2;have c3:=hk'.c3;rw[eS] at c0;rw[eF] at c1;rw[eL] at c2;rw[eP] at c3;have hbl:Below w.heap.size w w':=aC.below hbV hc'.kp hbV.size (fun b hb=>by have:=(hV.yL b hb).1;omega);refine⟨av,_,cv,aS,_,cS,aF,_,cF,aL,_,cL,aP,_,cP,_,e1,c0,c1,c2,c3,hk'.c4,hk'.lt,fun V' hb'=>?_,hc'.keep hrV (Ow _ (by omega)),hc'.keep hfV (Ow _ hbd),hbl,fun U hU=>⟨S',hs,by rw[hrk];omega,by rw[eS,eF,eL,eP];rfl,?_,?_⟩⟩
      · exact Nw (aU (aZ k j ad n way).2 hs) S' V' (aZ k j ad n way).1 av cv (hk'.below hb') (zO.ch (cK.below hb')) (fun m hm=>Ox m hm) Qb (fun m hm=>Yt m hm) adK
      · exact(hk'.toKr.kp hU (fun b hb e=>hb (hc'.no b (by have:=aJ hfV;omega) (Ow b (by omega))))).mono (by omega)
      · exact aC.below hbl hU hbl.size (fun b e=>by omega)
     obtain⟨P,hP⟩:=ex (cu w (aZ k j ad n way).2 [.string (mi k j ad n way),.agg #[I 0,I 0],I 0]);rw[<- hP] at Dl;obtain⟨LD,hLD⟩:=ex (mi k j ad n way);rw[<- hLD] at Dl HPT;obtain⟨JD,hJD⟩:=ex (iP (aZ k j ad n way).2.frames (aZ k j ad n way).1 (aZ k j ad n way).1.length);rw[<- hJD] at Dl HPT;obtain⟨md,hmd⟩:=ex ((ad%16).toNat);rw[<- hmd] at HPT ajH;show Calls _ _ _ _ (cu w (aZ k j ad n way).2 [.string (mi k j ad n way),.agg #[I 0,I 0],I 0]);rw[<- hP];have xu:Hid (Calls Tryz.prog 271 #[.agg (bc a k),I (j:Int),I n,I way,.slice (some (Ad WA.heap.size 0)) 2 2] WB fun e w'=>∃mb S hs,e=.returned (.tuple #[.pointer (some (Ad mb 0)),I 0])/\cA k.aM hs/\bJ WB.heap.size mb 158 (iq k) w' S (aU k hs)/\Below WB.heap.size WB w'):=AG.o;unfold bc at xu sB ⊢;clear hK hF hsp had hA c hP lu hWB hb0 hb1 kb rb fb hrow hsz aaV AG hf hf0 hal hau hmap ni hm2 hrk hR hlv hn hwy hj uu Jg RH hcc adK Qb Ox Yt hPg hfit hjs Ni hLD hJD hmd;go_enter Tryz.func262,Tryz.ntmps262;go_upto_region 1 with fail;rw[<- sB.o];go_upto_region 7 with(first
      | (go_at_call 271;rw[<- HWB.o];refine xu.o.mono ?_;rintro e w1 ⟨mb,S1,hs1,rfl,hs2,hk1,hb1⟩;have gK:=ai (cH.o.trans (hb1.mono cH.o.size));have R1:=ai (RB.o _ hb1);have F1:=ai (FB.o _ hb1);have vI:=ai hk1;have yM:=ai hs2;clear hb1 hk1 hs2)
      | (go_at_call 272;refine(Dl.o _ _ _ _ yM.o vI.o gK.o R1.o F1.o).mono ?_;rintro e w2 ⟨av,nv,cv,aS,nS,cS,aF,nF,cF,aL,nL,cL,aP,nP,cP,hd,rfl,m0,m1,m2,m3,m4,Ji,hjo,hr2,hf2,hb2,hfin⟩;have HJO:=ai hjo;clear hjo;have R2:=ai hr2;have F2:=ai hf2;have yg:=ai hfin;have X2:=ai (bB w2 #[I 0,I 0] 75);obtain⟨x0,x1⟩:=rE X2.o;clear hr2 hf2 hb2 hfin))
     have R3:=ai (bk R2.o (.cells #[I 0,I 0] 75));have F3:=ai (bk F2.o (.cells #[I 0,I 0] 75));have HA:=ai ((aK w2.heap.size w2).alloc (aD _) (.cells #[I 0,I 0] 75));have p0:=(HA.o.cell (p:=(Ad mb 0)) Ji).trans m0;have p1:=(HA.o.cell (p:=(Ad mb 1)) Ji).trans m1;have p2:=(HA.o.cell (p:=(Ad mb 2)) Ji).trans m2;have p3:=(HA.o.cell (p:=(Ad mb 3)) Ji).trans m3;have p4:=(HA.o.cell (p:=(Ad mb 4)) Ji).trans m4;obtain⟨W3,hW3⟩:=ex (w2.alloc (.cells #[I 0,I 0] 75));rw[<- hW3] at R3 F3 HA p0 p1 p2 p3 p4 ⊢;clear hW3 m0 m1 m2 m3 m4 x0 x1;obtain⟨y0,y1,y2,y3,y4⟩:=iT R3.o;obtain⟨z0,z1⟩:=rE F3.o;have f0:=aO R3.o 0;have f1:=aO R3.o 1;have f2:=aO R3.o 2;have f3:=aO R3.o 3;have f4:=aO R3.o 4;have g0:=aO F3.o 0;have g1:=aO F3.o 1;have h7:=ai (fun V=>DR R3.o F3.o Uq (.slice aS nS cS) (.slice aF nF cF) (.slice aL nL cL) (.slice aP nP cP) (I hd) (I 0) (I 0) (V:=V));go_wp2_with (first
      | (go_at_call 273;refine(HJO.o _ HA.o).mono ?_;rintro e w4 ⟨rfl,rfl⟩)
      | (go_at_call 171;refine(HPT.o _).mono ?_;rintro e w5 ⟨rfl,Fm⟩;have PW:=ai Fm;have R5:=ai (aN R3.o Fm (aJ R3.o));have F5:=ai (aN F3.o Fm (aJ F3.o));have HML:mb<w4.heap.size:=fD Ji HA.o.size;have p0:=(Fm.cell (p:=(Ad mb 0)) HML).trans p0;have p1:=(Fm.cell (p:=(Ad mb 1)) HML).trans p1;have p2:=(Fm.cell (p:=(Ad mb 2)) HML).trans p2;have p3:=(Fm.cell (p:=(Ad mb 3)) HML).trans p3;have p4:=(Fm.cell (p:=(Ad mb 4)) HML).trans p4;obtain⟨y0,y1,y2,y3,y4⟩:=iT R5.o;obtain⟨z0,z1⟩:=rE F5.o;have f0:=aO R5.o 0;have f1:=aO R5.o 1;have f2:=aO R5.o 2;have f3:=aO R5.o 3;have f4:=aO R5.o 4;have g0:=aO F5.o 0;have g1:=aO F5.o 1;clear Fm))
     have h7:=ai (fun V=>DR R5.o F5.o Uq (.slice aS nS cS) (.slice aF nF cF) (.slice aL nL cL) (.slice aP nP cP) (I hd) (I 0) (I 0) (V:=V));obtain⟨q1,q2,q3⟩:=h7.out _ rfl;obtain⟨y0,y1,y2,y3,y4⟩:=iT q1;obtain⟨z0,z1⟩:=rE q2;refine bI (v:=.tuple #[.agg #[.slice aS nS cS,.slice aF nF cF,.slice aL nL cL,.slice aP nP cP,I hd],.string LD,.agg #[I 0,I 0],I 0]) (by simp[results,Tryz.results262,go_sem,y0,y1,y2,y3,y4,z0,z1]) rfl ?_;exact yg.o _ (((aC.bZ HA.o).trans (aC.bZ PW.o) (fun _ _ g=>g)).trans q3 (fun _ _ g=>g))
   · have hA:qz k (j:Int) ad n way=(dX,⟨#[]⟩,bR (ak k.aj j).aT ad n way,0):=by
      unfold qz
      grind
     rw[hA];obtain⟨FA,hFA⟩:=ex (bR (ak k.aj j).aT ad n way);have Dl:Hid (∀V S mb hs,cA k.aM hs->bJ WB.heap.size mb 158 (iq k) V S (aU k hs)->Calls Tryz.prog 272 #[.pointer (some (Ad mb 0)),I (j:Int),I ad,I n,I way] V fun e w'=>e=.returned (.tuple #[Nl,.agg #[I FA.1,I FA.2]])/\Below V.heap.size V w'):=fun V S mb hs hsame hV=>by
      rw[hFA];exact FJ (aU k hs) S V j ad n way hV (hR.vJ hsame) hj had hn hf
     rw[<- hFA] at hf ⊢;have Mo:(FA.1 != 0)=true:=by grind
     have xu:Hid (Calls Tryz.prog 271 #[.agg (bc a k),I (j:Int),I n,I way,.slice (some (Ad WA.heap.size 0)) 2 2] WB fun e w'=>∃mb S hs,e=.returned (.tuple #[.pointer (some (Ad mb 0)),I 0])/\cA k.aM hs/\bJ WB.heap.size mb 158 (iq k) w' S (aU k hs)/\Below WB.heap.size WB w'):=AG.o;obtain⟨f0,f1⟩:=FA;simp only at Dl Mo ⊢;have dB:Hid (∀V,Below w.heap.size w V->cu w dX [.string ⟨#[]⟩,.agg #[I f0,I f1],I 0] (.returned (.tuple #[.agg #[Nl,Nl,Nl,Nl,I 0],.string ⟨#[]⟩,.agg #[I f0,I f1],I 0])) V):=fun V hV=>qN _ hV
     obtain⟨P,hP⟩:=ex (cu w dX [.string ⟨#[]⟩,.agg #[I f0,I f1],I 0]);rw[<- hP] at dB ⊢;unfold bc at xu sB ⊢;clear hK hF hsp had hA c hP lu hWB hb0 hb1 kb rb fb hrow hsz aaV AG hf hR hlv hn hwy hj uu Jg hFA;go_enter Tryz.func262,Tryz.ntmps262;go_upto_region 1 with fail;rw[<- sB.o];go_upto_region 6 with(first
      | (go_at_call 271;rw[<- HWB.o];refine xu.o.mono ?_;rintro e w1 ⟨mb,S1,hs1,rfl,hs2,hk1,hb1⟩;have gK:=ai (cH.o.trans (hb1.mono cH.o.size));have R1:=ai (RB.o _ hb1);have F1:=ai (FB.o _ hb1);have vI:=ai hk1;have yM:=ai hs2;clear hb1 hk1 hs2)
      | (go_at_call 272;refine(Dl.o _ _ _ _ yM.o vI.o).mono ?_;rintro e w2 ⟨rfl,hb2⟩;have R2:=ai (aN R1.o hb2 (aJ R1.o));have F2:=ai (aN F1.o hb2 (aJ F1.o));have mQ:=ai (gK.o.trans (hb2.mono gK.o.size));have X2:=ai (bB w2 #[I f0,I f1] 75);obtain⟨x0,x1⟩:=rE X2.o;clear hb2))
     have R3:=ai (bk R2.o (.cells #[I f0,I f1] 75));have F3:=ai (bk F2.o (.cells #[I f0,I f1] 75));have sQ:=ai (mQ.o.alloc mQ.o.size (.cells #[I f0,I f1] 75));have hl3:=aJ F2.o;obtain⟨W3,hW3⟩:=ex (w2.alloc (.cells #[I f0,I f1] 75));rw[<- hW3] at R3 F3 sQ x0 x1 ⊢;clear hW3;obtain⟨y0,y1,y2,y3,y4⟩:=iT R3.o;obtain⟨z0,z1⟩:=rE F3.o;have e0:=aO R3.o 0;have e1:=aO R3.o 1;have e2:=aO R3.o 2;have e3:=aO R3.o 3;have e4:=aO R3.o 4;have g0:=aO F3.o 0;have g1:=aO F3.o 1;have h7:=ai (fun V=>DR R3.o F3.o Uq Nl Nl Nl Nl (I 0) (I f0) (I f1) (V:=V));go_region;go_wp2;obtain⟨q1,q2,q3⟩:=h7.out _ rfl;obtain⟨y0,y1,y2,y3,y4⟩:=iT q1;obtain⟨z0,z1⟩:=rE q2;refine bI (v:=.tuple #[.agg #[Nl,Nl,Nl,Nl,I 0],.string ⟨#[]⟩,.agg #[I f0,I f1],I 0]) (by simp[results,Tryz.results262,go_sem,y0,y1,y2,y3,y4,z0,z1]) rfl ?_;exact dB.o _ (aC.below sQ.o (q3.trans (aC.drew _ _) (fun _ _ g=>g)) sQ.o.size (fun b e=>by omega))
 · have hA:qz k sp ad n way=(dX,⟨#[]⟩,(0,0),ja k sp n way [0,2]):=by unfold qz;grind
   rw[hA];have AG:=ai (FH k a sp n way [0,2] (some (Ad WA.heap.size 0)) 2 WB (hK.below hb1) hF hsp hrow (by simp) c);rw[show([0,2]:List Int).length=2 from rfl] at AG;obtain⟨C,hC⟩:=ex (ja k sp n way [0,2]);rw[<- hC] at AG c ⊢;have cb:(C != 0)=true:=by grind
   have dB:Hid (∀V,Below w.heap.size w V->cu w dX [.string ⟨#[]⟩,.agg #[I 0,I 0],I C] (.returned (.tuple #[.agg #[Nl,Nl,Nl,Nl,I 0],.string ⟨#[]⟩,.agg #[I 0,I 0],I C])) V):=fun V hV=>qN _ hV
   obtain⟨P,hP⟩:=ex (cu w dX [.string ⟨#[]⟩,.agg #[I 0,I 0],I C]);rw[<- hP] at dB ⊢;unfold bc at AG sB ⊢;clear hK hF hsp had hA hC c hP lu hWB hb0 hb1 kb rb fb hrow hsz aaV;go_enter Tryz.func262,Tryz.ntmps262;go_upto_region 1 with fail;rw[<- sB.o];go_upto_region 3 with(go_at_call 271;rw[<- HWB.o];refine AG.o.mono ?_;rintro e w1 ⟨rfl,hb1⟩;have gK:=ai (cH.o.trans (hb1.mono cH.o.size));have R1:=ai (RB.o _ hb1);have F1:=ai (FB.o _ hb1);clear hb1)
   obtain⟨y0,y1,y2,y3,y4⟩:=iT R1.o;obtain⟨z0,z1⟩:=rE F1.o;have f0:=aO R1.o 0;have f1:=aO R1.o 1;have f2:=aO R1.o 2;have f3:=aO R1.o 3;have f4:=aO R1.o 4;have g0:=aO F1.o 0;have g1:=aO F1.o 1;have h7:=ai (fun V=>DR R1.o F1.o (by omega) Nl Nl Nl Nl (I 0) (I 0) (I 0) (V:=V));go_wp2;obtain⟨q1,q2,q3⟩:=h7.out _ rfl;obtain⟨y0,y1,y2,y3,y4⟩:=iT q1;obtain⟨z0,z1⟩:=rE q2;refine bI (v:=.tuple #[.agg #[Nl,Nl,Nl,Nl,I 0],.string ⟨#[]⟩,.agg #[I 0,I 0],I C]) (by simp[results,Tryz.results262,go_sem,y0,y1,y2,y3,y4,z0,z1]) rfl ?_;exact dB.o _ (aC.below gK.o q3 gK.o.size (fun b e=>by omega))
end Go.Proofs.YtlgoihmkgaaemaaGreat
