import Derived.Test.YtlgoihmkgaaemaaGreatGQ25
set_option maxHeartbeats 20000000
set_option linter.unusedVariables false
set_option maxRecDepth 100000
set_option linter.unusedSimpArgs false
namespace Go.Proofs.YtlgoihmkgaaemaaGreat
open Go.RowKit Tryz
structure Jd (k:aT):Prop where
 aR:k.aR.length<=1000000
 dR:∀i,i<k.aR.length->(bk k.aR i).dR.length<=1000000
 frames:k.frames.length<=1000000
 slots:k.slots.length<=1000000
 aj:k.aj.length<=1000000
 aJ:∀i,i<k.aj.length->(ak k.aj i).aJ.length<=1000000
 bh:∀i,i<k.aj.length->(ak k.aj i).bh.length<=1000000
def abJ (w:World) (k:aT) (e:Ending) (w':World):Prop:=∃S hs,cZ k.aR hs/\e=.returned (.agg #[S.vS,S.vF,S.vL,S.vP,I k.hand])/\Kr w.heap.size w' S (aY k hs)/\Below w.heap.size w w'
open Go.RowKit
def uj:Prop:=∀(k:aT) (a:jC) (w:World),ju w a k->Jd k->Calls prog 79 #[.agg (br a k)] w (abJ w k)
def mC (k:aT):List Value:=tQ (nI k.aR k.aR.length) 256
variable {k:aT} {hs:List bC} {lo mb:Nat} {w' V:World} {S:gJ} {a:jC} {w:World} {sp:Int} {W:World} {rb:Nat} {X:List Value} {fn:Func}
theorem RT (hr:iG k.aR=true) (h:cZ k.aR hs):KU (mC k) hs:=λn hn=>by
 grind [mC,Jh,Jj,Jr]
theorem LO (h:iG hs=true) (i:Nat) (hi:i<hs.length):(bk hs i).dR.length<=16:=by
 have all:∀n,lC hs n=true->∀i,i<n->cY (bk hs i)=true:=λn=>by
  induction n with
  | zero=>omega
  | succ n ih =>
   grind [lC]
 have hb:=all hs.length h i hi;unfold cY at hb;rw[cK] at hb;have:=uY _ _ hb.2;omega
theorem Di (hR:aW k) (hF:pY k):Jd k:=by
 have hc:=hR.c;refine⟨ω,λi hi=>?_,ω,ω,ω,λi hi=>?_,λi hi=>by grind [qg]⟩
 . grind [LO,aW.lq]
 have:=jF _ (hR.sp hi).aJ;omega
theorem amB {k0:aT} (hr:Kr lo w' S (aY k hs)) (hm:w'.heap[mb]?=some (.cells (rB a k0) 158 (0,0))) (hlb:lo<=mb) (hno:S.lab mb=.no) (ht:mC k0=mC k)
  (hV:V=((((w'.setCell (Ad mb 0) S.vS).setCell (Ad mb 1) S.vF).setCell (Ad mb 2) S.vL).setCell (Ad mb 3) S.vP).setCell (Ad mb 4) (I k.hand)) :
  bR lo mb 158 (mC k) V ⟨λb=>if b=mb then .head else S.lab b,S.vS,S.vF,S.vL,S.vP,S.L⟩ (aY k hs):=by
 have kp:aH (λb=>b=mb) w' V:=by
  rw[hV];exact((((aH.set (λb=>b=mb) w' (Ad mb 0) _ rfl).trans (aH.set (λb=>b=mb) _ (Ad mb 1) _ rfl) (λ_ _ g=>g)).trans (aH.set (λb=>b=mb) _ (Ad mb 2) _ rfl) (λ_ _ g=>g)).trans (aH.set (λb=>b=mb) _ (Ad mb 3) _ rfl) (λ_ _ g=>g)).trans (aH.set (λb=>b=mb) _ (Ad mb 4) _ rfl) (λ_ _ g=>g)
 have r1:=hr.kp kp (λb hb e=>hb Γ);have lb:∀b c,S.lab b=c->c≠.no->(if b=mb then qP.head else S.lab b)=c:=λb c e hc=>by
  grind
 refine⟨⟨λb hb=>?_,r1.aR,r1.dR,r1.frames,r1.slots,r1.aj,r1.len,r1.each,λb hb=>lb b _ (r1.lS b hb) ξ,λi hi b hb=>lb b _ (r1.lX i hi b hb) ξ,λb hb=>lb b _ (r1.lF b hb) ξ,λb hb=>lb b _ (r1.lL b hb) ξ,λb hb=>lb b _ (r1.lP b hb) ξ,λi hi b hb=>lb b _ (r1.lA i hi b hb) ξ,λi hi b hb=>lb b _ (r1.lE i hi b hb) ξ⟩,?_,aC rfl⟩
 . by_cases c:b=mb
   . simp_all [aQ]
   have hb:(if b=mb then qP.head else S.lab b)≠.no:=hb;rw[aB c] at hb;exact r1.CT b hb
 rw[hV,gH (gH (gH (gH (gH hm 0 S.vS) 1 S.vF) 2 S.vL) 3 S.vP) 4 (I k.hand)];unfold rB oo;rw[<- ht];congr 2
theorem VL (C4:uj) (k:aT) (a:jC) (mb:Nat) (w:World) (hK:ju w a k) (hsm:Jd k) (hm:w.heap[mb]?=some (.cells (rB a k) 158 (0,0))) (lo:Nat) (hlo:lo<=mb) :
  Calls prog 267 #[.pointer (some (Ad mb 0))] w λe w'=>e=.returned (.tuple #[])/\∃S hs,cZ k.aR hs/\bR lo mb 158 (mC k) w' S (aY k hs)/\(∀b,S.lab b≠.no->b=mb\/w.heap.size<=b)/\aH (λb=>b=mb) w w':=by
 have A:=ai (C4 k a w hK hsm);have Uk:=aQ hm;have HM:=ai hm;have fV:Hid (∀w1 S hs V,cZ k.aR hs->Kr w.heap.size w1 S (aY k hs)->Below w.heap.size w w1->V=((((w1.setCell (Ad mb 0) S.vS).setCell (Ad mb 1) S.vF).setCell (Ad mb 2) S.vL).setCell (Ad mb 3) S.vP).setCell (Ad mb 4) (I k.hand)->∃S hs,cZ k.aR hs/\bR lo mb 158 (mC k) V S (aY k hs)/\(∀b,S.lab b≠.no->b=mb\/w.heap.size<=b)/\aH (λb=>b=mb) w V):=λw1 S hs V h1 h2 h3 h4=>by
  have yr:=aU HM.o h3 Uk;have J:S.lab mb=.no:=D7.1 λx=>by grind [Kr.CT]
  have r1:Kr lo w1 S (aY k hs):=h2.mono ω;have m:=amB r1 yr hlo J rfl h4;refine⟨_,hs,h1,m,λb hb=>?_,?_⟩
  . by_cases c:b=mb
    . omega
    have hb:(if b=mb then qP.head else S.lab b)≠.no:=hb;rw[aB c] at hb;exact .inr (h2.CT b hb).1
  have kp:aH (λb=>b=mb) w1 V:=by
   rw[h4];exact((((aH.set (λb=>b=mb) w1 (Ad mb 0) _ rfl).trans (aH.set (λb=>b=mb) _ (Ad mb 1) _ rfl) (λ_ _ g=>g)).trans (aH.set (λb=>b=mb) _ (Ad mb 2) _ rfl) (λ_ _ g=>g)).trans (aH.set (λb=>b=mb) _ (Ad mb 3) _ rfl) (λ_ _ g=>g)).trans (aH.set (λb=>b=mb) _ (Ad mb 4) _ rfl) (λ_ _ g=>g)
  exact(aH.bQ h3).trans kp (λ_ _ g=>g)
 have B:Hid (Calls prog 79 #[.agg (br a k)] w λe w'=>∃S hs aS nS cS aF nF cF aL nL cL aP nP cP,S.vS=.slice aS nS cS/\S.vF=.slice aF nF cF/\S.vL=.slice aL nL cL/\S.vP=.slice aP nP cP/\cZ k.aR hs/\e=.returned (.agg #[.slice aS nS cS,.slice aF nF cF,.slice aL nL cL,.slice aP nP cP,I k.hand])/\Kr w.heap.size w' S (aY k hs)/\Below w.heap.size w w'):=A.o.mono λe w' ⟨S,hs,h1,h2,h3,h4⟩=>by
  obtain⟨aS,cS,eS,_⟩:=aZ h3.aR;obtain⟨aF,cF,eF,_⟩:=aZ h3.frames;obtain⟨aL,cL,eL,_⟩:=aZ h3.slots;obtain⟨aP,cP,eP,_⟩:=aZ h3.aj
  grind
 have c0:w.cell? (Ad mb 0)=some (.slice a.aS k.aR.length a.cS):=aA hm 0 rfl;have c1:w.cell? (Ad mb 1)=some (.slice a.aF k.frames.length a.cF):=aA hm 1 rfl;have c2:w.cell? (Ad mb 2)=some (.slice a.aL k.slots.length a.cL):=aA hm 2 rfl;have c3:w.cell? (Ad mb 3)=some (.slice a.aP k.aj.length a.cP):=aA hm 3 rfl;have c4:w.cell? (Ad mb 4)=some (I k.hand):=aA hm 4 rfl;have K:Hid (∀V,Below w.heap.size w V->(V.cell? (Ad mb 0)=some (.slice a.aS k.aR.length a.cS)/\V.cell? (Ad mb 1)=some (.slice a.aF k.frames.length a.cF)/\V.cell? (Ad mb 2)=some (.slice a.aL k.slots.length a.cL)/\V.cell? (Ad mb 3)=some (.slice a.aP k.aj.length a.cP)/\V.cell? (Ad mb 4)=some (I k.hand))/\V.frozen? (Ad mb 0)=false/\V.frozen? (Ad mb 1)=false/\V.frozen? (Ad mb 2)=false/\V.frozen? (Ad mb 3)=false/\V.frozen? (Ad mb 4)=false):=λV hb=>by
  have h1:=aU HM.o hb Uk;exact⟨⟨aA h1 0 rfl,aA h1 1 rfl,aA h1 2 rfl,aA h1 3 rfl,aA h1 4 rfl⟩,bG h1 0,bG h1 1,bG h1 2,bG h1 3,bG h1 4⟩
 unfold br at B;clear hm hK hsm A;go_enter func267,ntmps267;go_wp2_with (go_at_call 79;refine B.o.mono ?_;rintro e w1 ⟨S,hs,aS,nS,cS,aF,nF,cF,aL,nL,cL,aP,nP,cP,eS,eF,eL,eP,q,rfl,G,y⟩;have F:=ai (λV=>fV.o w1 S hs V q G y);rw[eS,eF,eL,eP] at F;obtain⟨⟨y0,y1,y2,y3,y4⟩,f0,f1,f2,f3,f4⟩:=K.o w1 y;clear q G y eS eF eL eP);refine yu (v:=.tuple #[]) (by simp[results,results267,go_sem]) rfl ?_;exact⟨rfl,F.o _ rfl⟩
def jl (k:aT) (sp size way:Int) (ways:List Int):Int:=if dw k sp≠0 then dw k sp else if ¬(1<=size/\size<=8) then 3 else if way∈ways then 0 else 10
def QE (w:World) (k:aT) (e:Ending) (w':World):Prop:=∃mb S hs,e=.returned (.tuple #[.pointer (some (Ad mb 0)),I 0])/\cZ k.aR hs/\bR w.heap.size mb 158 (mC k) w' S (aY k hs)/\Below w.heap.size w w'
theorem Ek (h:Calls prog 76 #[.agg (br a k),I sp] w (zN w a k (dw k sp))) (hc:dw k sp≠0):Calls prog 76 #[.agg (br a k),I sp] w λe w'=>e=.returned (.tuple #[.pointer none,I (dw k sp)])/\Below w.heap.size w w':=h.mono λe w' ⟨hb,hh⟩=>by
 grind
theorem Dj (h:Calls prog 76 #[.agg (br a k),I sp] w (zN w a k (dw k sp))) (hc:dw k sp=0):Calls prog 76 #[.agg (br a k),I sp] w λe w'=>∃mb,e=.returned (.tuple #[.pointer (some (Ad mb 0)),I 0])/\w.heap.size<=mb/\w'.heap[mb]?=some (.cells (rB a k) 158 (0,0))/\Below w.heap.size w w':=h.mono λe w' ⟨hb,hh⟩=>by
 grind
theorem uy (h:dw k sp=0):aW k/\0<=sp/\sp.toNat<k.aj.length/\(ak k.aj sp.toNat).live=true:=by
 grind [dw,qa]
theorem Jc (k:aT) (a:jC) (sp size way:Int) (ways:List Int) (aw:Option Addr) (cw:Nat) (w:World) (hK:ju w a k) (hF:pY k) (hsp:cH sp) (hw:eX jb 1 0 w aw ways) (hwl:ways.length<=1000000) (hc:jl k sp size way ways≠0) :
  Calls prog 271 #[.agg (br a k),I sp,I size,I way,.slice aw ways.length cw] w λe w'=>e=.returned (.tuple #[.pointer none,I (jl k sp size way ways)])/\Below w.heap.size w w':=by
 have Ex:=ai (λV (hV:Below w.heap.size w V)=>yh k a sp V (hK.below hV) hF hsp);have XH:=ai (λV (hV:Below w.heap.size w V)=>zM ways way aw cw V (hw.below hV) hwl);have fU:=ai ((aN w.heap.size w).alloc (aK _) (.cells (br a k) 30));have KB:=ai (bH w (br a k) 30);obtain⟨C,hC⟩:=ex (jl k sp size way ways);rw[<- hC] at hc ⊢;obtain⟨P,hP⟩:∃P:Ending->World->Prop,P=λe w'=>e=.returned (.tuple #[.pointer none,I C])/\Below w.heap.size w w':=⟨_,rfl⟩
 have HE:Hid (∀V,Below w.heap.size w V->P (.returned (.tuple #[.pointer none,I C])) V):=λV hV=>by grind
 rw[<- hP];clear hP;unfold jl at hC;by_cases c1:dw k sp=0
 . rw[aB (λx=>x c1)] at hC;have K6:=ai (λV hV=>Dj (Ex.o V hV) c1);by_cases c2:1<=size/\size<=8
   . rw[aB (λx=>x c2)] at hC;have c3:way∉ways:=λx=>by grind
     rw[aB c3] at hC;subst hC;rw[fE c3] at XH;obtain⟨g1,g2⟩:=c2;clear Ex c1 c3 hK hF hsp hw hc;unfold br at K6 fU KB ⊢;go_enter func271,ntmps271;go_wp2_with (first
      | (go_at_call 76;refine(K6.o _ fU.o).mono ?_;rintro e w1 ⟨mb,rfl,yr,q,b⟩;have cD:=ai (bq fU.o b);clear b q)
      | (go_at_call 282;refine(XH.o _ cD.o).mono ?_;rintro e w2 ⟨rfl,rfl⟩))
     exact HE.o _ cD.o
   rw[aC c2] at hC;subst hC;clear Ex XH c1 hK hF hsp hw hc;unfold br at K6 fU KB ⊢;rcases(ω:size<1\/(1<=size/\8<size)) with g | ⟨g1,g2⟩
   . go_enter func271,ntmps271;go_wp2_with (go_at_call 76;refine(K6.o _ fU.o).mono ?_;rintro e w1 ⟨mb,rfl,yr,q,b⟩;have cD:=ai (bq fU.o b);clear b q);exact HE.o _ cD.o
   have g3:¬size<1:=by omega
   go_enter func271,ntmps271;go_wp2_with (go_at_call 76;refine(K6.o _ fU.o).mono ?_;rintro e w1 ⟨mb,rfl,yr,q,b⟩;have cD:=ai (bq fU.o b);clear b q);exact HE.o _ cD.o
 rw[aC c1] at hC;have K6:=ai (λV hV=>Ek (Ex.o V hV) c1);rw[<- hC] at K6;have cb:(C != 0)=true:=by grind
 clear Ex XH c1 hK hF hsp hw hc hC;unfold br at K6 fU KB ⊢;go_enter func271,ntmps271;go_wp2_with (go_at_call 76;refine(K6.o _ fU.o).mono ?_;rintro e w1 ⟨rfl,b⟩;have cD:=ai (bq fU.o b);clear b);exact HE.o _ cD.o
theorem LP (C4:uj) (k:aT) (a:jC) (sp size way:Int) (ways:List Int) (aw:Option Addr) (cw:Nat) (w:World) (hK:ju w a k) (hF:pY k) (hsp:cH sp) (hw:eX jb 1 0 w aw ways) (hwl:ways.length<=1000000) (hc:jl k sp size way ways=0) :
  Calls prog 271 #[.agg (br a k),I sp,I size,I way,.slice aw ways.length cw] w (QE w k):=by
 have c1:dw k sp=0:=by
  grind [jl]
 have c2:1<=size/\size<=8:=by
  grind [jl]
 have c3:way∈ways:=by
  grind [jl]
 have hR:=(uy c1).1;have y:=Di hR hF;have K6:=ai (λV (hV:Below w.heap.size w V)=>Dj (yh k a sp V (hK.below hV) hF hsp) c1);have XH:=ai (λV (hV:Below w.heap.size w V)=>zM ways way aw cw V (hw.below hV) hwl);rw[fD c3] at XH;have fU:=ai ((aN w.heap.size w).alloc (aK _) (.cells (br a k) 30));have A:Hid (∀V mb,Below w.heap.size w V->w.heap.size<=mb->V.heap[mb]?=some (.cells (rB a k) 158 (0,0))->Calls prog 267 #[.pointer (some (Ad mb 0))] V λe w'=>e=.returned (.tuple #[])/\QE w k (.returned (.tuple #[.pointer (some (Ad mb 0)),I 0])) w'):=λV mb hV yr q=>(VL C4 k a mb V (hK.below hV) y q w.heap.size yr).mono λe w' ⟨h1,S,hs,h2,h3,h4,h5⟩=>⟨h1,mb,S,hs,rfl,h2,h3,aH.below hV h5 hV.size (λb e=>ω)⟩
 generalize QE w k=P at A ⊢;obtain⟨g1,g2⟩:=c2;clear c1 c3 hK hF hsp hw hc hR y;unfold br at K6 fU ⊢;go_enter func271,ntmps271;go_wp2_with (first
  | (go_at_call 76;refine(K6.o _ fU.o).mono ?_;rintro e w1 ⟨mb,rfl,yr,q,B⟩;have cD:=ai (bq fU.o B);have XE:=ai q;have F:Hid (w.heap.size<=mb):=(by simp at yr;grind);clear B q yr)
  | (go_at_call 282;refine(XH.o _ cD.o).mono ?_;rintro e w2 ⟨rfl,rfl⟩)
  | (go_at_call 267;refine(A.o _ _ cD.o F.o XE.o).mono ?_;rintro e w3 ⟨rfl,hq⟩;have HQ:=ai hq;clear hq))
 exact HQ.o
def kg:aT:=⟨[],[],[],[],0⟩
def amy:gJ:=⟨λ_=>.no,Nl,Nl,Nl,Nl,[]⟩
def fL (w:World) (k:aT) (vs:List Value) (e:Ending) (w':World):Prop:=∃S hs,cZ k.aR hs/\e=.returned (.tuple (Value.agg #[S.vS,S.vF,S.vL,S.vP,I k.hand]::vs).toArray)/\Kr w.heap.size w' S (aY k hs)/\Below w.heap.size w w'
theorem ahz (lo:Nat) (w:World):Kr lo w amy kg:=by
 refine⟨λb hb=>absurd rfl hb,pT _ _ _ _,λi hi=>?_,pT _ _ _ _,pT _ _ _ _,pT _ _ _ _,rfl,λi hi=>?_,λb hb=>?_,λi hi=>?_,λb hb=>?_,λb hb=>?_,λb hb=>?_,λi hi=>?_,λi hi=>?_⟩
 all_goals first | cases hb | cases hi
theorem yg (vs:List Value) (hb:Below w.heap.size w w'):fL w kg vs (.returned (.tuple (Value.agg #[Nl,Nl,Nl,Nl,I 0]::vs).toArray)) w':=⟨amy,[],rfl,rfl,ahz _ _,hb⟩
theorem abH {size way:Int} {ways:List Int} (h:jl k sp size way ways=0):dw k sp=0/\(1<=size/\size<=8)/\way∈ways:=by
 grind [jl]
theorem aoI {fb:Nat} (hr:W.heap[rb]?=some (.cells #[Nl,Nl,Nl,Nl,I 0] 30 (0,0))) (hf:W.heap[fb]?=some (.cells #[I 0,I 0] 75 (0,0))) (hne:rb≠fb) (s f l p h x y:Value) (hV:V=((((((W.setCell (Ad rb 0) s).setCell (Ad rb 1) f).setCell (Ad rb 2) l).setCell (Ad rb 3) p).setCell (Ad rb 4) h).setCell (Ad fb 0) x).setCell (Ad fb 1) y) :
  V.heap[rb]?=some (.cells #[s,f,l,p,h] 30 (0,0))/\V.heap[fb]?=some (.cells #[x,y] 75 (0,0))/\aH (λb=>b=rb\/b=fb) W V:=by
 have h1:(((((W.setCell (Ad rb 0) s).setCell (Ad rb 1) f).setCell (Ad rb 2) l).setCell (Ad rb 3) p).setCell (Ad rb 4) h).heap[rb]?=some (.cells #[s,f,l,p,h] 30 (0,0)):=gH (gH (gH (gH (gH hr 0 s) 1 f) 2 l) 3 p) 4 h;have q:fb≠rb:=λe=>hne e.symm
 have h2:=nt (nt (nt (nt (nt hf rb 0 s q) rb 1 f q) rb 2 l q) rb 3 p q) rb 4 h q;subst hV;refine⟨nt (nt h1 fb 0 x hne) fb 1 y hne,gH (gH h2 0 x) 1 y,?_⟩;have k:∀(A:World) (g j:Nat) (v:Value),g=rb\/g=fb->aH (λb=>b=rb\/b=fb) A (A.setCell (Ad g j) v):=λA g j v hg=>aH.set _ A (Ad g j) v hg
 exact((((((k _ _ _ _ (.inl rfl)).trans (k _ _ _ _ (.inl rfl)) (λ_ _ g=>g)).trans (k _ _ _ _ (.inl rfl)) (λ_ _ g=>g)).trans (k _ _ _ _ (.inl rfl)) (λ_ _ g=>g)).trans (k _ _ _ _ (.inl rfl)) (λ_ _ g=>g)).trans (k _ _ _ _ (.inr rfl)) (λ_ _ g=>g)).trans (k _ _ _ _ (.inr rfl)) (λ_ _ g=>g)
theorem ach {s:bC} (h:cY s=true):KR s:=by
 unfold cY pM at h;rw[cK,fX] at h;obtain⟨⟨h1,h2,h3⟩,hf⟩:=h;have hl:=uY _ _ hf;refine⟨⟨ω,ω⟩,by unfold bD;omega,by unfold bD;omega,λk hk=>?_⟩;have all:∀n,eO s.dR n=true->∀i,i<n->eO s.dR i=true/\xB (lO s.dR i) (nD s.dR i)=true:=λn=>by
  induction n with
  | zero=>intro _ i hi;omega
  | succ n ih =>
   intro hn i hi;simp only[eO,cK] at hn;by_cases c:i=n
   . rw[c];exact hn
   exact ih hn.1 i ω
 obtain⟨g1,g2⟩:=all _ hf k hk;have g3:=uY _ _ g1;unfold xB at g2;rw[fX] at g2;exact⟨⟨ω,ω⟩,by unfold bD;omega⟩
theorem YO (h:iG hs=true) (hl:hs.length<=255):uh hs:=⟨by unfold bD;omega,λk hk=>ach (tN hs hs.length h k hk).1⟩
theorem tT (h:aW k):pY k:=by
 have hc:=h.c;obtain⟨r1,r2⟩:=AV h;have hh:=h.hand;refine⟨YO h.lq ω,by unfold bD;omega,λi hi=>⟨?_,?_⟩,by unfold bD;omega,λi hi=>⟨?_,?_⟩,by unfold bD;omega,λi hi=>⟨?_,?_,λn hn=>?_⟩,⟨ω,ω⟩⟩
 . have f:=h.EK i hi;unfold bD;by_cases c:bU k.aj 1 i=[]
   . rw[f.zero c];exact yt _
   rw[f.size c];decide
 . have:=r1 i hi;exact⟨ω,ω⟩
 . have f:=h.slt i hi;unfold bD;by_cases c:bU k.aj 2 i=[]
   . rw[f.zero c];exact yt _
   rw[f.size c];decide
 . have:=r2 i hi;exact⟨ω,ω⟩
 . exact gy _ (h.sp hi).aJ
 . have:=qg h hi;unfold bD;omega
 have s:=h.sp hi;have he:bc (ak k.aj i).bh n∈(ak k.aj i).bh:=kT hn;obtain⟨e1,e2⟩:=s.Qs _ he;have e3:=jB s.aJ e1;rcases e2 with⟨e4,e5,e6⟩ | ⟨e4,e5,e6⟩
 . exact⟨⟨ω,ω⟩,by rw[e4];exact⟨Δ,Δ⟩,⟨ω,ω⟩⟩
 exact⟨⟨ω,ω⟩,by rw[e4];exact⟨Δ,Δ⟩,⟨ω,ω⟩⟩
theorem Sp (h:Kr lo w S k):∃a,#[S.vS,S.vF,S.vL,S.vP,I k.hand]=br a k/\∀U,aH (λb=>b<lo) w U->ju U a k:=by
 obtain⟨a,p,_⟩:=h.has;refine⟨a,by unfold br;rw[p.eS,p.eF,p.eL,p.eP],λU hU=>?_⟩;obtain⟨a',p',ha⟩:=(h.kp hU (λb hb e=>by have:=(h.CT b hb).1;omega)).has;have e1:=p.eS.symm.trans p'.eS;have e2:=p.eF.symm.trans p'.eF;have e3:=p.eL.symm.trans p'.eL;have e4:=p.eP.symm.trans p'.eP;injection e1 with q1 _ q2;injection e2 with q3 _ q4;injection e3 with q5 _ q6;injection e4 with q7 _ q8;have:a'=a:=by
  cases a;cases a';simp only at q1 q2 q3 q4 q5 q6 q7 q8;subst q1 q2 q3 q4 q5 q6 q7 q8;rfl
 rw[<- this];exact ha
def aoL (w:World) (k:aT) (vs:List Value) (e:Ending) (w':World):Prop:=∃hs a,cZ k.aR hs/\e=.returned (.tuple (Value.agg (br a (aY k hs))::vs).toArray)/\(∀U,aH (λb=>b<w.heap.size) w' U->ju U a (aY k hs))/\Below w.heap.size w w'
theorem ae0 {vs:List Value} {e:Ending} (h:fL w k vs e w'):aoL w k vs e w':=by
 obtain⟨S,hs,h1,h2,h3,h4⟩:=h;obtain⟨a,e1,e2⟩:=Sp h3;exact⟨hs,a,h1,by rw[h2,<- e1];rfl,e2,h4⟩
theorem GR (l:List Nat):(Bt l).length=l.length:=by unfold Bt;rw[fI]
theorem Z4 (l:List Nat) (n:Nat) (hn:n<l.length):GZ (Bt l) n=((l.getD n 0:Nat):Int):=by
 unfold GZ Bt;rw[cB,vQ,cB,fF hn];rfl
theorem RY {tt:TypeId} (k:aT) (S:gJ) (w:World) (l:List Nat) (av:Option Addr) (cv:Nat) (h:bR lo mb tt X w S k) (hH:om w S av (Bt l)) (hl:∀n,n<l.length->l.getD n 0<k.frames.length) (hll:l.length<=2) (hsz:∀n,n<l.length->(aM k.frames (l.getD n 0)).data.size<=1000) (Qe:0<k.frames.length) :
  Calls prog 273 #[.pointer (some (Ad mb 0)),.slice av l.length cv] w λe w'=>e=.returned (.string (jo k.frames l l.length))/\w'=w:=by
 obtain⟨fb,cF,A⟩:=h.toKr.fr Qe;have c1:=h.c1;rw[A.v] at c1;have HX:=ai A.x0;have HH:=ai hH.has;have HL:=ai hl;have F:=ai hsz;have y:Hid (∀n,n<=l.length->(jo k.frames l n).size<=n*1000):=λn=>by
  induction n with
  | zero=>intro _;exact yt _
  | succ n ih =>
   intro hn;unfold jo;rw[Uc];have:=ih ω;have:=hsz n ω;omega
 generalize k.frames.length=nf at c1 HX HL;clear h hH A hl hsz Qe;go_enter func273,ntmps273;go_wp2;go_loopw [5,10] (λdv iv wr=>∃n:Nat,n<=l.length/\iv=I (n:Int)/\dv=.string (jo k.frames l n)/\wr=w) (λ_ iv _=>l.length-(intOf iv).toNat)
 case atStart=>exact⟨0,ω,rfl,rfl,rfl⟩
 case round =>
  obtain⟨n,hn,rfl,rfl,rfl⟩:=hrel;by_cases hlt:n<l.length
  . have J:(n:Int)<(l.length:Int):=by omega
    have G:=y.o n hn;have b:=F.o n hlt;obtain⟨eb,eo,B,K,di⟩:=HH.o (by rw[GR];omega);subst B;have y0:=di n (by rw[GR];exact hlt) 0 ω;rw[lB,TM] at y0;have e0:=Z4 l n hlt;have x0:wr.cell? (Ad eb (eo+n))=some (I ((l.getD n 0:Nat):Int)):=by
     rw[<- e0];exact y0
    have hq:=HL.o n hlt;have xF:=HX.o (l.getD n 0) hq;have zB:Hid (jo k.frames l (n+1)=jo k.frames l n++(aM k.frames (l.getD n 0)).data):=rfl;generalize l.getD n 0=q at x0 xF zB hq b;generalize (aM k.frames q).data=FD at xF zB b;generalize jo k.frames l n=JD at zB G ⊢;have L:(q:Int)<(nf:Int):=by omega
    clear di y0 e0;go_wp2;go_roundw
    case rel=>exact⟨n+1,ω,by go_num,by rw[zB.o],trivial⟩
    case measure=>simp[intOf];omega
  obtain rfl:n=l.length:=by omega
  go_wp2;go_ret;exact⟨rfl,rfl⟩
theorem Dk (k:aT) (l:List Nat) (s:ByteArray):∀n,(mY k l s n).frames.length=k.frames.length
 | 0=>rfl
 | n+1=>by
  unfold mY yV;show(List.set _ _ _).length=_;rw[dE,Dk k l s n]
theorem aeB {tt:TypeId} (k:aT) (S:gJ) (w:World) (l:List Nat) (s:ByteArray) (av:Option Addr) (cv:Nat) (h:bR lo mb tt X w S k) (hH:om w S av (Bt l)) (hl:∀n,n<l.length->l.getD n 0<k.frames.length) (hll:l.length<=2) (hs:l.length*16<=s.size) (hs2:s.size<=1000) (Qe:0<k.frames.length) :
  Calls prog 278 #[.pointer (some (Ad mb 0)),.slice av l.length cv,.string s] w (nH lo mb tt X w S (.tuple #[]) (mY k l s l.length)):=by
 have HH:=ai hH;have HL:=ai hl;have Qh:Hid (∀V n,n<l.length->bR lo mb tt X V S (mY k l s n)->∃fb cF,¬mb=fb/\V.cell? (Ad mb 1)=some (.slice (some (Ad fb 0)) k.frames.length cF)/\(∀V',Below V.heap.size V V'->V'.cell? (Ad fb (l.getD n 0*4))=some (.string (aM (mY k l s n).frames (l.getD n 0)).data)/\V'.frozen? (Ad fb (l.getD n 0*4))=false/\bR lo mb tt X (V'.setCell (Ad fb (l.getD n 0*4)) (.string (s.extract (n*16) (n*16+16)))) S (mY k l s (n+1))/\cO S V S (V'.setCell (Ad fb (l.getD n 0*4)) (.string (s.extract (n*16) (n*16+16)))))):=λV n hn hV=>by
  obtain⟨fb,cF,A⟩:=hV.toKr.fr (by rw[Dk];exact Qe);have c1:=hV.c1;rw[A.v,Dk] at c1;refine⟨fb,cF,λe=>by have:=A.lab;rw[<- e,hV.lH] at this;simp at this,c1,λV' hb=>?_⟩;have F:=hV.below hb;obtain⟨M,Y,A'⟩:=F.toKr.fr (by rw[Dk];exact Qe);have e:M=fb:=by
   have:=A'.v;rw[A.v] at this;injection this with e1 _ _;injection e1 with e1;injection e1 with e1 _ _;exact e1.symm
  subst e;have hi:l.getD n 0<(mY k l s n).frames.length:=by rw[Dk];exact hl n hn
  exact⟨A'.x0 _ hi,A'.fz _,F.Qn A'.v hi (j:=0) ω rfl,(cO.below hb).trans (Dn F.toKr A'.v)⟩
 have O:Hid (∀V n,n<l.length->Calls prog 171 #[.string s,I ((n:Int)*16),I 16] V λe w'=>e=.returned (.tuple #[.string (s.extract (n*16) (n*16+16)),I 0])/\Below V.heap.size V w'):=λV n hn=>by
  have:=Bj s (n*16) 16 V ω ω;rw[show((n*16:Nat):Int)=(n:Int)*16 by omega,show((16:Nat):Int)=16 from rfl] at this;exact this
 have tV:=ai h;have fV:Hid (∀V,bR lo mb tt X V S (mY k l s l.length)->cO S w S V->nH lo mb tt X w S (.tuple #[]) (mY k l s l.length) (.returned (.tuple #[])) V):=λV h1 h2=>⟨rfl,h1,h2⟩
 generalize nH lo mb tt X w S (.tuple #[]) (mY k l s l.length)=P at fV ⊢;generalize k.frames.length=nf at Qh HL;clear h hH hl Qe hs hs2;go_enter func278,ntmps278;go_wp2;go_loopw [10] (λiv wr=>∃n:Nat,n<=l.length/\iv=I (n:Int)/\bR lo mb tt X wr S (mY k l s n)/\cO S w S wr) (λiv _=>l.length-(intOf iv).toNat)
 case atStart=>exact⟨0,ω,rfl,tV.o,cO.refl _ _⟩
 case round =>
  obtain⟨n,hn,rfl,uR,b⟩:=hrel;by_cases hlt:n<l.length
  . have R:(n:Int)<(l.length:Int):=by omega
    have C3:=HH.o.ch b;obtain⟨eb,eo,N,T,di⟩:=C3.has (by rw[GR];omega);subst N;have y0:=di n (by rw[GR];exact hlt) 0 ω;rw[lB,TM] at y0;have e0:=Z4 l n hlt;have x0:wr.cell? (Ad eb (eo+n))=some (I ((l.getD n 0:Nat):Int)):=by
     rw[<- e0];exact y0
    have hq:=HL.o n hlt;obtain⟨fb,cF,L,c1,K⟩:=Qh.o wr n hlt uR;have y:=ai K;have B:=ai (λV=>O.o V n hlt);have Nt:=ai b;generalize l.getD n 0=q at x0 hq y;generalize (aM (mY k l s n).frames q).data=FD at y;generalize s.extract (n*16) (n*16+16)=PD at y B;have U:(q:Int)<(nf:Int):=by omega
    have Uk:mb<wr.heap.size:=jL wr _ c1;have W:IntKind.i64.wrap ((n:Int)*16)=(n:Int)*16:=sJ _ ω;clear di y0 e0 uR b K C3 tV;go_upto_region 3 with fail;have tV:=ai (aN wr.heap.size wr).drew;have pK:Hid (wr.drew.cell? (Ad mb 1)=some (.slice (some (Ad fb 0)) nf cF)):=(tV.o.cell (p:=(Ad mb 1)) Uk).trans c1
    go_region_held3 (λV=>V.cell? (Ad mb 1)=some (.slice (some (Ad fb 0)) nf cF)) (first | exact Gh.o | exact pK.o | exact G.o)
     ((go_at_call 171;refine(B.o _).mono ?_;rintro r w5 ⟨rfl,Fu⟩;have J:=ai (tV.o.trans (Fu.mono tV.o.size));have Gh:Hid (w5.cell? (Ad mb 1)=some (.slice (some (Ad fb 0)) nf cF)):=(J.o.cell (p:=(Ad mb 1)) Uk).trans c1;have G:Hid ((w5.setCell (Ad fb (q*4)) (.string PD)).cell? (Ad mb 1)=some (.slice (some (Ad fb 0)) nf cF)):=(dH _ _ _ _ _ _ L).trans Gh.o;obtain⟨z0,z1,z2,z3⟩:=y.o w5 J.o;have DY:=ai z2;have Q:=ai z3;clear Fu z2 z3))
    all_goals clear pK Gh G B
    all_goals go_wp2
    go_roundw
    case rel=>exact⟨n+1,ω,by go_num,DY.o,Nt.o.trans Q.o⟩
    case measure=>simp[intOf];omega
  obtain rfl:n=l.length:=by omega
  have HX:=ai (fV.o wr uR b);clear uR b;go_wp2
  first
   | exact HX.o
   | (refine yu (v:=.tuple #[]) (by simp[results,results278,go_sem]) rfl ?_;exact HX.o)
theorem Ur (w:World) (C:Array Value) (t:TypeId):∃WA,(w.alloc (.cells C t)).alloc (.cells #[Nl,Nl,Nl,Nl,I 0] 30)=WA/\Below w.heap.size w WA/\WA.heap[w.heap.size]?=some (.cells C t (0,0))/\w.heap.size+1<WA.heap.size/\∀V,Below WA.heap.size WA V->V.heap[w.heap.size+1]?=some (.cells #[Nl,Nl,Nl,Nl,I 0] 30 (0,0)):=by
 have rb:((w.alloc (.cells C t)).alloc (.cells #[Nl,Nl,Nl,Nl,I 0] 30)).heap[w.heap.size+1]?=some (.cells #[Nl,Nl,Nl,Nl,I 0] 30 (0,0)):=by grind [bH,World.size_alloc]
 exact⟨_,rfl,by simp[aN,sI],by grind [bu,bH],aQ rb,λV hb=>aU rb hb (aQ rb)⟩
theorem VJ (C4:uj) {WA:World} (hK:ju w a k) (hF:pY k) (hR:aW k) (hb0:Below w.heap.size w WA) (V:World) (mb:Nat) (hV:Below WA.heap.size WA V) (yr:WA.heap.size<=mb) (hm2:V.heap[mb]?=some (.cells (rB a k) 158 (0,0))) :
  Calls prog 267 #[.pointer (some (Ad mb 0))] V λe w'=>e=.returned (.tuple #[])/\∃S hs,cZ k.aR hs/\bR WA.heap.size mb 158 (mC k) w' S (aY k hs)/\(∀b,S.lab b≠.no->b=mb\/V.heap.size<=b)/\aH (λb=>b=mb) V w'/\Below WA.heap.size WA w' :=
 (VL C4 k a mb V (hK.below (hb0.trans (hV.mono hb0.size))) (Di hR hF) hm2 WA.heap.size yr).mono λe w' ⟨h1,S,hs,h2,h3,h4,h5⟩=>⟨h1,S,hs,h2,h3,h4,h5,aH.below hV h5 hV.size (λb e=>ω)⟩
def aq9 (D:Nat->Prop) (w W:World) (mb:Nat) (k':aT):Prop:=∃aS nS cS aF nF cF aL nL cL aP cP hd,(W.cell? (Ad mb 0)=some (.slice aS nS cS)/\W.cell? (Ad mb 1)=some (.slice aF nF cF)/\W.cell? (Ad mb 2)=some (.slice aL nL cL)/\W.cell? (Ad mb 3)=some (.slice aP k'.aj.length cP)/\W.cell? (Ad mb 4)=some (I hd))/\∀vs U,aH D W U->fL w k' vs (.returned (.tuple (Value.agg #[.slice aS nS cS,.slice aF nF cF,.slice aL nL cL,.slice aP k'.aj.length cP,I hd]::vs).toArray)) U
theorem Dg {WA:World} {k':aT} (h:bR WA.heap.size mb 158 X W S (aY k' hs)) (hs1:cZ k.aR hs) (e:k'.aR=k.aR) (hb0:Below w.heap.size w WA) (hbl:Below WA.heap.size WA W) {D:Nat->Prop} (hD:∀b,D b->w.heap.size<=b/\b<WA.heap.size) :
  aq9 D w W mb k':=by
 obtain⟨aS,cS,eS,_⟩:=aZ h.aR;obtain⟨aF,cF,eF,_⟩:=aZ h.frames;obtain⟨aL,cL,eL,_⟩:=aZ h.slots;obtain⟨aP,cP,eP,_⟩:=aZ h.aj;rw[h.len] at eP;change S.vP=.slice aP k'.aj.length cP at eP;have zE:Below w.heap.size w W:=hb0.trans (hbl.mono hb0.size);refine⟨aS,_,cS,aF,_,cF,aL,_,cL,aP,cP,_,⟨eS ▸ h.c0,eF ▸ h.c1,eL ▸ h.c2,eP ▸ h.c3,h.c4⟩,λvs U hU=>⟨S,hs,e ▸ hs1,by rw[eS,eF,eL,eP];rfl,(h.toKr.kp hU (λb hb g=>?_)).mono hb0.size,aH.below zE hU zE.size (λb g=>(hD b g).1)⟩⟩;have:=(h.CT b hb).1;have:=hD b g;omega
theorem KS (hr:W.heap[rb]?=some (.cells #[Nl,Nl,Nl,Nl,I 0] 30 (0,0))) (s f l p h:Value) (hV:V=((((W.setCell (Ad rb 0) s).setCell (Ad rb 1) f).setCell (Ad rb 2) l).setCell (Ad rb 3) p).setCell (Ad rb 4) h) :
  V.heap[rb]?=some (.cells #[s,f,l,p,h] 30 (0,0))/\aH (λb=>b=rb) W V:=by
 subst hV;refine⟨gH (gH (gH (gH (gH hr 0 s) 1 f) 2 l) 3 p) 4 h,?_⟩;have k:∀(A:World) (j:Nat) (v:Value),aH (λb=>b=rb) A (A.setCell (Ad rb j) v):=λA j v=>aH.set _ A (Ad rb j) v rfl
 exact((((k _ _ _).trans (k _ _ _) (λ_ _ g=>g)).trans (k _ _ _) (λ_ _ g=>g)).trans (k _ _ _) (λ_ _ g=>g)).trans (k _ _ _) (λ_ _ g=>g)
theorem Us {R:Ending->World->Prop} {a:Act} {s f l p h v:Value} (hr:W.heap[rb]?=some (.cells #[Nl,Nl,Nl,Nl,I 0] 30 (0,0)))
  (hfin:∀U,aH (λb=>b=rb) W U->R (.returned v) U) (hV:V=((((W.setCell (Ad rb 0) s).setCell (Ad rb 1) f).setCell (Ad rb 2) l).setCell (Ad rb 3) p).setCell (Ad rb 4) h\/V=(((((W.setCell (Ad rb 0) s).setCell (Ad rb 1) f).setCell (Ad rb 2) l).setCell (Ad rb 3) p).setCell (Ad rb 4) h).drew:=by exact .inl rfl)
  (hres:V.cell? (Ad rb 0)=some s/\V.cell? (Ad rb 1)=some f/\V.cell? (Ad rb 2)=some l/\V.cell? (Ad rb 3)=some p/\V.cell? (Ad rb 4)=some h->(results fn a.tmps).run prog V=.ok v V:=by(rintro⟨y0,y1,y2,y3,y4⟩;simp[results,results260,results261,results274,results30,go_sem,y0,y1,y2,y3,y4])) (hd:a.defers=[]:=by rfl):bodyPost prog fn R .ret a V:=by
 obtain⟨h1,h2⟩:=KS hr s f l p h rfl;rcases hV with rfl | rfl
 . exact b9 (hres (o5 h1)) hd (hfin _ h2)
 exact b9 (hres (o5 (aU h1 (aN _ _).drew (aQ h1)))) hd (hfin _ (h2.trans (aH.drew _ _) (λ_ _ g=>g)))
theorem Dh {vs:List Value} {a:Act} {s f l p h:Value} (hr:W.heap[w.heap.size+1]?=some (.cells #[Nl,Nl,Nl,Nl,I 0] 30 (0,0))) (hb:Below w.heap.size w W) (hV:V=((((W.setCell (Ad (w.heap.size+1) 0) s).setCell (Ad (w.heap.size+1) 1) f).setCell (Ad (w.heap.size+1) 2) l).setCell (Ad (w.heap.size+1) 3) p).setCell (Ad (w.heap.size+1) 4) h\/V=(((((W.setCell (Ad (w.heap.size+1) 0) s).setCell (Ad (w.heap.size+1) 1) f).setCell (Ad (w.heap.size+1) 2) l).setCell (Ad (w.heap.size+1) 3) p).setCell (Ad (w.heap.size+1) 4) h).drew:=by exact .inl rfl)
  (hres:V.cell? (Ad (w.heap.size+1) 0)=some s/\V.cell? (Ad (w.heap.size+1) 1)=some f/\V.cell? (Ad (w.heap.size+1) 2)=some l/\V.cell? (Ad (w.heap.size+1) 3)=some p/\V.cell? (Ad (w.heap.size+1) 4)=some h->(results fn a.tmps).run prog V=.ok (.tuple (Value.agg #[Nl,Nl,Nl,Nl,I 0]::vs).toArray) V:=by(rintro⟨y0,y1,y2,y3,y4⟩;simp[results,results260,results261,results274,results30,go_sem,y0,y1,y2,y3,y4])) (hd:a.defers=[]:=by rfl):bodyPost prog fn (fL w kg vs) .ret a V :=
 Us hr (λU hU=>yg vs (aH.below hb hU hb.size (λb e=>ω))) hV hres hd
theorem ajz (w:World) (C:Array Value) (t:TypeId):∃WA,((w.alloc (.cells C t)).alloc (.cells #[Nl,Nl,Nl,Nl,I 0] 30)).alloc (.cells #[I 0,I 0] 75)=WA/\Below w.heap.size w WA/\WA.heap[w.heap.size]?=some (.cells C t (0,0))/\w.heap.size+1+1<WA.heap.size/\∀V,Below WA.heap.size WA V->V.heap[w.heap.size+1]?=some (.cells #[Nl,Nl,Nl,Nl,I 0] 30 (0,0))/\V.heap[w.heap.size+1+1]?=some (.cells #[I 0,I 0] 75 (0,0)):=by
 obtain⟨WA,pU,h1,h2,h3,h4⟩:=Ur w C t;have hz:WA.heap.size=w.heap.size+1+1:=by rw[<- pU];simp
 have hb:=(aN WA.heap.size WA).alloc (aK _) (.cells #[I 0,I 0] 75);have fb:=bH WA #[I 0,I 0] 75;rw[pU];rw[hz] at fb;have hl:=aQ fb;exact⟨_,rfl,h1.trans (hb.mono h1.size),bu h2 _,hl,λV hV=>⟨aU (h4 _ hb) hV ω,aU fb hV hl⟩⟩
theorem RQ (V:World) (l:List Int):eX jb 1 0 (V.alloc (.cells (l.map (I ·)).toArray 3)) (some (Ad V.heap.size 0)) l:=λ_=>by
 have h:=bH V (l.map (I ·)).toArray 3;refine⟨V.heap.size,0,rfl,aQ h,λi hi j hj=>?_⟩;obtain rfl:j=0:=by omega
 simp[jb,hi]
theorem KT {R:Ending->World->Prop} {a:Act} {s f l p h x y v:Value} (hr:W.heap[rb]?=some (.cells #[Nl,Nl,Nl,Nl,I 0] 30 (0,0))/\W.heap[rb+1]?=some (.cells #[I 0,I 0] 75 (0,0)))
  (hfin:∀U,aH (λb=>b=rb\/b=rb+1) W U->R (.returned v) U) (hV:V=((((((W.setCell (Ad rb 0) s).setCell (Ad rb 1) f).setCell (Ad rb 2) l).setCell (Ad rb 3) p).setCell (Ad rb 4) h).setCell (Ad (rb+1) 0) x).setCell (Ad (rb+1) 1) y\/V=(((((((W.setCell (Ad rb 0) s).setCell (Ad rb 1) f).setCell (Ad rb 2) l).setCell (Ad rb 3) p).setCell (Ad rb 4) h).setCell (Ad (rb+1) 0) x).setCell (Ad (rb+1) 1) y).drew:=by exact .inl rfl)
  (hres:(V.cell? (Ad rb 0)=some s/\V.cell? (Ad rb 1)=some f/\V.cell? (Ad rb 2)=some l/\V.cell? (Ad rb 3)=some p/\V.cell? (Ad rb 4)=some h)->(V.cell? (Ad (rb+1) 0)=some x/\V.cell? (Ad (rb+1) 1)=some y)->(results fn a.tmps).run prog V=.ok v V:=by(rintro⟨y0,y1,y2,y3,y4⟩ ⟨y5,y6⟩;simp[results,results262,results265,go_sem,y0,y1,y2,y3,y4,y5,y6])) (hd:a.defers=[]:=by rfl):bodyPost prog fn R .ret a V:=by
 obtain⟨h1,h2,h3⟩:=aoI hr.1 hr.2 ω s f l p h x y rfl;rcases hV with rfl | rfl
 . exact b9 (hres (o5 h1) (xZ h2)) hd (hfin _ h3)
 exact b9 (hres (o5 (aU h1 (aN _ _).drew (aQ h1))) (xZ (aU h2 (aN _ _).drew (aQ h2)))) hd (hfin _ (h3.trans (aH.drew _ _) (λ_ _ g=>g)))
theorem LM {n way:Int} {ways:List Int} (h:jl k sp n way ways=0):∃j:Nat,sp=(j:Int)/\aW k/\j<k.aj.length/\1<=n/\n<=8:=by
 obtain⟨h1,h2,_⟩:=abH h;obtain⟨hR,h0,hj,_⟩:=uy h1;exact⟨sp.toNat,ω,hR,hj,h2⟩
theorem LL (hR:aW k) {j:Nat} (hj:j<k.aj.length) {a n:Int} (way:Int) (ha:cH a) (hn:1<=n/\n<=8) (hsame:cZ k.aR hs) (hX:KU X hs) (h:bR lo mb 158 X w S (aY k hs)) :
  Calls prog 272 #[.pointer (some (Ad mb 0)),I (j:Int),I a,I n,I way] w λe w'=>∃av nv cv S',e=.returned (.tuple #[.slice av nv cv,.agg #[I (bB (ak k.aj j).aJ a n way).1,I (bB (ak k.aj j).aJ a n way).2]])/\cO S w S' w'/\((bB (ak k.aj j).aJ a n way).1=0->nv=(bg k j a n way).1.length/\om w' S' av (Bt (bg k j a n way).1)/\bR lo mb 158 X w' S' (aY (bg k j a n way).2 hs)):=by
 by_cases hf:(bB (ak k.aj j).aJ a n way).1=0
 . obtain⟨q,y,A,b⟩:=uA hn.1 hn.2 hf;have yr:dM k j (a/16):=by
    have:=b 0 ω ω
    rwa [Gj] at this
   refine(Yl (aY k hs) S w j a n way h (hR.CZ hsame) hj ha hn hf hX).mono λe w' ⟨av,cv,S',e1,hh,hk',hc'⟩=>?_
   rw[yS hR hj yr hsame] at hk' e1 hh;exact⟨av,_,cv,S',by rw[q];exact e1,hc',λ_=>⟨rfl,hh,hk'⟩⟩
 exact(VN (aY k hs) S w j a n way h (hR.CZ hsame) hj ha hn hf).mono λe w' ⟨e1,hb⟩=>⟨none,0,0,S,e1,cO.below hb,λg=>absurd g hf⟩
theorem OI (hR:aW k) {j:Nat} (hj:j<k.aj.length) {a n:Int} (way:Int) (hn:1<=n/\n<=8) (hf:(bB (ak k.aj j).aJ a n way).1=0) :
  bB (ak k.aj j).aJ a n way=(0,0)/\(dM k j (a/16)/\dM k j (cN a n))/\(bg k j a n way).2.aR=k.aR/\(0<(bg k j a n way).2.frames.length/\(bg k j a n way).1.length<=2/\(∀m,m<(bg k j a n way).1.length->(bg k j a n way).1.getD m 0<(bg k j a n way).2.frames.length)/\(∀m,m<(bg k j a n way).1.length->(aM (bg k j a n way).2.frames ((bg k j a n way).1.getD m 0)).data.size<=1000))/\(oN (b7 k j) a n).size=(bg k j a n way).1.length*16/\((a%16).toNat+n.toNat<=(oN (b7 k j) a n).size)/\jo (bg k j a n way).2.frames (bg k j a n way).1 (bg k j a n way).1.length=oN (b7 k j) a n/\0<=a/\a.tmod 16=(((a%16).toNat:Nat):Int):=by
 obtain⟨F,J,K,q⟩:=uA hn.1 hn.2 hf;have yr:dM k j (a/16):=by
  have:=q 0 ω ω
  rwa [Gj] at this
 have b:dM k j (cN a n):=by
  have:=q (n-1) ω ω;unfold cN
  rwa [show a+n-1=a+(n-1) by omega]
 have RH:=rD hR hj a n way yr b;have L:=hR.c;have hl:=(RU k j a n way).2.2;have A:∀m,m<(bg k j a n way).1.length->(bg k j a n way).1.getD m 0<(bg k j a n way).2.frames.length:=λm hm=>by
  rw[RH.kept.nf];by_cases z:cN a n=a/16
  . have e:(bg k j a n way).1=[(fT k j a way).1]:=by unfold bg;rw[aC z]
    rw[e] at hm ⊢;obtain rfl:m=0:=by simpa using hm
    exact RH.one.2
  have e:(bg k j a n way).1=[(fT k j a way).1,(mN k j a n way).1]:=by unfold bg;rw[aB z]
  rw[e] at hm ⊢;have hm:m<2:=hm;rcases(ω:m=0\/m=1) with rfl | rfl
  . exact RH.one.2
  exact(RH.two z).2
 have y:JI (b7 k j) a n:=⟨wh hR hj yr,wh hR hj b⟩;have G:=Ju y hn.1 hn.2;have B:=G7 y hn.1 hn.2;unfold qR at hl;refine⟨F,⟨yr,b⟩,RH.kept.aR,⟨by rw[RH.kept.nf];omega,by rw[hl];split <;> simp,A,λm hm=>?_⟩,by rw[hl];split at B <;> rename_i z <;> simp[z] <;> omega,ω,EY hR hj a n way yr b,ω,by rw[Int.tmod_eq_emod_of_nonneg ω];omega⟩;have hi:=A m hm;by_cases z:(aM (bg k j a n way).2.frames ((bg k j a n way).1.getD m 0)).refs=0
 . have:=(RH.right.EK _ hi).zero ((RH.right.EK _ hi).nil z);rw[this];show(0:Nat)<=1000;omega
 have:=(RH.right.EK _ hi).size ((RH.right.EK _ hi).ne z);omega
end Go.Proofs.YtlgoihmkgaaemaaGreat
