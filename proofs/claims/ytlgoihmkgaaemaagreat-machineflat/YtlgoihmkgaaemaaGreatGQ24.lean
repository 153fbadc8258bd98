import Derived.Test.YtlgoihmkgaaemaaGreatGQ23
set_option maxHeartbeats 20000000
set_option linter.unusedVariables false
set_option maxRecDepth 100000
set_option linter.unusedSimpArgs false
namespace Go.Proofs.YtlgoihmkgaaemaaGreat
open Go.RowKit Tryz
variable {lo mb:Nat} {tt:TypeId} {X:List Value} (k:aT) (S:gJ) (w:World) (j:Nat) (p a:Int)
theorem VO (held:List Int) (ah:Option Addr) (ch:Nat) (h:bR lo mb tt X w S k) (hR:aW k) (hj:j<k.aj.length) (hp:dM k j p) (hX:KU X k.aR) (hl:held.length<=2) (hH:om w S ah held) :
  Calls prog 290 #[.pointer (some (Ad mb 0)),I (j:Int),I p,.slice ah held.length ch] w (fZ lo mb tt X w S (I ((dI k j p held).1:Int)) (dI k j p held).2):=by
 cases he:bl (ak k.aj j).bh p with
 | none=>exact Th k S w j p held ah ch h hR hj he hp hX hl hH
 | some e =>
  by_cases hk:e.kind=1
  . exact Ti k S w j p held ah ch e h hR hj he hk
  exact MP k S w j p held ah ch e h hR hj he hk hl hH
theorem aeE:∀l:List Int,∀u∈l.flatMap jb,u.oneCell'=true:=λl u hu=>by
 obtain⟨y,_,hy⟩:=vO.1 hu;simp[jb] at hy;rw[hy];rfl
theorem abN {w:World} {ah:Option Addr} {l:List Int} (h:eX jb 1 0 w ah l):qK w ah l.length (l.flatMap jb):=λhm=>by
 obtain⟨b,off,rfl,hb,hl⟩:=h hm;exact yO (w:=w) jb 1 (λ_=>rfl) 0 l b off (λi hi j hj=>hl i hi j hj) hm
theorem Jf {w:World} {base:Nat} {S:gJ} {ao:Option Addr} {n c:Nat} {l:List Int} (hr:w.ownsRow base 3 1 (.slice ao n c) l.length (l.flatMap jb)) (hno:∀b,cA (.slice ao n c) b->S.lab b=.no):n=l.length/\om w S ao l:=by
 obtain⟨a,cap,e,_,q⟩:=qy jb (λ_=>rfl) 0 hr;injection e with e1 e2 e3;subst e1 e2;refine⟨rfl,q,λb off e=>?_,λb off e=>?_⟩
 . subst e;refine hno b ?_;rfl
 subst e;rcases hr.2 with⟨h0,_⟩ | ⟨g,y,A,hv,_,hg,_⟩
 . cases h0
 grind
theorem abQ (a:Nat) (held:List Int) (ah:Option Addr) (ch:Nat) (h:bR lo mb tt X w S k) (hR:aW k) (hj:j<k.aj.length) (ha:bl (ak k.aj j).bh p=some ⟨p,1,a⟩) (hl:held.length<=1) (hH:om w S ah held) :
  Calls prog 291 #[.pointer (some (Ad mb 0)),I (j:Int),I p,I (a:Int),.slice ah held.length ch] w (fZ lo mb tt X w S (I ((mn k j p a held).1:Int)) (mn k j p a held).2):=by
 have a0:=hR.c;have J:=G9 hR hj ha;obtain⟨fb,cF,A⟩:=h.toKr.fr ω;have c1:=h.c1;rw[A.v] at c1;have x1:=A.x1 a J.1;have an:(a:Int)<(k.frames.length:Int):=by omega
 by_cases c:(aM k.frames a).refs=1
 . have hP:mn k j p a held=(a,k):=by grind [mn]
   rw[hP];have fV:Hid (fZ lo mb tt X w S (I (a:Int)) k (.returned (I (a:Int))) w):=⟨rfl,S,h,cO.refl _ _⟩;generalize fZ lo mb tt X w S (I (a:Int)) k=P at fV ⊢;rw[c] at x1;generalize k.frames.length=nf at c1 an;clear hP c h hR hj ha hH hl A J a0;go_enter func291,ntmps291;go_wp2;exact fV.o
 have R:(held++[(a:Int)]).length<=2:=by grind
 have G:=vg hR R;have M:=G.UL a (kJ.2 (.inr ξ)) J.2;have F:bl (ak (bK k (held++[(a:Int)])).2.aj j).bh p=some ⟨p,1,a⟩:=G.stay hR hj ha (λ_=>kJ.2 (.inr ξ));obtain⟨k1,W⟩:=ex ((bK k (held++[(a:Int)])).2);obtain⟨i,hi⟩:=ex ((bK k (held++[(a:Int)])).1);have hP:mn k j p a held=(i,fe k1 j p i (aM k1.frames a).data true):=by
  unfold mn
  grind
 have al:∀V S',bR lo mb tt X V S' k->∀ah' ch',om V S' ah' (held++[(a:Int)])->Calls prog 292 #[.pointer (some (Ad mb 0)),.slice ah' (held++[(a:Int)]).length ch'] V (fZ lo mb tt X V S' (I (i:Int)) k1):=λV S' hV ah' ch' hh=>by
  have:=MQ k S' V (held++[(a:Int)]) ah' ch' hV hR R hh;rw[<- W,<- hi] at this;exact this
 rw[<- W] at F M;rw[<- hi] at M;have a8:j<k1.aj.length:=by have:=G.kept.np;grind
 have T:k1.frames.length=k.frames.length:=by have:=G.kept.nf;grind
 have y:i<k1.frames.length:=by rw[T,hi];exact G.lt
 have Q:a<k1.frames.length:=by omega
 have Qg:aW k1:=by have:=G.right;grind
 have aP:=qg Qg a8;have aK:=Qg.c;have Y:=(AV Qg).1 a Q;obtain⟨D,hD⟩:=ex ((aM k1.frames a).data);have a3:i≠a:=λe=>M.1 e.symm
 have N:aM (jw k1 i D true).frames a=aM k1.frames a:=by
  show aM (k1.frames.set i _) a=_;rw[kV _ _ _ _ y,aB a3]
 have ap:¬(aM k1.frames a).refs-1=0:=by grind
 obtain⟨K2,L⟩:∃K2:aT,K2={ jw k1 i D true with frames:=(jw k1 i D true).frames.set a ⟨(aM k1.frames a).data,(aM k1.frames a).refs-1,(aM k1.frames a).kE,(aM k1.frames a).seen⟩ }:=⟨_,rfl⟩;have ac:fe k1 j p i D true=gK K2 j ⟨p,1,i⟩:=by
  unfold fe;rw[F];show dN _ _=_;rw[<- Jg];congr 1;unfold dN;rw[aC rfl,L];show({ jw k1 i D true with frames:=(jw k1 i D true).frames.set (a:Int).toNat (uo (aM (jw k1 i D true).frames (a:Int).toNat)) }:aT)=_;rw[jW,N];unfold uo
  grind
 rw[hP,<- hD,ac];have Qh:Hid (∀V S',bR lo mb tt X V S' k1->∃fb cF,V.cell? (Ad mb 1)=some (.slice (some (Ad fb 0)) k1.frames.length cF)/\¬mb=fb/\V.cell? (Ad fb (a*4))=some (.string D)/\V.cell? (Ad fb (i*4))=some (.string (aM k1.frames i).data)/\V.cell? (Ad fb (i*4+1))=some (I (aM k1.frames i).refs)/\V.cell? (Ad fb (i*4+2))=some (.bool (aM k1.frames i).kE)/\V.cell? (Ad fb (i*4+3))=some (.bool (aM k1.frames i).seen)/\V.frozen? (Ad fb (i*4))=false/\V.frozen? (Ad fb (i*4+1))=false/\V.frozen? (Ad fb (i*4+2))=false/\V.frozen? (Ad fb (i*4+3))=false /\
   (∀U,U=((((V.setCell (Ad fb (i*4)) (.string D)).setCell (Ad fb (i*4+1)) (I 1)).setCell (Ad fb (i*4+2)) (.bool true)).setCell (Ad fb (i*4+3)) (.bool false)).drew->U.cell? (Ad mb 1)=some (.slice (some (Ad fb 0)) k1.frames.length cF)/\U.cell? (Ad fb (a*4+1))=some (I (aM k1.frames a).refs)/\U.frozen? (Ad fb (a*4+1))=false/\bR lo mb tt X (U.setCell (Ad fb (a*4+1)) (I ((aM k1.frames a).refs-1))) S' K2/\cO S' V S' (U.setCell (Ad fb (a*4+1)) (I ((aM k1.frames a).refs-1))))):=λV S' hV=>by
  obtain⟨fb,cF,A⟩:=hV.toKr.fr ω;have c1:=hV.c1;rw[A.v] at c1;refine⟨fb,cF,c1,λe=>by have:=A.lab;rw[<- e,hV.lH] at this;simp at this,by rw[hD];exact A.x0 a Q,A.x0 i y,A.x1 i y,A.x2 i y,A.x3 i y,A.fz _,A.fz _,A.fz _,A.fz _,λU hU=>?_⟩;have m:=hV.alR A.v y ⟨D,1,true,false⟩;have m1:bR lo mb tt X U S' (jw k1 i D true):=by subst hU;exact m.1.below (aN _ _).drew
  have aR:cO S' V S' U:=by subst hU;exact m.2.trans (cO.below (aN _ _).drew)
  have b0:(jw k1 i D true).frames.length=k1.frames.length:=dE;obtain⟨ay,b1,A'⟩:=m1.toKr.fr ω;have e:ay=fb:=by
   have:=A'.v;rw[A.v] at this;injection this with e1 _ _;injection e1 with e1;injection e1 with e1 _ _;omega
  subst e;have a7:=m1.c1;rw[A.v] at a7;have y1:=A'.x1 a ω;rw[N] at y1;refine⟨a7,y1,A'.fz _,?_,aR.trans (Dn m1.toKr A'.v)⟩;rw[L];exact m1.Qn A'.v (i:=a) ω (j:=1) ω (by rw[N];rfl)
 have ag:Hid (∀V S',bR lo mb tt X V S' K2->Calls prog 293 #[.pointer (some (Ad mb 0)),I (j:Int),.agg #[I p,I 1,I (i:Int)]] V (fZ lo mb tt X V S' (.tuple #[]) (gK K2 j ⟨p,1,i⟩))):=λV S' hV=>by
  have b5:K2.aj=k1.aj:=by rw[L];rfl
  exact GU _ S' V j ⟨p,1,i⟩ hV Γ Γ Γ
 have fV:Hid (∀V S',bR lo mb tt X V S' (gK K2 j ⟨p,1,i⟩)->cO S w S' V->fZ lo mb tt X w S (I (i:Int)) (gK K2 j ⟨p,1,i⟩) (.returned (I (i:Int))) V):=λV S' h1 h2=>⟨rfl,S',h1,h2⟩
 generalize gK K2 j ⟨p,1,i⟩=K3 at ag fV ⊢;generalize fZ lo mb tt X w S (I (i:Int)) K3=P at fV ⊢;have WI:Hid (Calls prog 294 #[.slice ah held.length ch] w λe w'=>∃av cv,e=.returned (.slice av held.length cv)/\w'.ownsRow w.heap.size 3 1 (.slice av held.length cv) held.length (held.flatMap jb)/\Below w.heap.size w w'):=(aiw ah held.length ch (held.flatMap jb) w (fp jb 1 (λ_=>rfl) held) (abN hH.has) (aeE held) ω).mono λe w' ⟨v,h1,h2,h3⟩=>by
  obtain⟨av,cv,rfl,_⟩:=aZ h2;exact⟨av,cv,h1,h2,h3⟩
 have az:Hid (∀V U av nv cv,Below w.heap.size w V->U=V->V.ownsRow w.heap.size 3 1 (.slice av nv cv) (held.length+1) (held.flatMap jb++[I (a:Int)])->Calls prog 292 #[.pointer (some (Ad mb 0)),.slice av nv cv] V (fZ lo mb tt X V S (I (i:Int)) k1)):=λV U av nv cv hb _ hr=>by
  have e1:(held++[(a:Int)]).length=held.length+1:=by simp
  have e2:(held++[(a:Int)]).flatMap jb=held.flatMap jb++[I (a:Int)]:=by simp[jb]
  rw[<- e1,<- e2] at hr;obtain⟨q1,q2⟩:=Jf (S:=S) hr (λb hb2=>h.toKr.new (hr.lt b hb2).1);rw[q1];exact al V S (h.below hb) av cv q2
 obtain⟨i0,a2,ad,a6,a5⟩:=kI QY;have Mk:=ai a2;have Tn:=ai ad;have Nr:=ai a6;have DY:=ai a5;have xb:((aM k.frames a).refs==1)=false:=by simpa using c
 generalize (aM k.frames a).refs=R0 at x1 xb;generalize (aM k1.frames a).refs=R1 at Qh Y;have b4:IntKind.i64.wrap (R1-1)=R1-1:=sJ _ ω;generalize aM k1.frames i=FR at Qh;obtain⟨nf,Qe⟩:=ex k.frames.length;rw[T,<- Qe] at Qh;rw[<- Qe] at c1 an;have b2:(i:Int)<(nf:Int):=by omega
 have b8:held.length<=1:=hl;clear hP c h hR hj ha hH hl A J a0 Qe a2 ad a6 a5 al ac L ap N a3 hD Y aK aP Qg Q y T a8 M F hi G R W;go_enter func291,ntmps291;go_upto_region 4 with(first
  | (at_builtin;refine m8 (P:=prog) rfl _ _ 48 rfl w.heap.size 3 i0 (I 0) 1 8 underlying48 Mk.o Tn.o Nr.o DY.o rfl Δ _ held.length (held.flatMap jb) rfl aa.o (some (Ad w1.heap.size 0)) 1 1 [I (a:Int)] rfl rfl (λ_=>⟨_,rfl,xY (bH w1 _ _)⟩) (by intro u hu;simp at hu;rw[hu];rfl) (by unfold maxLen;omega) ω (by have:=cD.o.size;simp;omega) ?_;intro v' w' B ao aw;obtain⟨aG,cG,aE,_,_⟩:=aZ B;subst aE;have K6:=ai B;have iJ:=ai ((cD.o.alloc cD.o.size (.cells #[I (a:Int)] 3)).grown ao (by have:=cD.o.size;simp;omega) (λq hq=>(aa.o.lt q hq).1));clear B ao aw)
  | (go_at_call 294;refine WI.o.mono ?_;rintro e w1 ⟨av,cv,rfl,Z,a4⟩;have cD:=ai a4;have aa:=ai (Z.alloc (.cells #[I (a:Int)] 3));clear Z a4)
  | (go_at_call 292;refine(az.o _ _ _ _ _ iJ.o rfl K6.o).mono ?_;rintro e w3 ⟨rfl,S3,a1,a9⟩;have Ez:=ai a1;have XI:=ai ((cO.below iJ.o).trans a9);clear a1 a9))
 obtain⟨K,b3,g1,b6,g2,g3,g4,g5,g6,g7,g8,g9,au,O⟩:=Qh.o w3 S3 Ez.o;obtain⟨U,hU⟩:=ex (((((w3.setCell (Ad K (i*4)) (.string D)).setCell (Ad K (i*4+1)) (I 1)).setCell (Ad K (i*4+2)) (.bool true)).setCell (Ad K (i*4+3)) (.bool false)).drew);obtain⟨y1,y2,y3,ae,am⟩:=O U hU;have HU:=ai hU;have WG:=ai ae;have aL:=ai (XI.o.trans am);clear O hU ae am;go_region;rw[<- HU.o];clear g1 g2 g3 g4 g5 g6 g7 g8 g9 au HU;go_wp2_with (go_at_call 293;refine(ag.o _ _ WG.o).mono ?_;rintro r w5 ⟨rfl,S5,ab,af⟩;have aF:=ai ab;have aS:=ai (aL.o.trans af);clear ab af);exact fV.o _ _ aF.o aS.o
open Go.RowKit
theorem abP (way:Int) (held:List Int) (ah:Option Addr) (ch:Nat) (h:bR lo mb tt X w S k) (hR:aW k) (hj:j<k.aj.length) (hp:dM k j p) (hX:KU X k.aR) (hl:held.length<=1) (hH:om w S ah held) :
  Calls prog 284 #[.pointer (some (Ad mb 0)),I (j:Int),I p,I way,.slice ah held.length ch] w (fZ lo mb tt X w S (I ((dO k j p way held).1:Int)) (dO k j p way held).2):=by
 have Fp:=ai (VO k S w j p held ah ch h hR hj hp hX ω hH);have hB:=(tS hR hj hp way hl).1;have B:=Dt hR hj hp (held:=held) ω;have T:=hR.c;have WE:Hid (∀V S' K i,iZ k j p way held=(i,K)->bR lo mb tt X V S' K->∃fb cF,V.cell? (Ad mb 1)=some (.slice (some (Ad fb 0)) k.frames.length cF)/\¬mb=fb/\i<k.frames.length/\V.cell? (Ad fb (i*4+2))=some (.bool (aM K.frames i).kE)/\V.cell? (Ad fb (i*4+3))=some (.bool (aM K.frames i).seen)/\V.frozen? (Ad fb (i*4+2))=false/\V.frozen? (Ad fb (i*4+3))=false /\
   (way≠1->bR lo mb tt X (V.setCell (Ad fb (i*4+3)) (.bool true)) S' (dO k j p way held).2/\cO S' V S' (V.setCell (Ad fb (i*4+3)) (.bool true))) /\
   (way=1->bR lo mb tt X ((V.setCell (Ad fb (i*4+2)) (.bool true)).setCell (Ad fb (i*4+3)) (.bool true)) S' (dO k j p way held).2/\cO S' V S' ((V.setCell (Ad fb (i*4+2)) (.bool true)).setCell (Ad fb (i*4+3)) (.bool true)))):=λV S' K i e hV=>by
  have Qe:K.frames.length=k.frames.length:=by
   have:=hB.kept.nf;unfold dO at this;rw[e] at this;have this:(K.frames.set i _).length=_:=this
   grind
  have hi:i<k.frames.length:=by
   have:=hB.lt
   grind [dO]
  have R:(dO k j p way held).2={ K with frames:=K.frames.set i (Cz way (aM K.frames i)) }:=by
   unfold dO;rw[e];rfl
  obtain⟨fb,cF,A⟩:=hV.toKr.fr ω;have c1:=hV.c1;rw[A.v,Qe] at c1;have G:i<K.frames.length:=by omega
  refine⟨fb,cF,c1,λe=>by have:=A.lab;rw[<- e,hV.lH] at this;grind,hi,A.x2 i G,A.x3 i G,A.fz _,A.fz _,λhw=>?_,λhw=>?_⟩
  . refine⟨?_,Dn hV.toKr A.v⟩;rw[R];refine hV.Qn A.v G (j:=3) ω ?_;unfold Cz;rw[fE hw,Bool.or_false];rfl
  have m1:=hV.Qn A.v G (j:=2) ω (f:=⟨(aM K.frames i).data,(aM K.frames i).refs,true,(aM K.frames i).seen⟩) (u:=.bool true) rfl;have m2:=m1.Qn A.v (i:=i) Γ (j:=3) ω (f:=Cz way (aM K.frames i)) (u:=.bool true) (by
   simp only[aM,fh _ _ _ _ G];unfold Cz;rw[fD hw,Bool.or_true];rfl)
  simp only[pS] at m2;rw[R];exact⟨m2,(Dn hV.toKr A.v).trans (Dn hV.toKr A.v)⟩
 have N:(dO k j p way held).1=(iZ k j p way held).1:=rfl;rw[N];have fV:Hid (∀V S' i,i=(iZ k j p way held).1->bR lo mb tt X V S' (dO k j p way held).2->cO S w S' V->fZ lo mb tt X w S (I ((iZ k j p way held).1:Int)) (dO k j p way held).2 (.returned (I (i:Int))) V):=λV S' i hi h1 h2=>⟨by rw[hi],S',h1,h2⟩
 generalize fZ lo mb tt X w S (I ((iZ k j p way held).1:Int)) (dO k j p way held).2=P at fV ⊢;generalize (dO k j p way held).2=KB at fV WE;by_cases c:way=1
 . have e2:iZ k j p way held=mn (dI k j p held).2 j p (dI k j p held).1 held:=by grind [iZ]
   have QW:Hid (∀V S',bR lo mb tt X V S' (dI k j p held).2->cO S w S' V->Calls prog 291 #[.pointer (some (Ad mb 0)),I (j:Int),I p,I ((dI k j p held).1:Int),.slice ah held.length ch] V (fZ lo mb tt X V S' (I ((iZ k j p way held).1:Int)) (iZ k j p way held).2)):=λV S' hV hc=>by
    rw[e2];exact abQ (dI k j p held).2 S' V j p (dI k j p held).1 held ah ch hV B.right (by rw[B.kept.np];exact hj) B.here hl (hH.ch hc)
   generalize iZ k j p way held=TK at QW fV WE;generalize dI k j p held=PR at Fp QW;obtain⟨i,K⟩:=TK;obtain⟨ip,aH⟩:=PR;have q:=ai (λV S' hV=>WE.o V S' K i rfl hV);have Aw:=ai (λV S'=>fV.o V S' i rfl);simp only at Fp QW;have HW:=ai c;have wb:(way==1)=true:=by grind
   generalize aM K.frames i=FR at q;generalize k.frames.length=nf at q;clear WE fV h hR hj hp hX hl hH hB B T e2 N c;go_enter func284,ntmps284;go_upto_region 4 with(first
    | (go_at_call 290;refine Fp.o.mono ?_;rintro e w1 ⟨rfl,S1,L,J⟩;have Nc:=ai L;have M:=ai J;clear L J)
    | (go_at_call 291;refine(QW.o _ _ Nc.o M.o).mono ?_;rintro e w2 ⟨rfl,S2,O,Q⟩;have uD:=ai O;have uM:=ai (M.o.trans Q);clear O Q))
   obtain⟨fb,cF,g1,W,gi,g2,g3,g4,g5,_,b⟩:=q.o w2 S2 uD.o;obtain⟨y,F⟩:=b HW.o;have Ez:=ai y;have XI:=ai (uM.o.trans F);have U:(i:Int)<(nf:Int):=by omega
   clear b y F;go_wp2;exact Aw.o _ _ Ez.o XI.o
 have e2:iZ k j p way held=dI k j p held:=by grind [iZ]
 rw[<- e2] at Fp;generalize iZ k j p way held=TK at Fp fV WE;obtain⟨i,K⟩:=TK;have q:=ai (λV S' hV=>WE.o V S' K i rfl hV);have Aw:=ai (λV S'=>fV.o V S' i rfl);simp only at Fp;have HW:=ai c;have wb:(way==1)=false:=by grind
 generalize aM K.frames i=FR at q;generalize k.frames.length=nf at q;clear WE fV h hR hj hp hX hl hH hB B T e2 N c;go_enter func284,ntmps284;go_upto_region 5 with(go_at_call 290;refine Fp.o.mono ?_;rintro e w1 ⟨rfl,S1,L,J⟩;have Nc:=ai L;have M:=ai J;clear L J);obtain⟨fb,cF,g1,W,gi,g2,g3,g4,g5,b,_⟩:=q.o w1 S1 Nc.o;obtain⟨y,F⟩:=b HW.o;have Ez:=ai y;have XI:=ai (M.o.trans F);have U:(i:Int)<(nf:Int):=by omega
 clear b y F;go_wp2;exact Aw.o _ _ Ez.o XI.o
def eI (x:Int×Int):Array Value:=#[I x.1,I x.2]
theorem Az {N g:Nat} {w W:World} (h:Below N w W) (hg:N<=g) (v0 v1:Value):Below N w ((W.setCell (Ad g 0) v0).setCell (Ad g 1) v1):=(h.setCell (p:=(Ad g 0)) hg v0).setCell (p:=(Ad g 1)) hg v1
theorem Ra (l:List aX) (v:Value) (a size way:Int) (w:World) (h:gD w v l) (hf:dQ l) (ha:-9223372036854775808<=a/\a<=9223372036854775807) (hz:size<=9223372036854775807) :
  Calls prog 283 #[v,I a,I size,I way] w λe w'=>e=.returned (.agg (eI (bB l a size way)))/\Below w.heap.size w w':=by
 have WH:=ai (λp V (hV:gD V v l)=>yq l v p V hV hf);have HH:=ai h;have fU:=ai ((aN w.heap.size w).alloc (aK _) (.cells #[I 0,I 0] 75));have X0:=ai (bH w #[I 0,I 0] 75);have HF:Hid (bB l a size way=if way=2/\¬a%8=0 then (3,a) else cE l a way size.toNat):=rfl;obtain⟨⟨R1,R2⟩,hR⟩:∃R,R=bB l a size way:=⟨_,rfl⟩;rw[<- hR] at HF ⊢;clear hR h hf;unfold eI;simp only;obtain⟨ao,vn,cap,rfl⟩:∃ao n cap,v=.slice ao n cap:=by
  obtain⟨ao,cap,h,_⟩:=HH.o
  grind
 have X:a.tmod 8=0↔a%8=0:=by grind
 by_cases M:way=2/\¬a%8=0
 . have HR:Hid ((R1,R2)=(3,a)):=by grind
   obtain⟨rfl,M⟩:=M;have h8:(a.tmod 8==0)=false:=by grind
   clear X M;go_enter func283,ntmps283;go_wp2;exact b9 (v:=.agg #[I 3,I a]) (by simp[results,results283,go_sem]) rfl ⟨by grind [Hid.o],(aN w.heap.size w).alloc (aK _) _⟩
 have HR:Hid ((R1,R2)=cE l a way size.toNat):=by grind
 clear HF;rcases(show((way==2)=true/\a.tmod 8=0)\/(way==2)=false by grind) with⟨a2,h8⟩ | a2
 all_goals
  clear X M;go_enter func283,ntmps283;go_wp2_with fail;go_loopw [23] (λiv wr=>∃k:Nat,k<=size.toNat/\iv=I (k:Int)/\cE l a way k=(0,0)/\wr.heap[w.heap.size]?=some (.cells #[I 0,I 0] 75 (0,0))/\Below w.heap.size w wr) (λiv _=>size.toNat-(intOf iv).toNat)
  case atStart=>exact⟨0,ω,rfl,rfl,X0.o,fU.o⟩
  case round =>
   obtain⟨k,hk,rfl,Qe,hx,hb⟩:=hrel;have HN:=ai Qe;have HX:=ai hx;have HB:=ai hb;clear Qe hx hb X0 fU;by_cases hlt:(k:Int)<size
   . have a4:-9223372036854775808<=a+k/\a+k<=9223372036854775807:=by
      cases k with
      | zero=>omega
      | succ j =>
       have:=DK HN.o;omega
     have y:=ai (AH HN.o);have A:Hid (∀f:Int×Int,cE l a way (k+1)=f->¬f.1=0->(R1,R2)=f):=λf h1 h2=>HR.o.trans (Mv h1 h2 _ ω)
     have QU:=ai (λV hV=>WH.o ((a+k).tdiv 16) V hV);have HQ:Hid (0<=a+k->(a+k).tdiv 16=(a+k)/16):=λh=>aa2 h
     obtain⟨⟨⟨pp,pn,pt,pz⟩,ok⟩,hF⟩:∃F,F=aV l ((a+k).tdiv 16):=⟨_,rfl⟩;have Y:=ai hF;rw[<- hF] at QU;have T:Hid (∀V,gD V (.slice ao vn cap) l->Calls prog 77 #[.slice ao vn cap,I ((a+k).tdiv 16)] V λe w'=>e=.returned (.tuple #[.agg #[I pp,I pn,I pt,.bool pz],.bool ok])/\Below V.heap.size V w'):=QU;clear hF QU;have G:Hid ((a+k<0->lU l (a+k) way=(1,a+k))/\(0<=a+k->ok=false->lU l (a+k) way=(1,a+k))/\(0<=a+k->ok=true->0<=pt/\pt<=3/\(ua pt way=true->lU l (a+k) way=(2,a+k))/\(ua pt way=false->lU l (a+k) way=(0,0)))):=by
      refine⟨λh=>SP (.inl h),λh h2=>?_,λh h2=>?_⟩
      . grind [SP,Hid.o]
      have e1:=Y.o;rw[HQ.o h] at e1;have h3:(aV l ((a+k)/16)).2=true:=by grind
      have h4:=jB (zm h3) h3
      grind [Zy,aiQ]
     clear Y;by_cases hneg:a+k<0
     . have q:=ai (A.o _ (y.o.trans (G.o.1 hneg)) ξ);clear G A y;go_wp2_with (go_at_call 77;refine(T.o _ (HH.o.below HB.o)).mono ?_;rintro e w1 ⟨rfl,b⟩;have cD:=ai (bq HB.o b);have X1:=ai (aU HX.o b (aQ HX.o));clear b;have ZK:=aQ X1.o;obtain⟨x0,x1⟩:=xZ X1.o;have f0:∀k,w1.frozen? (Ad w.heap.size k)=false:=λk=>bG X1.o k);exact b9 (v:=.agg #[I 1,I (a+k)]) (by simp[results,results283,go_sem,x0,x1,ZK]) rfl ⟨by rw[(qH q.o).1,(qH q.o).2],(Az cD.o (aK _) _ _).alloc (by simp;omega) _⟩
     have Z:0<=a+k:=by omega
     have Q:=T;rw[HQ.o Z] at Q;clear hneg T HQ;cases ok with
     | false =>
      have q:=ai (A.o _ (y.o.trans (G.o.2.1 ω rfl)) ξ);clear G A y;go_wp2_with (go_at_call 77;refine(Q.o _ (HH.o.below HB.o)).mono ?_;rintro e w1 ⟨rfl,b⟩;have cD:=ai (bq HB.o b);have X1:=ai (aU HX.o b (aQ HX.o));clear b;have ZK:=aQ X1.o;obtain⟨x0,x1⟩:=xZ X1.o;have f0:∀k,w1.frozen? (Ad w.heap.size k)=false:=λk=>bG X1.o k);exact b9 (v:=.agg #[I 1,I (a+k)]) (by simp[results,results283,go_sem,x0,x1,ZK]) rfl ⟨by rw[(qH q.o).1,(qH q.o).2],(Az cD.o (aK _) _ _).alloc (by simp;omega) _⟩
     | true =>
      have N:=G.o.2.2 Z rfl;have B:=Zl pt way N.1 N.2.1;have L:=ai N.2.2;have Qi:Hid (∀V,Calls prog 289 #[I way] V λe w'=>e=.returned (I (zW way))/\Below V.heap.size V w'):=λV=>(adk way V).mono λe w' ⟨h1,h2⟩=>⟨h1,by grind [Below.refl]⟩
      clear N G;obtain⟨RN,U⟩:=ex (zW way);rw[<- U] at B Qi;clear U;go_wp2_with (go_at_call 77;refine(Q.o _ (HH.o.below HB.o)).mono ?_;rintro e w1 ⟨rfl,b⟩;have cD:=ai (bq HB.o b);have X1:=ai (aU HX.o b (aQ HX.o));clear b;have ZK:=aQ X1.o);obtain⟨W,hW⟩:=ex (w1.alloc (.cells #[I pp,I pn,I pt,.bool pz] 139));have HW:=ai hW;have hs:W.heap.size=w1.heap.size+1:=by simp_all
      have Fs:=kf W;have a0:=@fJ W;have c2:∀x:ed W.heap.size W,x.world.cell? (Ad w1.heap.size 2)=some (I pt):=λx=>by simp_all
      have EC:Hid (Below w.heap.size w W):=by show Below _ _ _;rw[hW];exact cD.o.alloc cD.o.size _
      have XW:Hid (W.heap[w.heap.size]?=some (.cells #[I 0,I 0] 75 (0,0))):=by show _=_;rw[hW];exact bu X1.o _
      clear hW hs a0;rw[<- HW.o];cases hnr:ua pt way with
      | true =>
       rw[hnr] at B;have a3:(bits BinOp.and IntKind.i64 pt RN==RN)=false:=B;have q:=ai (A.o _ (y.o.trans (L.o.1 hnr)) ξ);clear A y L B hnr;refine eT ρ κ ?_
       repeat (first | go_big_quiet_step ((go_at_call 289;exact iP Qi.o _)) | quiet_step ((go_at_call 289;exact iP Qi.o _)))
       refine mM ?_;intro _ O;obtain⟨x,K⟩:=O;subst K;have iJ:=ai (bq EC.o x.keeps);have X2:=ai (aU XW.o x.keeps (aQ XW.o));obtain⟨w2,J⟩:=ex x.world;rw[<- J] at iJ X2 ⊢;clear J c2;obtain⟨x0,x1⟩:=xZ X2.o;have f0:∀k,w2.frozen? (Ad w.heap.size k)=false:=λk=>bG X2.o k
       go_wp2;exact b9 (v:=.agg #[I 2,I (a+k)]) (by simp[results,results283,go_sem,x0,x1]) rfl ⟨by rw[(qH q.o).1,(qH q.o).2],Az iJ.o (aK _) _ _⟩
      | false =>
       rw[hnr] at B;have a3:(bits BinOp.and IntKind.i64 pt RN==RN)=true:=B;have zB:=ai (y.o.trans (L.o.2 hnr));clear A y L B hnr;refine eT ρ κ ?_
       repeat (first | go_big_quiet_step ((go_at_call 289;exact iP Qi.o _)) | quiet_step ((go_at_call 289;exact iP Qi.o _)))
       refine mM ?_;intro _ O;obtain⟨x,K⟩:=O;subst K;have iJ:=ai (bq EC.o x.keeps);have X2:=ai (aU XW.o x.keeps (aQ XW.o));obtain⟨w2,J⟩:=ex x.world;rw[<- J] at iJ X2 ⊢;clear J c2;go_wp2
       grind [intOf,Hid.o]
   have a1:k=size.toNat:=by omega
   have q:Hid ((R1,R2)=(0,0)):=by grind [Hid.o]
   obtain⟨x0,x1⟩:=xZ HX.o;have f0:∀k,wr.frozen? (Ad w.heap.size k)=false:=λk=>bG HX.o k
   clear a1;go_wp2;exact b9 (v:=.agg #[I 0,I 0]) (by simp[results,results283,go_sem,x0,x1]) rfl ⟨by rw[(qH q.o).1,(qH q.o).2],Az HB.o (aK _) _ _⟩
theorem uA {l:List aX} {a n way:Int} (h1:1<=n) (h8:n<=8) (h:(bB l a n way).1=0):bB l a n way=(0,0)/\16<=a/\a+n<=4096/\∀i,0<=i->i<n->(aV l ((a+i)/16)).2=true:=by
 have hb:bB l a n way=cE l a way n.toNat:=by
  unfold bB at h ⊢;by_cases c:way=2/\¬a%8=0
  . rw[aC c] at h;cases h
  rw[aB c]
 rw[hb] at h ⊢;have all:∀m:Nat,(cE l a way m).1=0->cE l a way m=(0,0)/\∀i:Nat,i<m->(lU l (a+i) way).1=0:=λm=>by
  induction m with
  | zero=>intro _;exact⟨rfl,λi hi=>ω⟩
  | succ m ih =>
   intro hm;have h0:(cE l a way m).1=0:=by
    by_cases c:(cE l a way m).1=0
    . exact c
    rw[cE,aB c] at hm;exact hm
   obtain⟨e,hi⟩:=ih h0;rw[AH e] at hm ⊢;refine⟨(rV hm).1,λi hlt=>?_⟩;by_cases c:i=m
   . subst c;exact hm
   exact hi i ω
 obtain⟨e,hi⟩:=all n.toNat h;obtain⟨m,hm⟩:∃m,n.toNat=m+1:=⟨n.toNat-1,ω⟩;have hs:=DK (l:=l) (a:=a) (way:=way) (k:=m) (by rw[<- hm];exact e);refine⟨e,hs.1,ω,λi h0 hn=>?_⟩;have:=hi i.toNat ω;rw[show a+(i.toNat:Int)=a+i by omega] at this;exact(rV this).2.2.1
theorem VN (n way:Int) (h:bR lo mb tt X w S k) (hR:aW k) (hj:j<k.aj.length) (ha:cH a) (hn:1<=n/\n<=8) (hf:(bB (ak k.aj j).aJ a n way).1≠0) :
  Calls prog 272 #[.pointer (some (Ad mb 0)),I (j:Int),I a,I n,I way] w λe w'=>e=.returned (.tuple #[Nl,.agg #[I (bB (ak k.aj j).aJ a n way).1,I (bB (ak k.aj j).aJ a n way).2]])/\Below w.heap.size w w':=by
 have B:=hR.c;obtain⟨pb,cP,A⟩:=h.toKr.sp ω;have c3:=h.c3;rw[A.v] at c3;have a1:=A.x1 j hj;have b:dQ (ak k.aj j).aJ:=gy _ (hR.sp hj).aJ;have IM:=ai (λV (hb:Below w.heap.size w V)=>Ra _ _ a n way V (gD.below (h.toKr.aJ hj) hb) b ha ω);obtain⟨ax,cx,Ie,_,_⟩:=aZ (h.each j hj).aJ;rw[Ie] at IM a1;have G:(j:Int)<(k.aj.length:Int):=by omega
 have Uk:=h.lt;have y:=A.lt;unfold eI at IM;generalize bB (ak k.aj j).aJ a n way=F at IM hf ⊢;obtain⟨f0,f1⟩:=F;simp only at IM hf ⊢;have fb:(f0 != 0)=true:=by simpa using hf
 have fU:=ai ((aN w.heap.size w).alloc (aK _) (.cells #[I 0,I 0] 75));have R0:=ai (bH w #[I 0,I 0] 75);have d3:=(fU.o.cell (p:=(Ad mb 3)) Uk).trans c3;have d1:=(fU.o.cell (p:=(Ad pb (j*3+1))) y).trans a1;generalize k.aj.length=np at d3 G;generalize (ak k.aj j).aJ.length=na at d1 IM;clear h hR hj A c3 a1 b Ie hf B ha hn;go_enter func272,ntmps272;go_upto_region 3 with(go_at_call 283;refine(IM.o _ fU.o).mono ?_;rintro e w1 ⟨rfl,q⟩;have cD:=ai (bq fU.o q);have R1:=ai (aU R0.o q (aQ R0.o));have FX:=ai (bH w1 #[I f0,I f1] 75);obtain⟨y0,y1⟩:=xZ FX.o;clear q);have iQ:=ai (cD.o.alloc cD.o.size (.cells #[I f0,I f1] 75));have ZK:=aQ R1.o;have R2:=ai (bu R1.o (.cells #[I f0,I f1] 75));obtain⟨z0,z1⟩:=xZ R2.o;have q0:=bG R2.o 0;have q1:=bG R2.o 1;have J:¬w.heap.size=w1.heap.size:=by omega
 generalize w1.alloc (.cells #[I f0,I f1] 75)=W at iQ R2 z0 z1 q0 q1 y0 y1 ⊢;go_region;go_wp2;have R3:((W.setCell (Ad w.heap.size 0) (I f0)).setCell (Ad w.heap.size 1) (I f1)).heap[w.heap.size]?=some (.cells #[I f0,I f1] 75 (0,0)):=gH (gH R2.o 0 _) 1 _;obtain⟨v0,v1⟩:=xZ R3;refine b9 (v:=.tuple #[Nl,.agg #[I f0,I f1]]) (by simp[results,results272,go_sem,v0,v1]) rfl ?_;exact⟨rfl,by first | exact((iQ.o.setCell (p:=(Ad w.heap.size 0)) (aK _) _).setCell (p:=(Ad w.heap.size 1)) (aK _) _).drew | exact(iQ.o.setCell (p:=(Ad w.heap.size 0)) (aK _) _).setCell (p:=(Ad w.heap.size 1)) (aK _) _⟩
def CN (a b:Int):Int:=if a<b then -1 else if b<a then 1 else 0
theorem aiM (w:World):Calls prog 215 #[I a] w λe w'=>e=.returned (.bool false)/\w=w':=by
 go_enter func215,ntmps215;go_wp2;go_ret;exact⟨ξ,rfl⟩
theorem W8 (b:Int) (w:World):Calls prog 185 #[I a,I b] w λe w'=>e=.returned (I (CN a b))/\w=w':=by
 have HN:=ai (λx V=>aiM x V);obtain⟨A,hA⟩:=ex (CN a b);rw[<- hA];unfold CN at hA;have HA:=ai hA;clear hA;by_cases h1:a<b
 . have qO:Hid (A=-1):=by show _=_;rw[HA.o,aC h1]
   clear HA;go_enter func185,ntmps185;go_wp2_with (go_at_call 215;refine(HN.o _ _).mono ?_;rintro e w1 ⟨rfl,rfl⟩);go_ret;exact⟨by rw[qO.o];rfl,rfl⟩
 by_cases h2:b<a
 . have qO:Hid (A=1):=by show _=_;rw[HA.o,aB h1,aC h2]
   clear HA;go_enter func185,ntmps185;go_wp2_with (go_at_call 215;refine(HN.o _ _).mono ?_;rintro e w1 ⟨rfl,rfl⟩);go_ret;exact⟨by rw[qO.o];rfl,rfl⟩
 have qO:Hid (A=0):=by show _=_;rw[HA.o,aB h1,aB h2]
 clear HA;go_enter func185,ntmps185;go_wp2_with (go_at_call 215;refine(HN.o _ _).mono ?_;rintro e w1 ⟨rfl,rfl⟩);go_ret;exact⟨by rw[qO.o];rfl,rfl⟩
theorem Zm (d:ByteArray) (q:Int) (w:World):Calls prog 184 #[.agg #[I p,.string d],I q] w λe w'=>e=.returned (I (CN p q))/\Below w.heap.size w w':=by
 have HC:=ai (W8 p q);go_enter func184,ntmps184;go_wp2_with (go_at_call 185;refine(HC.o _).mono ?_;rintro e w1 ⟨rfl,rfl⟩);go_ret;exact⟨rfl,(aN _ _).alloc (aK _) _⟩
structure Fe (l:List dK) (p:Int) (i:Nat):Prop where
 le:i<=l.length
 low:∀j,j<i->(bo l j).page<p
 high:∀j,i<=j->j<l.length->p<=(bo l j).page
def pH (l:List dK) (p:Int) (i:Nat):Bool:=decide (i<l.length/\(bo l i).page=p)
def AA (l:List dK):Prop:=∀i j,i<j->j<l.length->(bo l i).page<(bo l j).page
theorem aiO (b:Int):CN a b<0↔a<b:=by
 unfold CN;split
 . exact⟨λ_=>by assumption,λ_=>Δ⟩
 split <;> constructor <;> intro h <;> first | omega | (exfalso;revert h;decide)
theorem agj (b:Int):(CN a b==0)=decide (a=b):=by
 unfold CN;by_cases h1:a<b
 . rw[aC h1,fE ω];rfl
 rw[aB h1];by_cases h2:b<a
 . rw[aC h2,fE ω];rfl
 rw[aB h2,fD ω];rfl
theorem Zj (l:List dK) (p:Int) (ao:Option Addr) (cap:Nat) (w:World) (h:rU w ao l) (hr:AA l) (hn:l.length<=140737488351232) :
  Calls prog 183 #[.slice ao l.length cap,I p,.func (.func 184) #[] #[]] w λe w'=>∃i,Fe l p i/\e=.returned (.tuple #[I (i:Int),.bool (pH l p i)])/\Below w.heap.size w w':=by
 have HH:=ai h;have HR:=ai hr;have Q:=ai (λa d V=>Zm a d p V);clear h hr;go_enter func183,ntmps183;go_wp2;go_loopw [9,10] (λiv jv wr=>∃lo hi:Nat,lo<=hi/\hi<=l.length/\iv=I (lo:Int)/\jv=I (hi:Int)/\(∀j,j<lo->(bo l j).page<p)/\(∀j,hi<=j->j<l.length->p<=(bo l j).page)/\Below w.heap.size w wr) (λiv jv _=>(intOf jv).toNat-(intOf iv).toNat)
 case atStart=>exact⟨0,l.length,ω,ω,rfl,rfl,λj hj=>ω,λj h1 h2=>ω,aN _ _⟩
 case round =>
  obtain⟨lo,hi,a3,U,rfl,rfl,Ck,T,hb⟩:=hrel;have O:=ai Ck;have L:=ai T;have HB:=ai hb;clear Ck T;by_cases hlt:lo<hi
  . obtain⟨m,hm⟩:=ex ((lo+hi)/2);have yr:lo<=m:=by omega
    have a4:m<hi:=by omega
    have R:((lo:Int)+hi)/2=(m:Int):=by omega
    have B:=ai R;have a1:((lo:Int)+hi)/2<(l.length:Int):=by omega
    have a5:0<=((lo:Int)+hi)/2:=by omega
    have Y:(((lo:Int)+hi)/2).toNat=m:=by omega
    obtain⟨b,off,K,Z,di⟩:=(HH.o.below hb) ω;subst K;obtain⟨c0,c1⟩:=di m ω;have Y6:=ai (aiO (bo l m).page p);have Qj:=ai (Q.o (bo l m).page (bo l m).data);have F:Hid ((bo l m).page<p->∀j,j<m+1->(bo l j).page<p):=λe j hj=>by
     by_cases q:j=m
     . rw[q];exact e
     have:=HR.o j m ω ω;omega
    have J:Hid (¬(bo l m).page<p->∀j,m<=j->j<l.length->p<=(bo l j).page):=λe j h1 h2=>by
     by_cases q:j=m
     . rw[q];omega
     have:=HR.o m j ω h2;omega
    obtain⟨dt,A⟩:=ex ((bo l m).data);generalize (bo l m).page=pg at c0 Y6 Qj F J;rw[<- A] at c1 Qj;rw[hm] at c0 c1;generalize CN pg p=cm at Y6 Qj;clear R hm Y di hb A;by_cases hcn:cm<0
    . have X:=ai (F.o (Y6.o.1 hcn));clear F J;go_wp2_with (go_at_call 184;refine(Qj.o _).mono ?_;rintro e w1 ⟨rfl,y⟩;have cD:=ai (bq HB.o y);clear y);go_roundw
      case rel=>exact⟨m+1,hi,ω,U,dC (Value.int .i64) (by have:=B.o;omega),rfl,X.o,L.o,cD.o⟩
      case measure=>simp[intOf];have:=B.o;omega
    have a0:=ai (J.o (λg=>hcn (Y6.o.2 g)));clear F J;go_wp2_with (go_at_call 184;refine(Qj.o _).mono ?_;rintro e w1 ⟨rfl,y⟩;have cD:=ai (bq HB.o y);clear y);go_roundw
    case rel=>exact⟨lo,m,yr,ω,rfl,dC (Value.int .i64) B.o,O.o,a0.o,cD.o⟩
    case measure=>simp[intOf];have:=B.o;omega
  obtain rfl:lo=hi:=by omega
  have N:Hid (Fe l p lo):=⟨U,O.o,L.o⟩;by_cases IG:lo<l.length
  . obtain⟨b,off,K,Z,di⟩:=(HH.o.below hb) ω;subst K;obtain⟨c0,c1⟩:=di lo IG;have Qj:=ai (Q.o (bo l lo).page (bo l lo).data);have M:=ai (agj (bo l lo).page p);have G:Hid (pH l p lo=decide ((bo l lo).page=p)):=by
     show _=_;unfold pH;rw[decide_eq_decide];exact⟨λg=>g.2,λg=>⟨IG,g⟩⟩
    obtain⟨pg,Gt⟩:=ex ((bo l lo).page);obtain⟨dt,A⟩:=ex ((bo l lo).data);have a6:=G;rw[<- Gt] at c0 Qj M;rw[<- A] at c1 Qj;have W:=ai Gt;clear Gt A di hb hlt;go_wp2_with (go_at_call 184;refine(Qj.o _).mono ?_;rintro e w1 ⟨rfl,y⟩;have cD:=ai (bq HB.o y);clear y)
    go_ret2
    refine⟨lo,N.o,?_,cD.o⟩;rw[G.o,<- W.o,<- M.o];rfl
  have G:Hid (pH l p lo=false):=fE (λg=>IG g.1);have a2:¬(lo:Int)<(l.length:Int):=by omega
  clear hb hlt;go_wp2
  go_ret2
  refine⟨lo,N.o,?_,HB.o⟩;rw[G.o];rfl
theorem Hw (l:List dK) (p:Int) (ao:Option Addr) (cap:Nat) (w:World) (h:rU w ao l) (hr:AA l) (hn:l.length<=140737488351232) :
  Calls prog 127 #[.slice ao l.length cap,I p] w λe w'=>∃i,Fe l p i/\e=.returned (.tuple #[I (i:Int),.bool (pH l p i)])/\Below w.heap.size w w':=by
 have HS:=ai (Zj l p ao cap w h hr hn);clear h hr;go_enter func127,ntmps127;go_wp2_with (go_at_call 183;refine HS.o.mono ?_;rintro e w1 ⟨i,hi,rfl,b⟩;have HL:=ai hi;have cD:=ai b;clear b hi)
 go_ret2
 exact⟨i,HL.o,rfl,cD.o⟩
def cR (p:Int):List dK->Option ByteArray
 | []=>none
 | x::r=>if x.page=p then some x.data else cR p r
theorem Nk:∀(l:List dK) (p:Int) (k:Nat),k<l.length->(∀j,j<k->¬(bo l j).page=p)->(bo l k).page=p->cR p l=some (bo l k).data
 | [],p,k,h,_,_=>by simp at h
 | x::r,p,0,h,_,e=>by
  show(if x.page=p then some x.data else cR p r)=_;rw[aC (show x.page=p from e)];rfl
 | x::r,p,k+1,h,hn,e=>by
  show(if x.page=p then some x.data else cR p r)=_;rw[aB (show ¬x.page=p from hn 0 ω)];exact Nk r p k (by simp at h;omega) (λj hj=>hn (j+1) ω) e
theorem PV:∀(l:List dK) (p:Int),(∀j,j<l.length->¬(bo l j).page=p)->cR p l=none
 | [],p,_=>rfl
 | x::r,p,h=>by
  show(if x.page=p then some x.data else cR p r)=_;rw[aB (show ¬x.page=p from h 0 ξ)];exact PV r p (λj hj=>h (j+1) (by simp;omega))
theorem agh {l:List dK} {p:Int} {i:Nat} (h:Fe l p i) (hr:AA l):cR p l=if pH l p i=true then some (bo l i).data else none:=by
 by_cases c:i<l.length/\(bo l i).page=p
 . have e:pH l p i=true:=fD c;rw[aC e];exact Nk l p i c.1 (λj hj g=>by have:=h.low j hj;omega) c.2
 have e:pH l p i=false:=fE c;rw[e];refine PV l p (λj hj g=>?_);by_cases q:j<i
 . have:=h.low j q;omega
 by_cases q2:j=i
 . subst q2;exact c ⟨hj,g⟩
 have h1:=h.high i (aK _) ω;have h2:=hr i j ω hj;omega
theorem Ms {l:List dK} (h:(bX l).Pairwise (·<·)):AA l:=λi j hij hj=>by
 have hl:(bX l).length=l.length:=fI _;have:=aja.1 h i j ω ω hij;rw[<- AG,<- AG,cB,cB,fF (ω:i<(bX l).length),fF (ω:j<(bX l).length)];exact this
theorem Zk {s:ek} (h:bW s=true):AA s.aD:=by
 unfold bW at h;cases hl:s.live with
 | true =>
  rw[hl] at h;simp only[vK,cK,fX] at h;apply Ms;rw[h.2.1];exact(nZ h.1).sorted
 | false =>
  rw[hl] at h;simp only[Ky,qY,cK,fX] at h;intro i j _ hj;omega
theorem TB {f:ky} (h:fQ f=0) (k:Nat) (hk:k<f.aj.length):bW (aI f.aj k)=true:=by
 unfold fQ at h;split at h
 . cases h
 split at h
 . rename_i g
   unfold mI at g;simp only[cK] at g;refine nB.1 g.1.1 _ ?_;unfold aI;rw[cB,fF hk];exact Gk hk
 cases h
def F6 (f:ky) (sp pg:Int):ByteArray×Int :=
 if fQ f=0 then (if 0<=sp/\sp<(f.aj.length:Int) then (match cR pg (aI f.aj sp.toNat).aD with
   | none=>(⟨#[]⟩,6)
   | some d=>(d,0)) else (⟨#[]⟩,6))
 else (⟨#[]⟩,fQ f)
theorem agi (f:ky) (sp pg:Int) (az ar ao:Option Addr) (cs cr co:Nat) (w:World) (h:qF w f az ar ao) (hf:F8 f) :
  Calls prog 75 #[.agg (kZ f az ar ao cs cr co),I sp,I pg] w λe w'=>e=.returned (.tuple #[.string (F6 f sp pg).1,I (F6 f sp pg).2])/\Below w.heap.size w w':=by
 have ym:=ai (λV (hV:Below w.heap.size w V)=>PW f az ar ao cs cr co V (h.below hV) hf);have HH:=ai h;have HF:=ai hf;have Ir:=ai (λ(g:fQ f=0) k hk=>Zk (TB g k hk));have HK:Hid (F6 f sp pg=if fQ f=0 then (if 0<=sp/\sp<(f.aj.length:Int) then (match cR pg (aI f.aj sp.toNat).aD with | none=>(⟨#[]⟩,6) | some d=>(d,0)) else (⟨#[]⟩,6)) else (⟨#[]⟩,fQ f)):=rfl;obtain⟨⟨R1,R2⟩,hR⟩:∃R,R=F6 f sp pg:=⟨_,rfl⟩;rw[<- hR] at HK ⊢;obtain⟨C,hC⟩:=ex (fQ f);rw[<- hC] at HK ym Ir;clear hR hC h hf;simp only;unfold kZ at ym ⊢;have X:f.aj.length<=140737488351232:=HF.o.aj.1;have fU:=ai ((aN w.heap.size w).alloc (aK _) (.cells #[I f.slots,.slice az f.aj.length cs,.slice ar f.procs.length cr,.slice ao f.out.length co] 62));have X0:=ai (bH w #[I f.slots,.slice az f.aj.length cs,.slice ar f.procs.length cr,.slice ao f.out.length co] 62);obtain⟨ns,B⟩:=ex f.aj.length;have Q:=ai B;obtain⟨no,K⟩:=ex f.out.length;obtain⟨sl,N⟩:=ex f.slots;generalize f.procs.length=nr at ym fU X0 ⊢;rw[<- B,<- K,<- N] at ym fU X0 ⊢;rw[<- B] at HK Ir X;clear B K N;by_cases hC:C=0
 . subst hC;have uD:=HK.o;rw[aC rfl] at uD;have Ez:=ai uD;clear HK uD;by_cases h0:sp<0
   . have HA:Hid ((R1,R2)=(⟨#[]⟩,6)):=by show _=_;rw[Ez.o,aB ω]
     clear Ez Ir;go_enter func75,ntmps75;go_wp2_with (go_at_call 125;refine(ym.o _ fU.o).mono ?_;rintro e w1 ⟨rfl,q⟩;have cD:=ai (bq fU.o q);clear q)
     go_ret2
     exact⟨by rw[(qH HA.o).1,(qH HA.o).2];rfl,cD.o⟩
   by_cases h1:(ns:Int)<=sp
   . have HA:Hid ((R1,R2)=(⟨#[]⟩,6)):=by show _=_;rw[Ez.o,aB ω]
     clear Ez Ir;go_enter func75,ntmps75;go_wp2_with (go_at_call 125;refine(ym.o _ fU.o).mono ?_;rintro e w1 ⟨rfl,q⟩;have cD:=ai (bq fU.o q);have X1:=ai (aU X0.o q (aQ X0.o));clear q;have x1:w1.cell? (Ad w.heap.size 1)=some (.slice az ns cs):=aA X1.o 1 rfl)
     go_ret2
     exact⟨by rw[(qH HA.o).1,(qH HA.o).2];rfl,cD.o⟩
   obtain⟨k,rfl⟩:∃k:Nat,sp=(k:Int):=⟨sp.toNat,ω⟩;have O:k<ns:=by omega
   have WG:=Ez.o;rw[aC ω,jW] at WG;have y:=ai WG;have G:k<f.aj.length:=by rw[<- Q.o];exact O
   have J:=ai (Ir.o rfl k O);obtain⟨b,off,W,Z,di⟩:=HH.o.aj ω;subst W;obtain⟨va,ap,cp,c0,c1,c2,c3,c4,c5⟩:=di k G;have Qf:=HF.o.aj.2 k G;have L:Hid (∀V,Below w.heap.size w V->Calls prog 127 #[.slice ap (aI f.aj k).aD.length cp,I pg] V λe w'=>∃i,Fe (aI f.aj k).aD pg i/\e=.returned (.tuple #[I (i:Int),.bool (pH (aI f.aj k).aD pg i)])/\Below V.heap.size V w'):=λV hV=>Hw _ pg ap cp V (c4.below hV) J.o Qf.aD
   have M:=ai c4;have jc:=ai Z;have uM:=ai c2;have T:(aI f.aj k).aD.length<=140737488351232:=Qf.aD;clear Ez WG Ir di c0 c1 c2 c3 c4 c5 Qf h0 h1 HF HH G;generalize (aI f.aj k).aD=ps at y J L M uM T;go_enter func75,ntmps75;go_wp2_with (go_at_call 125;refine(ym.o _ fU.o).mono ?_;rintro e w1 ⟨rfl,q⟩;have cD:=ai (bq fU.o q);have X1:=ai (aU X0.o q (aQ X0.o));clear q;have x1:w1.cell? (Ad w.heap.size 1)=some (.slice (some (Ad b off)) ns cs):=aA X1.o 1 rfl;have y2:w1.cell? (Ad b (off+k*3+2))=some (.slice ap ps.length cp):=(cD.o.cell (p:=(Ad b (off+k*3+2))) jc.o).trans uM.o);refine(L.o _ cD.o).mono ?_;rintro e w2 ⟨i,hi,rfl,F⟩;have a1:=ai hi;have iJ:=ai (bq cD.o F);have X2:=ai (aU X1.o F (aQ X1.o));have z1:w2.cell? (Ad w.heap.size 1)=some (.slice (some (Ad b off)) ns cs):=aA X2.o 1 rfl;have z2:w2.cell? (Ad b (off+k*3+2))=some (.slice ap ps.length cp):=(iJ.o.cell (p:=(Ad b (off+k*3+2))) jc.o).trans uM.o;have Px:=ai (agh hi J.o);have A:Hid (pH ps pg i=true->i<ps.length):=λg=>(jY g).1
   generalize pH ps pg i=fd at Px A ⊢;clear F hi x1 y2;cases fd with
   | false =>
    have HA:Hid ((R1,R2)=(⟨#[]⟩,6)):=by
     show _=_;rw[y.o,Px.o];rfl
    clear y Px A;go_wp2
    go_ret2
    exact⟨by rw[(qH HA.o).1,(qH HA.o).2];rfl,iJ.o⟩
   | true =>
    have U:=A.o rfl;have HA:Hid ((R1,R2)=((bo ps i).data,0)):=by
     show _=_;rw[y.o,Px.o];rfl
    obtain⟨b2,a2,Y,a0,IQ⟩:=(M.o.below iJ.o) ω;subst Y;obtain⟨d0,d1⟩:=IQ i U;generalize (bo ps i).data=dt at HA d1;clear y Px A IQ d0;go_wp2
    go_ret2
    exact⟨by rw[(qH HA.o).1,(qH HA.o).2];rfl,iJ.o⟩
 have HA:Hid ((R1,R2)=(⟨#[]⟩,C)):=by show _=_;rw[HK.o,aB hC]
 have a3:(C==0)=false:=by rw[gT];exact hC
 clear HK Ir hC;go_enter func75,ntmps75;go_wp2_with (go_at_call 125;refine(ym.o _ fU.o).mono ?_;rintro e w1 ⟨rfl,q⟩;have cD:=ai (bq fU.o q);clear q)
 go_ret2
 exact⟨by rw[(qH HA.o).1,(qH HA.o).2];rfl,cD.o⟩
end Go.Proofs.YtlgoihmkgaaemaaGreat
