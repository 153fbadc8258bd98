import Derived.Test.YtlgoihmkgaaemaaGreatGP19
set_option maxHeartbeats 20000000
set_option linter.unusedVariables false
set_option maxRecDepth 100000
set_option linter.unusedSimpArgs false
namespace Go.Proofs.YtlgoihmkgaaemaaGreat
open Go.RowKit Tryz
variable {lo mb:Nat} {tt:TypeId} {X:List Value} (k:aT) (S:gv) (w:World) (j:Nat) (p:Int) (held:List Int) (ah:Option Addr) (ch:Nat)
theorem Ge (x e:bK):gA (ek k e) j x=ek (gA k j x) e:=by grind [ek,gA]
def Lp (X:List Value) (hs:List bD):Prop:=∀n:Nat,n<256->X[n]?=some (.string (fE hs n))
theorem JJ (h:bO lo mb tt X w S k) (hR:bg k) (hj:j<k.aj.length) :
  Calls prog 129 #[.pointer (some (Ad mb 0)),I (j:Int),I p] w λe w'=>e=.returned (.tuple #[tC (nX (ak k.aj j).bl p).1,.bool (nX (ak k.aj j).bl p).2])/\Below w.heap.size w w':=by
 have q:=hR.c;have r:=oP hR hj;obtain⟨pb,cP,A⟩:=h.toKr.sp ω;obtain⟨ae,ce,Tn,b⟩:=h.toKr.bl hj;have c3:=h.c3;rw[A.v] at c3;have a2:=A.x2 j hj;rw[Tn] at a2;have e0:0+j*3+2=j*3+2:=by omega
 exact XE (ak k.aj j).bl p j k.aj.length mb pb 0 cP ae ce w c3 hj Γ b ω ω
theorem Pp (e:bK) (h:bO lo mb tt X w S k) (hR:bg k) (hj:j<k.aj.length) (he:bH (ak k.aj j).bl p=some e) (hk:e.kind=1) :
  Calls prog 290 #[.pointer (some (Ad mb 0)),I (j:Int),I p,.slice ah held.length ch] w (fP lo mb tt X w S (I ((dI k j p held).1:Int)) (dI k j p held).2):=by
 have vt:=ai (JJ k S w j p h hR hj);have e1:nX (ak k.aj j).bl p=(e,true):=by grind [nX]
 rw[e1] at vt;have hP:dI k j p held=(e.loc.toNat,k):=by
  grind [dI]
 have hb:=(jO hR hj (oq he)).resolve_right (λy=>ω);rw[hP];have eW:Hid (∀V,Below w.heap.size w V->fP lo mb tt X w S (I ((e.loc.toNat:Nat):Int)) k (.returned (I e.loc)) V):=λV hV=>⟨Γ,S,h.below hV,cU.below hV⟩
 obtain⟨P,b⟩:=ex (fP lo mb tt X w S (I ((e.loc.toNat:Nat):Int)) k);rw[<- b] at eW ⊢;obtain⟨pg,kd,lc⟩:=e;unfold tC at vt;simp only at vt eW hk;have kb:(kd==1)=true:=by grind
 clear hP b e1 he h hR hj hb hk;go_enter func290,ntmps290;go_wp2_with (go_at_call 129;refine vt.o.mono ?_;rintro r w1 ⟨rfl,q⟩;have dz:=ai q;have BX:=bG w1 #[I pg,I kd,I lc] 174;obtain⟨d0,d1,d2⟩:=uo BX;clear q BX);exact eW.o _ (dz.o.alloc dz.o.size _)
theorem JH (e:bK) (h:bO lo mb tt X w S k) (hR:bg k) (hj:j<k.aj.length) (he:bH (ak k.aj j).bl p=some e) (hk:e.kind≠1) (hl:held.length<=2) (hH:nW w S ah held) :
  Calls prog 290 #[.pointer (some (Ad mb 0)),I (j:Int),I p,.slice ah held.length ch] w (fP lo mb tt X w S (I ((dI k j p held).1:Int)) (dI k j p held).2):=by
 have vt:=ai (JJ k S w j p h hR hj);have e1:nX (ak k.aj j).bl p=(e,true):=by grind [nX]
 rw[e1] at vt;have hP:dI k j p held=((bT k held).1,ft (bT k held).2 j p (bT k held).1 (bI (bT k held).2.slots e.loc.toNat).data true):=by
  grind [dI]
 have hb:=(jO hR hj (oq he)).resolve_left (λy=>hk y.1);have G:=tI hR hl;have W:bH (ak (bT k held).2.aj j).bl p=some e:=by grind [ux.MQ]
 have a6:ft (bT k held).2 j p (bT k held).1 (bI (bT k held).2.slots e.loc.toNat).data true=gA (ek (jb (bT k held).2 (bT k held).1 (bI (bT k held).2.slots e.loc.toNat).data true) e) j ⟨p,1,(bT k held).1⟩:=by
  grind [Ge,ft]
 rw[hP,a6];have af:=hR.c;have L:j<(bT k held).2.aj.length:=by rw[G.kept.np];exact hj
 have b:(bT k held).1<(bT k held).2.frames.length:=by rw[G.kept.nf];exact G.lt
 have B:e.loc.toNat<(bT k held).2.slots.length:=by rw[G.kept.ns];omega
 have a2:=(yO G.right).2 e.loc.toNat B;have a5:=oP G.right L;have R:=G.kept.np;have a9:Hid (∀V,Below w.heap.size w V->Calls prog 292 #[.pointer (some (Ad mb 0)),.slice ah held.length ch] V (fP lo mb tt X V S (I ((bT k held).1:Int)) (bT k held).2)):=λV hV=>JI k S V held ah ch (h.below hV) hR hl (hH.ch (cU.below hV))
 obtain⟨k1,q⟩:=ex ((bT k held).2);obtain⟨i,hi⟩:=ex ((bT k held).1);rw[<- q,<- hi] at a9 b;rw[<- q] at B a2 L a5 R;rw[<- q,<- hi];obtain⟨D,hD⟩:=ex ((bI k1.slots e.loc.toNat).data);rw[<- hD];have MI:Hid (∀V S',bO lo mb tt X V S' k1->∃fb cF lb cL,V.cell? (Ad mb 1)=some (.slice (some (Ad fb 0)) k1.frames.length cF)/\V.cell? (Ad mb 2)=some (.slice (some (Ad lb 0)) k1.slots.length cL)/\V.cell? (Ad lb (e.loc.toNat*2))=some (.string D)/\V.cell? (Ad fb (i*4))=some (.string (aK k1.frames i).data)/\V.cell? (Ad fb (i*4+1))=some (I (aK k1.frames i).refs)/\V.cell? (Ad fb (i*4+2))=some (.bool (aK k1.frames i).ja)/\V.cell? (Ad fb (i*4+3))=some (.bool (aK k1.frames i).seen)/\V.frozen? (Ad fb (i*4))=false/\V.frozen? (Ad fb (i*4+1))=false/\V.frozen? (Ad fb (i*4+2))=false/\V.frozen? (Ad fb (i*4+3))=false /\
   (∀U,U=((((V.setCell (Ad fb (i*4)) (.string D)).setCell (Ad fb (i*4+1)) (I 1)).setCell (Ad fb (i*4+2)) (.bool true)).setCell (Ad fb (i*4+3)) (.bool false)).drew->bO lo mb tt X U S' (jb k1 i D true)/\cU S' V S' U)):=λV S' hV=>by
  obtain⟨fb,cF,A⟩:=hV.toKr.fr ω;obtain⟨lb,cL,AL⟩:=hV.toKr.sl ω;have c1:=hV.c1;have c2:=hV.c2;rw[A.v] at c1;rw[AL.v] at c2;refine⟨fb,cF,lb,cL,c1,c2,by rw[hD];exact AL.x0 _ B,A.x0 i b,A.x1 i b,A.x2 i b,A.x3 i b,A.fz _,A.fz _,A.fz _,A.fz _,λU hU=>?_⟩;have m:=hV.ahg A.v b ⟨D,1,true,false⟩;subst hU;exact⟨m.1.below (aN _ _).drew,m.2.trans (cU.below (aN _ _).drew)⟩
 have F:Hid (∀V S',bO lo mb tt X V S' (jb k1 i D true)->Calls prog 270 #[.pointer (some (Ad mb 0)),.agg #[I e.page,I e.kind,I e.loc],I (-1)] V (mU lo mb tt X V S' (.tuple #[]) (ek (jb k1 i D true) e))):=λV S' hV=>by
  rw[<- GF];refine Et _ S' V e (-1) hV (λc=>absurd c hk) (λ_=>?_) (.inr rfl) ⟨λc=>absurd c hk,λ_=>?_⟩
  . show 0<=e.loc/\e.loc<(k1.slots.length:Int);omega
  show -1000000<=(bI k1.slots e.loc.toNat).refs/\(bI k1.slots e.loc.toNat).refs<=1000000;omega
 have N:Hid (∀V S',bO lo mb tt X V S' (ek (jb k1 i D true) e)->Calls prog 293 #[.pointer (some (Ad mb 0)),I (j:Int),.agg #[I p,I 1,I (i:Int)]] V (fP lo mb tt X V S' (.tuple #[]) (gA (ek (jb k1 i D true) e) j ⟨p,1,i⟩))):=λV S' hV=>by
  have an:(ek (jb k1 i D true) e).aj=k1.aj:=Fl _ _;exact Es _ S' V j ⟨p,1,i⟩ hV Γ Γ Γ
 have eW:Hid (∀V S',bO lo mb tt X V S' (gA (ek (jb k1 i D true) e) j ⟨p,1,i⟩)->cU S w S' V->fP lo mb tt X w S (I (i:Int)) (gA (ek (jb k1 i D true) e) j ⟨p,1,i⟩) (.returned (I (i:Int))) V):=λV S' h1 h2=>⟨rfl,S',h1,h2⟩
 obtain⟨K3,aa⟩:=ex (gA (ek (jb k1 i D true) e) j ⟨p,1,i⟩);rw[<- aa] at N eW ⊢;obtain⟨K2,a3⟩:=ex (ek (jb k1 i D true) e);rw[<- a3] at F N;obtain⟨K1,Z⟩:=ex (jb k1 i D true);rw[<- Z] at MI F;obtain⟨P,a1⟩:=ex (fP lo mb tt X w S (I (i:Int)) K3);rw[<- a1] at eW ⊢;have sS:Hid (∀V:World,w.heap.size<=V.heap.size->S.lab V.heap.size=.no):=λV hV=>h.toKr.new hV
 obtain⟨FR,ab⟩:=ex (aK k1.frames i);rw[<- ab] at MI;obtain⟨nf,Ju⟩:=ex k1.frames.length;obtain⟨nl,Q⟩:=ex k1.slots.length;rw[<- Ju,<- Q] at MI;obtain⟨m,hm⟩:∃m:Nat,e.loc=(m:Int):=⟨e.loc.toNat,ω⟩;rw[hm,kq] at MI;have ap:(m:Int)<(nl:Int):=by omega
 have ao:(i:Int)<(nf:Int):=by omega
 obtain⟨pg,kd,lc⟩:=e;unfold tC at vt;simp only at vt hk F hm;subst hm;have kb:(kd==1)=false:=by simpa using hk
 clear hP a1 e1 he h hR hj hb hk G W a6 af L b B a2 a5 R q hi hD aa a3 Z hH hl ab Ju Q;go_enter func290,ntmps290;go_upto_region 6 with(first
  | (go_at_call 129;refine vt.o.mono ?_;rintro r w1 ⟨rfl,M⟩;have dz:=ai M;have jo:=ai (dz.o.alloc dz.o.size (.cells #[I pg,I kd,I (m:Int)] 174));have BX:=ai (bG w1 #[I pg,I kd,I (m:Int)] 174);obtain⟨d0,d1,d2⟩:=uo BX.o;have Th:=ai (sS.o w1 M.size);clear M)
  | (go_at_call 292;refine(a9.o _ jo.o).mono ?_;rintro r w2 ⟨rfl,S2,a0,J⟩;have Aa:=ai a0;have vd:=ai ((cU.below jo.o).trans J);have a4:=ai (J.keep BX.o Th.o);have Nt:=ai (J.no _ (aM BX.o) Th.o);clear a0 J d0 d1 d2))
 obtain⟨fb,cF,lb,cL,g1,g2,g3,g4,g5,g6,g7,g8,g9,ag,ac,K⟩:=MI.o w2 S2 Aa.o;obtain⟨d0,d1,d2⟩:=uo a4.o;obtain⟨U,hU⟩:=ex (((((w2.setCell (Ad fb (i*4)) (.string D)).setCell (Ad fb (i*4+1)) (I 1)).setCell (Ad fb (i*4+2)) (.bool true)).setCell (Ad fb (i*4+3)) (.bool false)).drew);obtain⟨Y,O⟩:=K U hU;have HU:=ai hU;have H8:=ai Y;have DY:=ai (vd.o.trans O);have ad:=ai (O.keep a4.o Nt.o);clear K hU Y O;go_region;rw[<- HU.o];clear g1 g2 g3 g4 g5 g6 g7 g8 g9 ag ac d0 d1 d2 HU;obtain⟨d0,d1,d2⟩:=uo ad.o;go_wp2_with (first
  | (go_at_call 270;refine(F.o _ _ H8.o).mono ?_;rintro r w4 ⟨rfl,T,Zv⟩;have am:=ai T;have ZH:=ai (DY.o.trans Zv);clear T Zv)
  | (go_at_call 293;refine(N.o _ _ am.o).mono ?_;rintro r w5 ⟨rfl,S5,a7,a8⟩;have ae:=ai a7;have al:=ai (ZH.o.trans a8);clear a7 a8))
 exact eW.o _ _ ae.o al.o
theorem agc {U:World} {S:gv} {k:aT} (h:bO lo mb tt X U.drew S k):bO lo mb tt X U S k:=h.kp (E:=λ_=>False) ⟨rfl,rfl,rfl,aJ _,λ_ _ _=>rfl⟩ (λ_ _ g=>g)
theorem Xt {S S':gv} {w U:World} (h:cU S w S' U.drew):cU S w S' U:=⟨⟨h.kp.os,h.kp.tape,h.kp.output,h.kp.size,h.kp.block⟩,h.no,h.eS,h.eF,h.eL,h.eP⟩
theorem Po (h:bO lo mb tt X w S k) (hR:bg k) (hj:j<k.aj.length) (he:bH (ak k.aj j).bl p=none) (hp:eZ k j p) (hX:Lp X k.aD) (hl:held.length<=2) (hH:nW w S ah held) :
  Calls prog 290 #[.pointer (some (Ad mb 0)),I (j:Int),I p,.slice ah held.length ch] w (fP lo mb tt X w S (I ((dI k j p held).1:Int)) (dI k j p held).2):=by
 have vt:=ai (JJ k S w j p h hR hj);have e1:nX (ak k.aj j).bl p=(gJ,false):=by grind [nX]
 rw[e1] at vt;have G:=tI hR hl;have hP:dI k j p held=((bT k held).1,ft (bT k held).2 j p (bT k held).1 (fM (bT k held).2.aD p (sI (bT k held).2 j p)) false):=by
  grind [dI]
 have Y:bH (ak (bT k held).2.aj j).bl p=none:=by grind [ux.MQ]
 have an:ft (bT k held).2 j p (bT k held).1 (fM (bT k held).2.aD p (sI (bT k held).2 j p)) false=gA (jb (bT k held).2 (bT k held).1 (fM (bT k held).2.aD p (sI (bT k held).2 j p)) false) j ⟨p,1,(bT k held).1⟩:=by
  grind [ft]
 rw[hP,an];have Ib:=nA hp;have J:=G.kept.aD;have K:dG (ak (bT k held).2.aj j).bu:=by
  have:=(G.right.sp (by rw[G.kept.np];exact hj)).bu;exact kH _ this
 have aJ:=hR.c;have q:j<(bT k held).2.aj.length:=by rw[G.kept.np];exact hj
 have b:(bT k held).1<(bT k held).2.frames.length:=by rw[G.kept.nf];exact G.lt
 have ae:=oP G.right q;have R:=G.kept.np;have ar:Hid (∀V,Below w.heap.size w V->Calls prog 292 #[.pointer (some (Ad mb 0)),.slice ah held.length ch] V (fP lo mb tt X V S (I ((bT k held).1:Int)) (bT k held).2)):=λV hV=>JI k S V held ah ch (h.below hV) hR hl (hH.ch (cU.below hV))
 obtain⟨k1,y⟩:=ex ((bT k held).2);obtain⟨i,hi⟩:=ex ((bT k held).1);rw[<- y,<- hi] at ar b;rw[<- y] at q ae R J K;rw[<- y,<- hi];obtain⟨D,hD⟩:=ex (fM k1.aD p (sI k1 j p));rw[<- hD];have MI:Hid (∀V S',bO lo mb tt X V S' k1->∃fb cF pb cP va,¬mb=fb/\V.cell? (Ad mb 1)=some (.slice (some (Ad fb 0)) k1.frames.length cF)/\V.cell? (Ad mb 3)=some (.slice (some (Ad pb 0)) k1.aj.length cP)/\V.cell? (Ad pb (j*3+1))=some va/\(∃ax nx cx,va=.slice ax nx cx)/\(∀V',Below V.heap.size V V'->Calls prog 77 #[va,I p] V' λe w'=>e=.returned (.tuple #[.agg (ou (bc (ak k1.aj j).bu p).1),.bool (bc (ak k1.aj j).bu p).2])/\Below V'.heap.size V' w')/\(∀V',Below V.heap.size V V'->Calls prog 130 #[.pointer (some (Ad mb 0)),I p,.bool (bc (ak k1.aj j).bu p).1.zero] V' λe w'=>e=.returned (.string D)/\Below V'.heap.size V' w')/\V.cell? (Ad fb (i*4))=some (.string (aK k1.frames i).data)/\V.cell? (Ad fb (i*4+1))=some (I (aK k1.frames i).refs)/\V.cell? (Ad fb (i*4+2))=some (.bool (aK k1.frames i).ja)/\V.cell? (Ad fb (i*4+3))=some (.bool (aK k1.frames i).seen)/\V.frozen? (Ad fb (i*4))=false/\V.frozen? (Ad fb (i*4+1))=false/\V.frozen? (Ad fb (i*4+2))=false/\V.frozen? (Ad fb (i*4+3))=false /\
   (∀U,U=((((V.setCell (Ad fb (i*4)) (.string D)).setCell (Ad fb (i*4+1)) (I 1)).setCell (Ad fb (i*4+2)) (.bool false)).setCell (Ad fb (i*4+3)) (.bool false)).drew->bO lo mb tt X U S' (jb k1 i D false)/\cU S' V S' U)):=λV S' hV=>by
  obtain⟨fb,cF,A⟩:=hV.toKr.fr ω;obtain⟨pb,cP,AL⟩:=hV.toKr.sp ω;have c1:=hV.c1;have c2:=hV.c3;rw[A.v] at c1;rw[AL.v] at c2;refine⟨fb,cF,pb,cP,(fQ S'.L j).va,λe=>by have:=A.lab;rw[<- e,hV.lH] at this;grind,c1,c2,AL.x1 j q,?_,λV' hb=>zg _ _ p V' (eN.below (hV.toKr.bu q) hb) K,λV' hb=>?_,A.x0 i b,A.x1 i b,A.x2 i b,A.x3 i b,A.fz _,A.fz _,A.fz _,A.fz _,λU hU=>?_⟩
  . obtain⟨ax,cx,Ec,_,_⟩:=bh (hV.each j q).bu
    grind
  . rw[hD,J];have aQ:=hV.below hb;exact Oj k.aD p _ mb V' (λn hn=>aQ.cx n (hX n hn)) ω
  have m:=hV.ahg A.v b ⟨D,1,false,false⟩;subst hU;exact⟨m.1.below (aN _ _).drew,m.2.trans (cU.below (aN _ _).drew)⟩
 have M:Hid (∀V S',bO lo mb tt X V S' (jb k1 i D false)->Calls prog 293 #[.pointer (some (Ad mb 0)),I (j:Int),.agg #[I p,I 1,I (i:Int)]] V (fP lo mb tt X V S' (.tuple #[]) (gA (jb k1 i D false) j ⟨p,1,i⟩))):=λV S' hV=>by
  have b1:(jb k1 i D false).aj=k1.aj:=rfl;exact Es _ S' V j ⟨p,1,i⟩ hV Γ Γ Γ
 have eW:Hid (∀V S',bO lo mb tt X V S' (gA (jb k1 i D false) j ⟨p,1,i⟩)->cU S w S' V->fP lo mb tt X w S (I (i:Int)) (gA (jb k1 i D false) j ⟨p,1,i⟩) (.returned (I (i:Int))) V):=λV S' h1 h2=>⟨rfl,S',h1,h2⟩
 obtain⟨K3,au⟩:=ex (gA (jb k1 i D false) j ⟨p,1,i⟩);rw[<- au] at M eW ⊢;obtain⟨K1,Z⟩:=ex (jb k1 i D false);rw[<- Z] at MI M;obtain⟨P,ab⟩:=ex (fP lo mb tt X w S (I (i:Int)) K3);rw[<- ab] at eW ⊢;obtain⟨FR,al⟩:=ex (aK k1.frames i);rw[<- al] at MI;obtain⟨nf,Ju⟩:=ex k1.frames.length;obtain⟨np,FC⟩:=ex k1.aj.length;rw[<- Ju,<- FC] at MI;have b3:(j:Int)<(np:Int):=by omega
 have b5:(i:Int)<(nf:Int):=by omega
 obtain⟨AR,ad⟩:=ex (bc (ak k1.aj j).bu p);rw[<- ad] at MI;obtain⟨⟨q0,q1,q2,q3⟩,q4⟩:=AR;unfold tC at vt;unfold ou at MI;simp only[gJ] at vt MI;clear hP ab e1 he h hR hj G Y an aJ q b ae R y hi hD au Z hH hl al Ju FC ad hX J K;go_enter func290,ntmps290;go_upto_region 8 with(first
  | (go_at_call 129;refine vt.o.mono ?_;rintro r w1 ⟨rfl,ac⟩;have dz:=ai ac;have jo:=ai (dz.o.alloc dz.o.size (.cells #[I 0,I 0,I 0] 174));have BX:=ai (bG w1 #[I 0,I 0,I 0] 174);obtain⟨d0,d1,d2⟩:=uo BX.o;clear ac)
  | (go_at_call 292;refine(ar.o _ jo.o).mono ?_;rintro r w2 ⟨rfl,S2,a9,az⟩;have Aa:=ai a9;have vd:=ai ((cU.below jo.o).trans az);clear a9 az d0 d1 d2))
 obtain⟨fb,cF,pb,cP,va,F,g1,g2,g3,⟨ax,nx,cx,Ec⟩,aw,am,g4,g5,g6,g7,g8,g9,aL,aE,ag⟩:=MI.o w2 S2 Aa.o;subst Ec;have Tj:=ai (aw w2 (aN _ _));have ao:=ai am;have Xw:=ai (λV (hb:Below w2.heap.size w2 V)=>MI.o V S2 (Aa.o.below hb));have Js:=nu w2 _ g4;have NQ:=nu w2 _ g1;have Js:fb<w2.heap.size:=Js;have NQ:mb<w2.heap.size:=NQ;clear aw am g4 g5 g6 g7 g8 g9 aL aE ag;have ay:Hid (∀V,Below w2.heap.size w2 V->V.cell? (Ad fb (i*4))=some (.string FR.data)/\V.cell? (Ad fb (i*4+1))=some (I FR.refs)/\V.cell? (Ad fb (i*4+2))=some (.bool FR.ja)/\V.cell? (Ad fb (i*4+3))=some (.bool FR.seen)/\V.frozen? (Ad fb (i*4))=false/\V.frozen? (Ad fb (i*4+1))=false/\V.frozen? (Ad fb (i*4+2))=false/\V.frozen? (Ad fb (i*4+3))=false/\(∀U,U=((((V.setCell (Ad fb (i*4)) (.string D)).setCell (Ad fb (i*4+1)) (I 1)).setCell (Ad fb (i*4+2)) (.bool false)).setCell (Ad fb (i*4+3)) (.bool false))->bO lo mb tt X U S2 K1/\cU S w S2 U)):=λV hb=>by
  obtain⟨aP,b2,b6,b4,aY,_,z1,_,_,_,_,_,z4,z5,z6,z7,z8,z9,N,O,aH⟩:=Xw.o V hb;have e:aP=fb:=by
   rw[(hb.cell (p:=(Ad mb 1)) NQ).trans g1] at z1;injection z1 with z1;injection z1 with e1 _ _;injection e1 with e1;injection e1 with e1 _ _;omega
  subst e;refine⟨z4,z5,z6,z7,z8,z9,N,O,λU hU=>?_⟩;obtain⟨q1,q2⟩:=aH U.drew (by rw[hU]);exact⟨agc q1,(vd.o.trans (cU.below hb)).trans (Xt q2)⟩
 clear Xw MI;go_upto_region 9 with(go_at_call 77;refine Tj.o.mono ?_;rintro r w3 ⟨rfl,ap⟩;have kE:=ai ap;clear ap);have EO:=ai (kE.o.alloc kE.o.size (.cells #[I q0,I q1,I q2,.bool q3] 139));have AX:=ai (bG w3 #[I q0,I q1,I q2,.bool q3] 139);have b0:=kE.o.size;obtain⟨W,hW⟩:=ex (w3.alloc (.cells #[I q0,I q1,I q2,.bool q3] 139));obtain⟨xb,O7⟩:=ex w3.heap.size;rw[<- hW] at EO AX ⊢;rw[<- O7] at AX ⊢;have B:¬xb=fb:=by omega
 clear hW O7;have HS:Hid (∀V,Below W.heap.size W V->V.cell? (Ad mb 1)=some (.slice (some (Ad fb 0)) nf cF)/\V.cell? (Ad xb 3)=some (.bool q3)):=λV hb=>⟨((EO.o.trans (hb.mono EO.o.size)).cell (p:=(Ad mb 1)) NQ).trans g1,aA (aO AX.o hb (aM AX.o)) 3 rfl⟩
 have xB:=ai (aN W.heap.size W).drew;have o5:=ai (HS.o _ xB.o);have aC:Hid (∀V,Below W.heap.size W V->Calls prog 130 #[.pointer (some (Ad mb 0)),I p,.bool q3] V λe w'=>e=.returned (.string D)/\Below V.heap.size V w'):=λV hb=>ao.o V (EO.o.trans (hb.mono EO.o.size))
 have av:Hid (∀V:World,(V.cell? (Ad mb 1)=some (.slice (some (Ad fb 0)) nf cF)/\V.cell? (Ad xb 3)=some (.bool q3))->∀v0 v1 v2 v3,((((V.setCell (Ad fb (i*4)) v0).setCell (Ad fb (i*4+1)) v1).setCell (Ad fb (i*4+2)) v2).setCell (Ad fb (i*4+3)) v3).cell? (Ad mb 1)=some (.slice (some (Ad fb 0)) nf cF)/\((((V.setCell (Ad fb (i*4)) v0).setCell (Ad fb (i*4+1)) v1).setCell (Ad fb (i*4+2)) v2).setCell (Ad fb (i*4+3)) v3).cell? (Ad xb 3)=some (.bool q3)):=λV ⟨h0,h1⟩ v0 v1 v2 v3=>by
  rw[cN _ _ _ _ _ _ F,cN _ _ _ _ _ _ F,cN _ _ _ _ _ _ F,cN _ _ _ _ _ _ F,cN _ _ _ _ _ _ B,cN _ _ _ _ _ _ B,cN _ _ _ _ _ _ B,cN _ _ _ _ _ _ B];omega
 go_region_held3 (λV=>V.cell? (Ad mb 1)=some (.slice (some (Ad fb 0)) nf cF)/\V.cell? (Ad xb 3)=some (.bool q3)) (first | exact Fq.o | exact o5.o | exact Uq.o _ _ _ _)
  ((go_at_call 130;refine(aC.o _ xB.o).mono ?_;rintro r w5 ⟨rfl,Hp⟩;have aa:=ai (xB.o.trans (Hp.mono xB.o.size));have Fq:=ai (HS.o _ aa.o);have Uq:=ai (λv0 v1 v2 v3=>av.o w5 Fq.o v0 v1 v2 v3);have Q:=ai (ay.o w5 (EO.o.trans (aa.o.mono EO.o.size)));obtain⟨z4,z5,z6,z7,z8,z9,N,O⟩:w5.cell? (Ad fb (i*4))=some (.string FR.data)/\w5.cell? (Ad fb (i*4+1))=some (I FR.refs)/\w5.cell? (Ad fb (i*4+2))=some (.bool FR.ja)/\w5.cell? (Ad fb (i*4+3))=some (.bool FR.seen)/\w5.frozen? (Ad fb (i*4))=false/\w5.frozen? (Ad fb (i*4+1))=false/\w5.frozen? (Ad fb (i*4+2))=false/\w5.frozen? (Ad fb (i*4+3))=false:=(by obtain⟨a1,a2,a3,a4,a5,a6,a7,a8,_⟩:=Q.o;exact⟨a1,a2,a3,a4,a5,a6,a7,a8⟩);clear Hp))
 all_goals clear Uq av HS o5 Fq ao aC
 obtain⟨U,hU⟩:=ex (((((w5.setCell (Ad fb (i*4)) (.string D)).setCell (Ad fb (i*4+1)) (I 1)).setCell (Ad fb (i*4+2)) (.bool false)).setCell (Ad fb (i*4+3)) (.bool false)));obtain⟨_,_,_,_,_,_,_,_,zf⟩:=Q.o;obtain⟨T,a0⟩:=zf U hU;have aG:=ai T;have aS:=ai a0;rw[<- hU];clear hU T a0 zf Q z4 z5 z6 z7 z8 z9 N O ay;go_wp2_with (go_at_call 293;refine(M.o _ _ aG.o).mono ?_;rintro r w7 ⟨rfl,S7,af,aq⟩;have aF:=ai af;have aX:=ai (aS.o.trans aq);clear af aq);exact eW.o _ _ aF.o aX.o
theorem Rs (h:bO lo mb tt X w S k) (hR:bg k) (hj:j<k.aj.length) (hp:eZ k j p) (hX:Lp X k.aD) (hl:held.length<=2) (hH:nW w S ah held) :
  Calls prog 290 #[.pointer (some (Ad mb 0)),I (j:Int),I p,.slice ah held.length ch] w (fP lo mb tt X w S (I ((dI k j p held).1:Int)) (dI k j p held).2):=by
 cases he:bH (ak k.aj j).bl p with
 | none=>exact Po k S w j p held ah ch h hR hj he hp hX hl hH
 | some e =>
  by_cases hk:e.kind=1
  . exact Pp k S w j p held ah ch e h hR hj he hk
  exact JH k S w j p held ah ch e h hR hj he hk hl hH
theorem aav:∀l:List Int,∀u∈l.flatMap iL,u.oneCell'=true:=λl u hu=>by
 obtain⟨y,_,hy⟩:=uP.1 hu;simp[iL] at hy;rw[hy];rfl
theorem Xr {w:World} {ah:Option Addr} {l:List Int} (h:dE iL 1 0 w ah l):oh w ah l.length (l.flatMap iL):=λhm=>by
 obtain⟨b,off,rfl,hb,hl⟩:=h hm;exact zO (w:=w) iL 1 (λ_=>rfl) 0 l b off (λi hi j hj=>hl i hi j hj) hm
theorem Gd {w:World} {base:Nat} {S:gv} {ao:Option Addr} {n c:Nat} {l:List Int} (hr:w.ownsRow base 3 1 (.slice ao n c) l.length (l.flatMap iL)) (hno:∀b,bN (.slice ao n c) b->S.lab b=.no):n=l.length/\nW w S ao l:=by
 obtain⟨a,cap,e,_,h⟩:=pq iL (λ_=>rfl) 0 hr;injection e with e1 e2 e3;subst e1 e2;refine⟨rfl,h,λb off e=>?_,λb off e=>?_⟩
 . subst e;refine hno b ?_;rfl
 subst e;rcases hr.2 with⟨h0,_⟩ | ⟨g,q,r,hv,_,hg,_⟩
 . cases h0
 grind
theorem Xv (a:Nat) (held:List Int) (ah:Option Addr) (ch:Nat) (h:bO lo mb tt X w S k) (hR:bg k) (hj:j<k.aj.length) (ha:bH (ak k.aj j).bl p=some ⟨p,1,a⟩) (hl:held.length<=1) (hH:nW w S ah held) :
  Calls prog 291 #[.pointer (some (Ad mb 0)),I (j:Int),I p,I (a:Int),.slice ah held.length ch] w (fP lo mb tt X w S (I ((ll k j p a held).1:Int)) (ll k j p a held).2):=by
 have a6:=hR.c;have J:=EC hR hj ha;obtain⟨fb,cF,A⟩:=h.toKr.fr ω;have c1:=h.c1;rw[A.v] at c1;have x1:=A.x1 a J.1;have a7:(a:Int)<(k.frames.length:Int):=by omega
 by_cases c:(aK k.frames a).refs=1
 . have hP:ll k j p a held=(a,k):=by grind [ll]
   rw[hP];have eW:Hid (fP lo mb tt X w S (I (a:Int)) k (.returned (I (a:Int))) w):=⟨rfl,S,h,cU.refl _ _⟩;generalize fP lo mb tt X w S (I (a:Int)) k=P at eW ⊢;rw[c] at x1;generalize k.frames.length=nf at c1 a7;clear hP c h hR hj ha hH hl A J a6;go_enter func291,ntmps291;go_wp2;exact eW.o
 have Q:(held++[(a:Int)]).length<=2:=by grind
 have G:=tI hR Q;have M:=G.QM a (mj.2 (.inr ξ)) J.2;have B:bH (ak (bT k (held++[(a:Int)])).2.aj j).bl p=some ⟨p,1,a⟩:=G.stay hR hj ha (λ_=>mj.2 (.inr ξ));obtain⟨k1,R⟩:=ex ((bT k (held++[(a:Int)])).2);obtain⟨i,hi⟩:=ex ((bT k (held++[(a:Int)])).1);have hP:ll k j p a held=(i,ft k1 j p i (aK k1.frames a).data true):=by
  unfold ll
  grind
 have an:∀V S',bO lo mb tt X V S' k->∀ah' ch',nW V S' ah' (held++[(a:Int)])->Calls prog 292 #[.pointer (some (Ad mb 0)),.slice ah' (held++[(a:Int)]).length ch'] V (fP lo mb tt X V S' (I (i:Int)) k1):=λV S' hV ah' ch' hh=>by
  have:=JI k S' V (held++[(a:Int)]) ah' ch' hV hR Q hh;rw[<- R,<- hi] at this;exact this
 rw[<- R] at B M;rw[<- hi] at M;have a0:j<k1.aj.length:=by have:=G.kept.np;grind
 have T:k1.frames.length=k.frames.length:=by have:=G.kept.nf;grind
 have y:i<k1.frames.length:=by rw[T,hi];exact G.lt
 have W:a<k1.frames.length:=by omega
 have Kb:bg k1:=by have:=G.right;grind
 have ar:=oP Kb a0;have aE:=Kb.c;have a3:=(yO Kb).1 a W;obtain⟨D,hD⟩:=ex ((aK k1.frames a).data);have a2:i≠a:=λe=>M.1 e.symm
 have L:aK (jb k1 i D true).frames a=aK k1.frames a:=by
  show aK (k1.frames.set i _) a=_;rw[j6 _ _ _ _ y,aH a2]
 have aw:¬(aK k1.frames a).refs-1=0:=by grind
 obtain⟨K2,K⟩:∃K2:aT,K2={ jb k1 i D true with frames:=(jb k1 i D true).frames.set a ⟨(aK k1.frames a).data,(aK k1.frames a).refs-1,(aK k1.frames a).ja,(aK k1.frames a).seen⟩ }:=⟨_,rfl⟩;have aa:ft k1 j p i D true=gA K2 j ⟨p,1,i⟩:=by
  unfold ft;rw[B];show ek _ _=_;rw[<- Ge];congr 1;unfold ek;rw[aQ rfl,K];show({ jb k1 i D true with frames:=(jb k1 i D true).frames.set (a:Int).toNat (tG (aK (jb k1 i D true).frames (a:Int).toNat)) }:aT)=_;rw[kq,L];unfold tG
  grind
 rw[hP,<- hD,aa];have MI:Hid (∀V S',bO lo mb tt X V S' k1->∃fb cF,V.cell? (Ad mb 1)=some (.slice (some (Ad fb 0)) k1.frames.length cF)/\¬mb=fb/\V.cell? (Ad fb (a*4))=some (.string D)/\V.cell? (Ad fb (i*4))=some (.string (aK k1.frames i).data)/\V.cell? (Ad fb (i*4+1))=some (I (aK k1.frames i).refs)/\V.cell? (Ad fb (i*4+2))=some (.bool (aK k1.frames i).ja)/\V.cell? (Ad fb (i*4+3))=some (.bool (aK k1.frames i).seen)/\V.frozen? (Ad fb (i*4))=false/\V.frozen? (Ad fb (i*4+1))=false/\V.frozen? (Ad fb (i*4+2))=false/\V.frozen? (Ad fb (i*4+3))=false /\
   (∀U,U=((((V.setCell (Ad fb (i*4)) (.string D)).setCell (Ad fb (i*4+1)) (I 1)).setCell (Ad fb (i*4+2)) (.bool true)).setCell (Ad fb (i*4+3)) (.bool false)).drew->U.cell? (Ad mb 1)=some (.slice (some (Ad fb 0)) k1.frames.length cF)/\U.cell? (Ad fb (a*4+1))=some (I (aK k1.frames a).refs)/\U.frozen? (Ad fb (a*4+1))=false/\bO lo mb tt X (U.setCell (Ad fb (a*4+1)) (I ((aK k1.frames a).refs-1))) S' K2/\cU S' V S' (U.setCell (Ad fb (a*4+1)) (I ((aK k1.frames a).refs-1))))):=λV S' hV=>by
  obtain⟨fb,cF,A⟩:=hV.toKr.fr ω;have c1:=hV.c1;rw[A.v] at c1;refine⟨fb,cF,c1,λe=>by have:=A.lab;rw[<- e,hV.lH] at this;simp at this,by rw[hD];exact A.x0 a W,A.x0 i y,A.x1 i y,A.x2 i y,A.x3 i y,A.fz _,A.fz _,A.fz _,A.fz _,λU hU=>?_⟩;have m:=hV.ahg A.v y ⟨D,1,true,false⟩;have m1:bO lo mb tt X U S' (jb k1 i D true):=by subst hU;exact m.1.below (aN _ _).drew
  have aF:cU S' V S' U:=by subst hU;exact m.2.trans (cU.below (aN _ _).drew)
  have aL:(jb k1 i D true).frames.length=k1.frames.length:=gX;obtain⟨az,aX,A'⟩:=m1.toKr.fr ω;have e:az=fb:=by
   have:=A'.v;rw[A.v] at this;injection this with e1 _ _;injection e1 with e1;injection e1 with e1 _ _;omega
  subst e;have a5:=m1.c1;rw[A.v] at a5;have y1:=A'.x1 a ω;rw[L] at y1;refine⟨a5,y1,A'.fz _,?_,aF.trans (AJ m1.toKr A'.v)⟩;rw[K];exact m1.MK A'.v (i:=a) ω (j:=1) ω (by rw[L];rfl)
 have a9:Hid (∀V S',bO lo mb tt X V S' K2->Calls prog 293 #[.pointer (some (Ad mb 0)),I (j:Int),.agg #[I p,I 1,I (i:Int)]] V (fP lo mb tt X V S' (.tuple #[]) (gA K2 j ⟨p,1,i⟩))):=λV S' hV=>by
  have aS:K2.aj=k1.aj:=by rw[K];rfl
  exact Es _ S' V j ⟨p,1,i⟩ hV Γ Γ Γ
 have eW:Hid (∀V S',bO lo mb tt X V S' (gA K2 j ⟨p,1,i⟩)->cU S w S' V->fP lo mb tt X w S (I (i:Int)) (gA K2 j ⟨p,1,i⟩) (.returned (I (i:Int))) V):=λV S' h1 h2=>⟨rfl,S',h1,h2⟩
 generalize gA K2 j ⟨p,1,i⟩=K3 at a9 eW ⊢;generalize fP lo mb tt X w S (I (i:Int)) K3=P at eW ⊢;have VM:Hid (Calls prog 294 #[.slice ah held.length ch] w λe w'=>∃av cv,e=.returned (.slice av held.length cv)/\w'.ownsRow w.heap.size 3 1 (.slice av held.length cv) held.length (held.flatMap iL)/\Below w.heap.size w w'):=(aer ah held.length ch (held.flatMap iL) w (eV iL 1 (λ_=>rfl) held) (Xr hH.has) (aav held) ω).mono λe w' ⟨v,h1,h2,h3⟩=>by
  obtain⟨av,cv,rfl,_⟩:=bh h2;exact⟨av,cv,h1,h2,h3⟩
 have aC:Hid (∀V U av nv cv,Below w.heap.size w V->U=V->V.ownsRow w.heap.size 3 1 (.slice av nv cv) (held.length+1) (held.flatMap iL++[I (a:Int)])->Calls prog 292 #[.pointer (some (Ad mb 0)),.slice av nv cv] V (fP lo mb tt X V S (I (i:Int)) k1)):=λV U av nv cv hb _ hr=>by
  have e1:(held++[(a:Int)]).length=held.length+1:=by simp
  have e2:(held++[(a:Int)]).flatMap iL=held.flatMap iL++[I (a:Int)]:=by simp[iL]
  rw[<- e1,<- e2] at hr;obtain⟨q1,q2⟩:=Gd (S:=S) hr (λb hb2=>h.toKr.new (hr.lt b hb2).1);rw[q1];exact an V S (h.below hb) av cv q2
 obtain⟨i0,a1,am,al,ab⟩:=mQ Nw;have PE:=ai a1;have ao:=ai am;have ZA:=ai al;have Ih:=ai ab;have xb:((aK k.frames a).refs==1)=false:=by simpa using c
 generalize (aK k.frames a).refs=R0 at x1 xb;generalize (aK k1.frames a).refs=R1 at MI a3;have aY:IntKind.i64.wrap (R1-1)=R1-1:=wh _ ω;generalize aK k1.frames i=FR at MI;obtain⟨nf,Ju⟩:=ex k.frames.length;rw[T,<- Ju] at MI;rw[<- Ju] at c1 a7;have b2:(i:Int)<(nf:Int):=by omega
 have aP:held.length<=1:=hl;clear hP c h hR hj ha hH hl A J a6 Ju a1 am al ab an aa K aw L a2 hD a3 aE ar Kb W y T a0 M B hi G Q R;go_enter func291,ntmps291;go_upto_region 4 with(first
  | (at_builtin;refine qm (P:=prog) rfl _ _ 48 rfl w.heap.size 3 i0 (I 0) 1 8 underlying48 PE.o ao.o ZA.o Ih.o rfl Δ _ held.length (held.flatMap iL) rfl ae.o (some (Ad w1.heap.size 0)) 1 1 [I (a:Int)] rfl rfl (λ_=>⟨_,rfl,EW (bG w1 _ _)⟩) (by intro u hu;simp at hu;rw[hu];rfl) (by unfold maxLen;omega) ω (by have:=dz.o.size;simp;omega) ?_;intro v' w' F af aD;obtain⟨aG,cG,aq,_,_⟩:=bh F;subst aq;have Kf:=ai F;have iI:=ai ((dz.o.alloc dz.o.size (.cells #[I (a:Int)] 3)).grown af (by have:=dz.o.size;simp;omega) (λq hq=>(ae.o.lt q hq).1));clear F af aD)
  | (go_at_call 294;refine VM.o.mono ?_;rintro e w1 ⟨av,cv,rfl,a8,a4⟩;have dz:=ai a4;have ae:=ai (a8.alloc (.cells #[I (a:Int)] 3));clear a8 a4)
  | (go_at_call 292;refine(aC.o _ _ _ _ _ iI.o rfl Kf.o).mono ?_;rintro e w3 ⟨rfl,S3,Z,ag⟩;have H8:=ai Z;have DY:=ai ((cU.below iI.o).trans ag);clear Z ag))
 obtain⟨N,b1,g1,b0,g2,g3,g4,g5,g6,g7,g8,g9,au,O⟩:=MI.o w3 S3 H8.o;obtain⟨U,hU⟩:=ex (((((w3.setCell (Ad N (i*4)) (.string D)).setCell (Ad N (i*4+1)) (I 1)).setCell (Ad N (i*4+2)) (.bool true)).setCell (Ad N (i*4+3)) (.bool false)).drew);obtain⟨y1,y2,y3,Y,Zv⟩:=O U hU;have HU:=ai hU;have aJ:=ai Y;have ZH:=ai (DY.o.trans Zv);clear O hU Y Zv;go_region;rw[<- HU.o];clear g1 g2 g3 g4 g5 g6 g7 g8 g9 au HU;go_wp2_with (go_at_call 293;refine(a9.o _ _ aJ.o).mono ?_;rintro r w5 ⟨rfl,S5,ac,ad⟩;have ap:=ai ac;have ay:=ai (ZH.o.trans ad);clear ac ad);exact eW.o _ _ ap.o ay.o
theorem Xu (way:Int) (held:List Int) (ah:Option Addr) (ch:Nat) (h:bO lo mb tt X w S k) (hR:bg k) (hj:j<k.aj.length) (hp:eZ k j p) (hX:Lp X k.aD) (hl:held.length<=1) (hH:nW w S ah held) :
  Calls prog 284 #[.pointer (some (Ad mb 0)),I (j:Int),I p,I way,.slice ah held.length ch] w (fP lo mb tt X w S (I ((dU k j p way held).1:Int)) (dU k j p way held).2):=by
 have Ke:=ai (Rs k S w j p held ah ch h hR hj hp hX ω hH);have hB:=(rQ hR hj hp way hl).1;have J:=AU hR hj hp (held:=held) ω;have N:=hR.c;have Ss:Hid (∀V S' K i,iJ k j p way held=(i,K)->bO lo mb tt X V S' K->∃fb cF,V.cell? (Ad mb 1)=some (.slice (some (Ad fb 0)) k.frames.length cF)/\¬mb=fb/\i<k.frames.length/\V.cell? (Ad fb (i*4+2))=some (.bool (aK K.frames i).ja)/\V.cell? (Ad fb (i*4+3))=some (.bool (aK K.frames i).seen)/\V.frozen? (Ad fb (i*4+2))=false/\V.frozen? (Ad fb (i*4+3))=false /\
   (way≠1->bO lo mb tt X (V.setCell (Ad fb (i*4+3)) (.bool true)) S' (dU k j p way held).2/\cU S' V S' (V.setCell (Ad fb (i*4+3)) (.bool true))) /\
   (way=1->bO lo mb tt X ((V.setCell (Ad fb (i*4+2)) (.bool true)).setCell (Ad fb (i*4+3)) (.bool true)) S' (dU k j p way held).2/\cU S' V S' ((V.setCell (Ad fb (i*4+2)) (.bool true)).setCell (Ad fb (i*4+3)) (.bool true)))):=λV S' K i e hV=>by
  have Ju:K.frames.length=k.frames.length:=by
   have:=hB.kept.nf;unfold dU at this;rw[e] at this;have this:(K.frames.set i _).length=_:=this
   grind
  have hi:i<k.frames.length:=by
   have:=hB.lt
   grind [dU]
  have O:(dU k j p way held).2={ K with frames:=K.frames.set i (zV way (aK K.frames i)) }:=by
   unfold dU;rw[e];rfl
  obtain⟨fb,cF,A⟩:=hV.toKr.fr ω;have c1:=hV.c1;rw[A.v,Ju] at c1;have F:i<K.frames.length:=by omega
  refine⟨fb,cF,c1,λe=>by have:=A.lab;rw[<- e,hV.lH] at this;grind,hi,A.x2 i F,A.x3 i F,A.fz _,A.fz _,λhw=>?_,λhw=>?_⟩
  . refine⟨?_,AJ hV.toKr A.v⟩;rw[O];refine hV.MK A.v F (j:=3) ω ?_;unfold zV;rw[eH hw,Bool.or_false];rfl
  have m1:=hV.MK A.v F (j:=2) ω (f:=⟨(aK K.frames i).data,(aK K.frames i).refs,true,(aK K.frames i).seen⟩) (u:=.bool true) rfl;have m2:=m1.MK A.v (i:=i) Γ (j:=3) ω (f:=zV way (aK K.frames i)) (u:=.bool true) (by
   simp only[aK,fu _ _ _ _ F];unfold zV;rw[dW hw,Bool.or_true];rfl)
  simp only[rD] at m2;rw[O];exact⟨m2,(AJ hV.toKr A.v).trans (AJ hV.toKr A.v)⟩
 have L:(dU k j p way held).1=(iJ k j p way held).1:=rfl;rw[L];have eW:Hid (∀V S' i,i=(iJ k j p way held).1->bO lo mb tt X V S' (dU k j p way held).2->cU S w S' V->fP lo mb tt X w S (I ((iJ k j p way held).1:Int)) (dU k j p way held).2 (.returned (I (i:Int))) V):=λV S' i hi h1 h2=>⟨by rw[hi],S',h1,h2⟩
 generalize fP lo mb tt X w S (I ((iJ k j p way held).1:Int)) (dU k j p way held).2=P at eW ⊢;generalize (dU k j p way held).2=KB at eW Ss;by_cases c:way=1
 . have e2:iJ k j p way held=ll (dI k j p held).2 j p (dI k j p held).1 held:=by grind [iJ]
   have UG:Hid (∀V S',bO lo mb tt X V S' (dI k j p held).2->cU S w S' V->Calls prog 291 #[.pointer (some (Ad mb 0)),I (j:Int),I p,I ((dI k j p held).1:Int),.slice ah held.length ch] V (fP lo mb tt X V S' (I ((iJ k j p way held).1:Int)) (iJ k j p way held).2)):=λV S' hV hc=>by
    rw[e2];exact Xv (dI k j p held).2 S' V j p (dI k j p held).1 held ah ch hV J.right (by rw[J.kept.np];exact hj) J.here hl (hH.ch hc)
   generalize iJ k j p way held=TK at UG eW Ss;generalize dI k j p held=PR at Ke UG;obtain⟨i,K⟩:=TK;obtain⟨ip,aI⟩:=PR;have q:=ai (λV S' hV=>Ss.o V S' K i rfl hV);have Dh:=ai (λV S'=>eW.o V S' i rfl);simp only at Ke UG;have HW:=ai c;have wb:(way==1)=true:=by grind
   generalize aK K.frames i=FR at q;generalize k.frames.length=nf at q;clear Ss eW h hR hj hp hX hl hH hB J N e2 L c;go_enter func284,ntmps284;go_upto_region 4 with(first
    | (go_at_call 290;refine Ke.o.mono ?_;rintro e w1 ⟨rfl,S1,y,r⟩;have Dg:=ai y;have Sv:=ai r;clear y r)
    | (go_at_call 291;refine(UG.o _ _ Dg.o Sv.o).mono ?_;rintro e w2 ⟨rfl,S2,Q,M⟩;have Aa:=ai Q;have vd:=ai (Sv.o.trans M);clear Q M))
   obtain⟨fb,cF,g1,R,gi,g2,g3,g4,g5,_,b⟩:=q.o w2 S2 Aa.o;obtain⟨B,G⟩:=b HW.o;have H8:=ai B;have DY:=ai (vd.o.trans G);have T:(i:Int)<(nf:Int):=by omega
   clear b B G;go_wp2;exact Dh.o _ _ H8.o DY.o
 have e2:iJ k j p way held=dI k j p held:=by grind [iJ]
 rw[<- e2] at Ke;generalize iJ k j p way held=TK at Ke eW Ss;obtain⟨i,K⟩:=TK;have q:=ai (λV S' hV=>Ss.o V S' K i rfl hV);have Dh:=ai (λV S'=>eW.o V S' i rfl);simp only at Ke;have HW:=ai c;have wb:(way==1)=false:=by grind
 generalize aK K.frames i=FR at q;generalize k.frames.length=nf at q;clear Ss eW h hR hj hp hX hl hH hB J N e2 L c;go_enter func284,ntmps284;go_upto_region 5 with(go_at_call 290;refine Ke.o.mono ?_;rintro e w1 ⟨rfl,S1,y,r⟩;have Dg:=ai y;have Sv:=ai r;clear y r);obtain⟨fb,cF,g1,R,gi,g2,g3,g4,g5,b,_⟩:=q.o w1 S1 Dg.o;obtain⟨B,G⟩:=b HW.o;have H8:=ai B;have DY:=ai (Sv.o.trans G);have T:(i:Int)<(nf:Int):=by omega
 clear b B G;go_wp2;exact Dh.o _ _ H8.o DY.o
end Go.Proofs.YtlgoihmkgaaemaaGreat
