import Derived.Test.YtpgifpeohlllfaaGreatGR21
set_option maxHeartbeats 20000000
set_option linter.unusedVariables false
set_option maxRecDepth 100000
set_option linter.unusedSimpArgs false
namespace Go.Proofs.YtpgifpeohlllfaaGreat
open Go.RowKit
theorem LI {lo mb:Nat} {tt:TypeId} {X:List Value} (k:aN) (S:dE) (w:World) (j:Nat) (p:Int) (held:List Int) (ah:Option Addr) (ch:Nat) (h:bu lo mb tt X w S k) (hR:bc k) (hj:j<k.aj.length) (hp:dx k j p) (hX:Gg X k.aD) (hl:held.length<=2) (hH:jD w S ah held) :
  Calls Tryz.prog 141 #[.pointer (some (Ad mb 0)),I (j:Int),I p,.slice ah held.length ch] w (cT lo mb tt X w S (I ((cI k j p held).1:Int)) (cI k j p held).2):=by
 cases he:bD (ak k.aj j).aU p with
 | none=>exact JN k S w j p held ah ch h hR hj he hp hX hl hH
 | some e =>
  by_cases hk:e.kind=1
  · exact JO k S w j p held ah ch e h hR hj he hk
  · exact Em k S w j p held ah ch e h hR hj he hk hl hH
theorem xS:∀l:List Int,∀u∈l.flatMap dN,u.oneCell'=true:=fun l u hu=>by
 obtain⟨y,_,hy⟩:=ua.1 hu;simp[dN] at hy;rw[hy];rfl
theorem vI {w:World} {ah:Option Addr} {l:List Int} (h:cJ dN 1 0 w ah l):kj w ah l.length (l.flatMap dN):=fun hm=>by
 obtain⟨b,off,rfl,hb,hl⟩:=h hm;exact vJ (w:=w) dN 1 (fun _=>rfl) 0 l b off (fun i hi j hj=>hl i hi j hj) hm
theorem uH {w:World} {base:Nat} {S:dE} {ao:Option Addr} {n c:Nat} {l:List Int} (hr:w.ownsRow base 3 1 (.slice ao n c) l.length (l.flatMap dN)) (hno:∀b,bQ (.slice ao n c) b->S.lab b=.no):n=l.length/\jD w S ao l:=by
 obtain⟨a,cap,e,_,hrow⟩:=mL dN (fun _=>rfl) 0 hr;injection e with e1 e2 e3;subst e1 e2;refine⟨rfl,hrow,fun b off e=>?_,fun b off e=>?_⟩
 · subst e;refine hno b ?_;rfl
 · subst e;rcases hr.2 with⟨h0,_⟩ | ⟨g,cap',cur,hv,_,hg,_⟩
   · cases h0
   grind
theorem QF {lo mb:Nat} {tt:TypeId} {X:List Value} (k:aN) (S:dE) (w:World) (j:Nat) (p:Int) (a:Nat) (held:List Int) (ah:Option Addr) (ch:Nat) (h:bu lo mb tt X w S k) (hR:bc k) (hj:j<k.aj.length) (ha:bD (ak k.aj j).aU p=some ⟨p,1,a⟩) (hl:held.length<=1) (hH:jD w S ah held) :
  Calls Tryz.prog 142 #[.pointer (some (Ad mb 0)),I (j:Int),I p,I (a:Int),.slice ah held.length ch] w (cT lo mb tt X w S (I ((iB k j p a held).1:Int)) (iB k j p a held).2):=by
 have hcc:=hR.c;have hne:=xd hR hj ha;obtain⟨fb,cF,A⟩:=h.toKr.fr (by omega);have c1:=h.c1;rw[A.v] at c1;have x1:=A.x1 a hne.1;have hai:(a:Int)<(k.frames.length:Int):=by omega
 by_cases c:(au k.frames a).refs=1
 · have hP:iB k j p a held=(a,k):=by grind [iB]
   rw[hP];have cV:Hid (cT lo mb tt X w S (I (a:Int)) k (.returned (I (a:Int))) w):=⟨rfl,S,h,bU.refl _ _⟩;obtain⟨P,Sz⟩:=ex (cT lo mb tt X w S (I (a:Int)) k);rw[<- Sz] at cV ⊢;rw[c] at x1;obtain⟨nf,tq⟩:=ex k.frames.length;rw[<- tq] at c1 hai;clear hP Sz c h hR hj ha hH hl A hne hcc tq;go_enter Tryz.func142,Tryz.ntmps142;go_wp2;exact cV.o
 · have hl2:(held++[(a:Int)]).length<=2:=by grind
   have G:=ll hR hl2;have hH1:=G.IJ a (kq.2 (.inr (by simp))) hne.2;have hent:bD (ak (bE k (held++[(a:Int)])).2.aj j).aU p=some ⟨p,1,a⟩:=G.stay hR hj ha (fun _=>kq.2 (.inr (by simp)));obtain⟨k1,hk1⟩:=ex ((bE k (held++[(a:Int)])).2);obtain⟨i,hi⟩:=ex ((bE k (held++[(a:Int)])).1);have hP:iB k j p a held=(i,dR k1 j p i (au k1.frames a).data true):=by
    unfold iB
    grind
   have hGT:∀V S',bu lo mb tt X V S' k->∀Yi ZW,jD V S' Yi (held++[(a:Int)])->Calls Tryz.prog 165 #[.pointer (some (Ad mb 0)),.slice Yi (held++[(a:Int)]).length ZW] V (cT lo mb tt X V S' (I (i:Int)) k1):=fun V S' hV Yi ZW hh=>by
    have:=En k S' V (held++[(a:Int)]) Yi ZW hV hR hl2 hh;rw[<- hk1,<- hi] at this;exact this
   rw[<- hk1] at hent hH1;rw[<- hi] at hH1;have MV:j<k1.aj.length:=by have:=G.kept.np;grind
   have aeH:k1.frames.length=k.frames.length:=by have:=G.kept.nf;grind
   have hi1:i<k1.frames.length:=by rw[aeH,hi];exact G.lt
   have ha1:a<k1.frames.length:=by omega
   have Bd:bc k1:=by have:=G.right;grind
   have Vx:=iZ Bd MV;have aeU:=Bd.c;have hrf:=(oL Bd).1 a ha1;obtain⟨D,hD⟩:=ex ((au k1.frames a).data);have aeZ:i≠a:=fun e=>hH1.1 e.symm
   have hfa:au (ez k1 i D true).frames a=au k1.frames a:=by
    show au (k1.frames.set i _) a=_;rw[iD _ _ _ _ hi1,bf aeZ]
   have hra:¬(au k1.frames a).refs-1=0:=by grind
   obtain⟨K2,hK2⟩:∃K2:aN,K2={ ez k1 i D true with frames:=(ez k1 i D true).frames.set a ⟨(au k1.frames a).data,(au k1.frames a).refs-1,(au k1.frames a).eX,(au k1.frames a).seen⟩ }:=⟨_,rfl⟩;have hmv:dR k1 j p i D true=df K2 j ⟨p,1,i⟩:=by
    unfold dR;rw[hent];show cK _ _=_;rw[<- BI];congr 1;unfold cK;rw[aR rfl,hK2];show({ ez k1 i D true with frames:=(ez k1 i D true).frames.set (a:Int).toNat (ma (au (ez k1 i D true).frames (a:Int).toNat)) }:aN)=_;rw[jn,hfa];unfold ma
    grind
   rw[hP,<- hD,hmv];have Hg:Hid (∀V S',bu lo mb tt X V S' k1->∃fb cF,V.cell? (Ad mb 1)=some (.slice (some (Ad fb 0)) k1.frames.length cF)/\¬mb=fb/\V.cell? (Ad fb (a*4))=some (.string D)/\V.cell? (Ad fb (i*4))=some (.string (au k1.frames i).data)/\V.cell? (Ad fb (i*4+1))=some (I (au k1.frames i).refs)/\V.cell? (Ad fb (i*4+2))=some (.bool (au k1.frames i).eX)/\V.cell? (Ad fb (i*4+3))=some (.bool (au k1.frames i).seen)/\V.frozen? (Ad fb (i*4))=false/\V.frozen? (Ad fb (i*4+1))=false/\V.frozen? (Ad fb (i*4+2))=false/\V.frozen? (Ad fb (i*4+3))=false /\
     (∀U,U=((((V.setCell (Ad fb (i*4)) (.string D)).setCell (Ad fb (i*4+1)) (I 1)).setCell (Ad fb (i*4+2)) (.bool true)).setCell (Ad fb (i*4+3)) (.bool false)).drew->U.cell? (Ad mb 1)=some (.slice (some (Ad fb 0)) k1.frames.length cF)/\U.cell? (Ad fb (a*4+1))=some (I (au k1.frames a).refs)/\U.frozen? (Ad fb (a*4+1))=false/\bu lo mb tt X (U.setCell (Ad fb (a*4+1)) (I ((au k1.frames a).refs-1))) S' K2/\bU S' V S' (U.setCell (Ad fb (a*4+1)) (I ((au k1.frames a).refs-1))))):=fun V S' hV=>by
    obtain⟨fb,cF,A⟩:=hV.toKr.fr (by omega);have c1:=hV.c1;rw[A.v] at c1;refine⟨fb,cF,c1,fun e=>by have:=A.lab;rw[<- e,hV.lH] at this;simp at this,by rw[hD];exact A.x0 a ha1,A.x0 i hi1,A.x1 i hi1,A.x2 i hi1,A.x3 i hi1,A.fz _,A.fz _,A.fz _,A.fz _,fun U hU=>?_⟩;have m:=hV.SM A.v hi1 ⟨D,1,true,false⟩;have m1:bu lo mb tt X U S' (ez k1 i D true):=by subst hU;exact m.1.below (aK _ _).drew
    have Y1:bU S' V S' U:=by subst hU;exact m.2.trans (bU.below (aK _ _).drew)
    have hln:(ez k1 i D true).frames.length=k1.frames.length:=iG;obtain⟨YZ,cF',A'⟩:=m1.toKr.fr (by omega);have e:YZ=fb:=by
     have:=A'.v;rw[A.v] at this;injection this with e1 _ _;injection e1 with e1;injection e1 with e1 _ _;omega
    subst e;have c1':=m1.c1;rw[A.v] at c1';have y1:=A'.x1 a (by omega);rw[hfa] at y1;refine⟨c1',y1,A'.fz _,?_,Y1.trans (sL m1.toKr A'.v)⟩;rw[hK2];exact m1.Bb A'.v (i:=a) (by omega) (j:=1) (by omega) (by rw[hfa];rfl)
   have HET:Hid (∀V S',bu lo mb tt X V S' K2->Calls Tryz.prog 166 #[.pointer (some (Ad mb 0)),I (j:Int),.agg #[I p,I 1,I (i:Int)]] V (cT lo mb tt X V S' (.tuple #[]) (df K2 j ⟨p,1,i⟩))):=fun V S' hV=>by
    have hsp:K2.aj=k1.aj:=by rw[hK2];rfl
    exact zT _ S' V j ⟨p,1,i⟩ hV (by grind) (by grind) (by grind)
   have cV:Hid (∀V S',bu lo mb tt X V S' (df K2 j ⟨p,1,i⟩)->bU S w S' V->cT lo mb tt X w S (I (i:Int)) (df K2 j ⟨p,1,i⟩) (.returned (I (i:Int))) V):=fun V S' h1 h2=>⟨rfl,S',h1,h2⟩
   obtain⟨K3,hK3⟩:=ex (df K2 j ⟨p,1,i⟩);rw[<- hK3] at HET cV ⊢;obtain⟨P,Sz⟩:=ex (cT lo mb tt X w S (I (i:Int)) K3);rw[<- Sz] at cV ⊢;have Jj:Hid (Calls Tryz.prog 167 #[.slice ah held.length ch] w fun e w'=>∃av cv,e=.returned (.slice av held.length cv)/\w'.ownsRow w.heap.size 3 1 (.slice av held.length cv) held.length (held.flatMap dN)/\Below w.heap.size w w'):=(XD ah held.length ch (held.flatMap dN) w (eG dN 1 (fun _=>rfl) held) (vI hH.has) (xS held) (by omega)).mono fun e w' ⟨v,h1,h2,h3⟩=>by
    obtain⟨av,cv,rfl,_⟩:=aY h2;exact⟨av,cv,h1,h2,h3⟩
   have YF:Hid (∀V U av nv cv,Below w.heap.size w V->U=V->V.ownsRow w.heap.size 3 1 (.slice av nv cv) (held.length+1) (held.flatMap dN++[I (a:Int)])->Calls Tryz.prog 165 #[.pointer (some (Ad mb 0)),.slice av nv cv] V (cT lo mb tt X V S (I (i:Int)) k1)):=fun V U av nv cv hb _ hr=>by
    have e1:(held++[(a:Int)]).length=held.length+1:=by simp
    have e2:(held++[(a:Int)]).flatMap dN=held.flatMap dN++[I (a:Int)]:=by simp[dN]
    rw[<- e1,<- e2] at hr;obtain⟨q1,q2⟩:=uH (S:=S) hr (fun b hb2=>h.toKr.new (hr.lt b hb2).1);rw[q1];exact hGT V S (h.below hb) av cv q2
   obtain⟨i0,hin,hz0,hz1,hz2⟩:=gm Dn;have yG:=ai hin;have Bg:=ai hz0;have Bf:=ai hz1;have Aj:=ai hz2;have xb:((au k.frames a).refs==1)=false:=by simpa using c
   obtain⟨R0,hR0⟩:=ex ((au k.frames a).refs);rw[<- hR0] at x1 xb;obtain⟨R1,ah3⟩:=ex ((au k1.frames a).refs);rw[<- ah3] at Hg hrf;have hw1:IntKind.i64.wrap (R1-1)=R1-1:=m8 _ (by omega);obtain⟨FR,OM⟩:=ex (au k1.frames i);rw[<- OM] at Hg;obtain⟨nf,tq⟩:=ex k.frames.length;rw[aeH,<- tq] at Hg;rw[<- tq] at c1 hai;have Dw:(i:Int)<(nf:Int):=by omega
   have hhl:held.length<=1:=hl;clear hP Sz c h hR hj ha hH hl A hne hcc tq hin hz0 hz1 hz2 OM ah3 hR0 hK3 hGT hmv hK2 hra hfa aeZ hD hrf aeU Vx Bd ha1 hi1 aeH MV hH1 hent hi G hl2 hk1;go_enter Tryz.func142,Tryz.ntmps142;go_upto_region 4 with(first
    | (at_builtin;refine cZ (P:=Tryz.prog) rfl _ _ 99 rfl w.heap.size 3 i0 (I 0) 1 8 Tryz.underlying99 yG.o Bg.o Bf.o Aj.o rfl (by decide) _ held.length (held.flatMap dN) rfl HO1.o (some (Ad w1.heap.size 0)) 1 1 [I (a:Int)] rfl rfl (fun _=>⟨_,rfl,tT (bO w1 _ _)⟩) (by intro u hu;simp at hu;rw[hu];rfl) (by unfold maxLen;omega) (by omega) (by have:=dz.o.size;simp;omega) ?_;intro v' w' hown hgr hat;obtain⟨aG,cG,KR,_,_⟩:=aY hown;subst KR;have AZ:=ai hown;have gj:=ai ((dz.o.alloc dz.o.size (.cells #[I (a:Int)] 3)).grown hgr (by have:=dz.o.size;simp;omega) (fun q hq=>(HO1.o.lt q hq).1));clear hown hgr hat)
    | (go_at_call 167;refine Jj.o.mono ?_;rintro e w1 ⟨av,cv,rfl,hr1,hb1⟩;have dz:=ai hb1;have HO1:=ai (hr1.alloc (.cells #[I (a:Int)] 3));clear hr1 hb1)
    | (go_at_call 165;refine(YF.o _ _ _ _ _ gj.o rfl AZ.o).mono ?_;rintro e w3 ⟨rfl,S3,hk3,hc3⟩;have p9:=ai hk3;have tP:=ai ((bU.below gj.o).trans hc3);clear hk3 hc3))
   obtain⟨fb3,cF3,g1,gne,g2,g3,g4,g5,g6,g7,g8,g9,g10,hfin⟩:=Hg.o w3 S3 p9.o;obtain⟨U,hU⟩:=ex (((((w3.setCell (Ad fb3 (i*4)) (.string D)).setCell (Ad fb3 (i*4+1)) (I 1)).setCell (Ad fb3 (i*4+2)) (.bool true)).setCell (Ad fb3 (i*4+3)) (.bool false)).drew);obtain⟨y1,y2,y3,hk4,Nc⟩:=hfin U hU;have HU:=ai hU;have HK4:=ai hk4;have HC4:=ai (tP.o.trans Nc);clear hfin hU hk4 Nc;go_region;rw[<- HU.o];clear g1 g2 g3 g4 g5 g6 g7 g8 g9 g10 HU;go_wp2_with (go_at_call 166;refine(HET.o _ _ HK4.o).mono ?_;rintro r w5 ⟨rfl,S5,P9,Yf⟩;have M5:=ai P9;have HC5:=ai (HC4.o.trans Yf);clear P9 Yf)
   exact cV.o _ _ M5.o HC5.o
open Go.RowKit
theorem QE {lo mb:Nat} {tt:TypeId} {X:List Value} (k:aN) (S:dE) (w:World) (j:Nat) (p way:Int) (held:List Int) (ah:Option Addr) (ch:Nat) (h:bu lo mb tt X w S k) (hR:bc k) (hj:j<k.aj.length) (hp:dx k j p) (hX:Gg X k.aD) (hl:held.length<=1) (hH:jD w S ah held) :
  Calls Tryz.prog 97 #[.pointer (some (Ad mb 0)),I (j:Int),I p,I way,.slice ah held.length ch] w (cT lo mb tt X w S (I ((cQ k j p way held).1:Int)) (cQ k j p way held).2):=by
 have Dk:=ai (LI k S w j p held ah ch h hR hj hp hX (by omega) hH);have hB:=(mj hR hj hp way hl).1;have ZV:=sP hR hj hp (held:=held) (by omega);have hcc:=hR.c;have Mw:Hid (∀V S' K i,fQ k j p way held=(i,K)->bu lo mb tt X V S' K->∃fb cF,V.cell? (Ad mb 1)=some (.slice (some (Ad fb 0)) k.frames.length cF)/\¬mb=fb/\i<k.frames.length/\V.cell? (Ad fb (i*4+2))=some (.bool (au K.frames i).eX)/\V.cell? (Ad fb (i*4+3))=some (.bool (au K.frames i).seen)/\V.frozen? (Ad fb (i*4+2))=false/\V.frozen? (Ad fb (i*4+3))=false /\
   (way≠1->bu lo mb tt X (V.setCell (Ad fb (i*4+3)) (.bool true)) S' (cQ k j p way held).2/\bU S' V S' (V.setCell (Ad fb (i*4+3)) (.bool true))) /\
   (way=1->bu lo mb tt X ((V.setCell (Ad fb (i*4+2)) (.bool true)).setCell (Ad fb (i*4+3)) (.bool true)) S' (cQ k j p way held).2/\bU S' V S' ((V.setCell (Ad fb (i*4+2)) (.bool true)).setCell (Ad fb (i*4+3)) (.bool true)))):=fun V S' K i e hV=>by
  have tq:K.frames.length=k.frames.length:=by
   have:=hB.kept.nf;unfold cQ at this;rw[e] at this;have this:(K.frames.set i _).length=_:=this
   grind
  have hi:i<k.frames.length:=by
   have:=hB.lt
   grind [cQ]
  have hbr:(cQ k j p way held).2={ K with frames:=K.frames.set i (qy way (au K.frames i)) }:=by
   unfold cQ;rw[e];rfl
  obtain⟨fb,cF,A⟩:=hV.toKr.fr (by omega);have c1:=hV.c1;rw[A.v,tq] at c1;have hiK:i<K.frames.length:=by omega
  refine⟨fb,cF,c1,fun e=>by have:=A.lab;rw[<- e,hV.lH] at this;grind,hi,A.x2 i hiK,A.x3 i hiK,A.fz _,A.fz _,fun hw=>?_,fun hw=>?_⟩
  · refine⟨?_,sL hV.toKr A.v⟩;rw[hbr];refine hV.Bb A.v hiK (j:=3) (by omega) ?_;unfold qy;rw[dJ hw,Bool.or_false];rfl
  · have m1:=hV.Bb A.v hiK (j:=2) (by omega) (f:=⟨(au K.frames i).data,(au K.frames i).refs,true,(au K.frames i).seen⟩) (u:=.bool true) rfl;have m2:=m1.Bb A.v (i:=i) (by grind) (j:=3) (by omega) (f:=qy way (au K.frames i)) (u:=.bool true) (by
     simp only[au,eD _ _ _ _ hiK];unfold qy;rw[dI hw,Bool.or_true];rfl)
    simp only[pF] at m2;rw[hbr];exact⟨m2,(sL hV.toKr A.v).trans (sL hV.toKr A.v)⟩
 have hb1:(cQ k j p way held).1=(fQ k j p way held).1:=rfl;rw[hb1];have cV:Hid (∀V S' i,i=(fQ k j p way held).1->bu lo mb tt X V S' (cQ k j p way held).2->bU S w S' V->cT lo mb tt X w S (I ((fQ k j p way held).1:Int)) (cQ k j p way held).2 (.returned (I (i:Int))) V):=fun V S' i hi h1 h2=>⟨by rw[hi],S',h1,h2⟩
 obtain⟨P,hP⟩:=ex (cT lo mb tt X w S (I ((fQ k j p way held).1:Int)) (cQ k j p way held).2);rw[<- hP] at cV ⊢;obtain⟨KB,hKB⟩:=ex ((cQ k j p way held).2);rw[<- hKB] at cV Mw;by_cases c:way=1
 · have e2:fQ k j p way held=iB (cI k j p held).2 j p (cI k j p held).1 held:=by grind [fQ]
   have HAL:Hid (∀V S',bu lo mb tt X V S' (cI k j p held).2->bU S w S' V->Calls Tryz.prog 142 #[.pointer (some (Ad mb 0)),I (j:Int),I p,I ((cI k j p held).1:Int),.slice ah held.length ch] V (cT lo mb tt X V S' (I ((fQ k j p way held).1:Int)) (fQ k j p way held).2)):=fun V S' hV hc=>by
    rw[e2];exact QF (cI k j p held).2 S' V j p (cI k j p held).1 held ah ch hV ZV.right (by rw[ZV.kept.np];exact hj) ZV.here hl (hH.ch hc)
   obtain⟨TK,ZU⟩:=ex (fQ k j p way held);rw[<- ZU] at HAL cV Mw;obtain⟨PR,hPR⟩:=ex (cI k j p held);rw[<- hPR] at Dk HAL;obtain⟨i,K⟩:=TK;obtain⟨ip,aM⟩:=PR;have Pr:=ai (fun V S' hV=>Mw.o V S' K i rfl hV);have qK:=ai (fun V S'=>cV.o V S' i rfl);simp only at Dk HAL;have HW:=ai c;have wb:(way==1)=true:=by grind
   obtain⟨FR,OM⟩:=ex (au K.frames i);rw[<- OM] at Pr;obtain⟨nf,tq⟩:=ex k.frames.length;rw[<- tq] at Pr;clear Mw cV hP h hR hj hp hX hl hH hB ZV hcc hKB ZU hPR e2 hb1 OM tq c;go_enter Tryz.func97,Tryz.ntmps97;go_upto_region 4 with(first
    | (go_at_call 141;refine Dk.o.mono ?_;rintro e w1 ⟨rfl,S1,hk1,hc1⟩;have vZ:=ai hk1;have EI:=ai hc1;clear hk1 hc1)
    | (go_at_call 142;refine(HAL.o _ _ vZ.o EI.o).mono ?_;rintro e w2 ⟨rfl,S2,hk2,hc2⟩;have qa:=ai hk2;have tD:=ai (EI.o.trans hc2);clear hk2 hc2))
   obtain⟨fb,cF,g1,gne,gi,g2,g3,g4,g5,_,hfin⟩:=Pr.o w2 S2 qa.o;obtain⟨hk3,hc3⟩:=hfin HW.o;have p9:=ai hk3;have tP:=ai (tD.o.trans hc3);have Dw:(i:Int)<(nf:Int):=by omega
   clear hfin hk3 hc3;go_wp2;exact qK.o _ _ p9.o tP.o
 · have e2:fQ k j p way held=cI k j p held:=by grind [fQ]
   rw[<- e2] at Dk;obtain⟨TK,ZU⟩:=ex (fQ k j p way held);rw[<- ZU] at Dk cV Mw;obtain⟨i,K⟩:=TK;have Pr:=ai (fun V S' hV=>Mw.o V S' K i rfl hV);have qK:=ai (fun V S'=>cV.o V S' i rfl);simp only at Dk;have HW:=ai c;have wb:(way==1)=false:=by grind
   obtain⟨FR,OM⟩:=ex (au K.frames i);rw[<- OM] at Pr;obtain⟨nf,tq⟩:=ex k.frames.length;rw[<- tq] at Pr;clear Mw cV hP h hR hj hp hX hl hH hB ZV hcc hKB ZU e2 hb1 OM tq c;go_enter Tryz.func97,Tryz.ntmps97;go_upto_region 5 with(go_at_call 141;refine Dk.o.mono ?_;rintro e w1 ⟨rfl,S1,hk1,hc1⟩;have vZ:=ai hk1;have EI:=ai hc1;clear hk1 hc1)
   obtain⟨fb,cF,g1,gne,gi,g2,g3,g4,g5,hfin,_⟩:=Pr.o w1 S1 vZ.o;obtain⟨hk3,hc3⟩:=hfin HW.o;have p9:=ai hk3;have tP:=ai (EI.o.trans hc3);have Dw:(i:Int)<(nf:Int):=by omega
   clear hfin hk3 hc3;go_wp2;exact qK.o _ _ p9.o tP.o
open Go.RowKit
def Dp (x:Int×Int):Array Value:=#[I x.1,I x.2]
theorem mv {N g:Nat} {w W:World} (h:Below N w W) (hg:N<=g) (v0 v1:Value):Below N w ((W.setCell (Ad g 0) v0).setCell (Ad g 1) v1):=(h.setCell (p:=(Ad g 0)) hg v0).setCell (p:=(Ad g 1)) hg v1
theorem PE (l:List aZ) (v:Value) (a size way:Int) (w:World) (h:fu w v l) (hf:fU l) (ha:-9223372036854775808<=a/\a<=9223372036854775807) (hz:size<=9223372036854775807) :
  Calls Tryz.prog 96 #[v,I a,I size,I way] w fun e w'=>e=.returned (.agg (Dp (eV l a size way)))/\Below w.heap.size w w':=by
 have GR:=ai (fun p V (hV:fu V v l)=>uN l v p V hV hf);have HH:=ai h;have eU:=ai ((aK w.heap.size w).alloc (aI _) (.cells #[I 0,I 0] 36));have X0:=ai (bO w #[I 0,I 0] 36);have HF:Hid (eV l a size way=if way=2/\¬a%8=0 then (3,a) else gA l a way size.toNat):=rfl;obtain⟨⟨R1,R2⟩,hR⟩:∃R,R=eV l a size way:=⟨_,rfl⟩;rw[<- hR] at HF ⊢;clear hR h hf;unfold Dp;simp only;obtain⟨ao,vn,cap,rfl⟩:∃ao n cap,v=.slice ao n cap:=by
  obtain⟨ao,cap,h,_⟩:=HH.o
  grind
 have htm:a.tmod 8=0↔a%8=0:=by grind
 by_cases hal:way=2/\¬a%8=0
 · have HR:Hid ((R1,R2)=(3,a)):=by grind
   obtain⟨rfl,hal⟩:=hal;have h8:(a.tmod 8==0)=false:=by grind
   clear htm hal;go_enter Tryz.func96,Tryz.ntmps96;go_wp2;exact cm (v:=.agg #[I 3,I a]) (by simp[results,Tryz.results96,go_sem]) rfl ⟨by grind [Hid.o],(aK w.heap.size w).alloc (aI _) _⟩
 · have HR:Hid ((R1,R2)=gA l a way size.toNat):=by grind
   clear HF;by_cases c:way=2
   · subst c;have h8:a.tmod 8=0:=htm.2 (xE.1 (fun g=>hal ⟨rfl,g⟩));clear htm hal;go_enter Tryz.func96,Tryz.ntmps96;go_wp2_with fail
     go_loopw [23] (fun iv wr=>∃k:Nat,k<=size.toNat/\iv=I (k:Int)/\gA l a 2 k=(0,0)/\wr.heap[w.heap.size]?=some (.cells #[I 0,I 0] 36 (0,0))/\Below w.heap.size w wr) (fun iv _=>size.toNat-(intOf iv).toNat)
     case atStart=>exact⟨0,by omega,rfl,rfl,X0.o,eU.o⟩
     case round =>
      obtain⟨k,hk,rfl,tq,hx,hb⟩:=hrel;have HN:=ai tq;have HX:=ai hx;have HB:=ai hb;clear tq hx hb X0 eU;by_cases hlt:(k:Int)<size
      · have hsm:-9223372036854775808<=a+k/\a+k<=9223372036854775807:=by
         cases k with
         | zero=>omega
         | succ j =>
          have:=sV HN.o;omega
        have HST:=ai (qX HN.o);have A4:Hid (∀f:Int×Int,gA l a 2 (k+1)=f->¬f.1=0->(R1,R2)=f):=fun f h1 h2=>HR.o.trans (yJ h1 h2 _ (by omega))
        have A3:=ai (fun V hV=>GR.o ((a+k).tdiv 16) V hV);have HQ:Hid (0<=a+k->(a+k).tdiv 16=(a+k)/16):=fun h=>C3 h
        obtain⟨⟨⟨pp,pn,pt,pz⟩,ok⟩,hF⟩:∃F,F=bh l ((a+k).tdiv 16):=⟨_,rfl⟩;have UK:=ai hF;rw[<- hF] at A3;have Xv:Hid (∀V,fu V (.slice ao vn cap) l->Calls Tryz.prog 70 #[.slice ao vn cap,I ((a+k).tdiv 16)] V fun e w'=>e=.returned (.tuple #[.agg #[I pp,I pn,I pt,.bool pz],.bool ok])/\Below V.heap.size V w'):=A3;clear hF A3;have YH:Hid ((a+k<0->j5 l (a+k) 2=(1,a+k))/\(0<=a+k->ok=false->j5 l (a+k) 2=(1,a+k))/\(0<=a+k->ok=true->0<=pt/\pt<=3/\(l8 pt 2=true->j5 l (a+k) 2=(2,a+k))/\(l8 pt 2=false->j5 l (a+k) 2=(0,0)))):=by
         refine⟨fun h=>yc (.inl h),fun h h2=>?_,fun h h2=>?_⟩
         · grind [yc,Hid.o]
         · have e1:=UK.o;rw[HQ.o h] at e1;have h3:(bh l ((a+k)/16)).2=true:=by grind
           have h4:=pC (p7 h3) h3
           grind [D2,MB]
        clear UK;by_cases hneg:a+k<0
        · have zk:=ai (A4.o _ (HST.o.trans (YH.o.1 hneg)) (by simp));clear YH A4 HST;go_wp2_with (go_at_call 70;refine(Xv.o _ (HH.o.below HB.o)).mono ?_;rintro e w1 ⟨rfl,hb1⟩;have dz:=ai (cd HB.o hb1);have X1:=ai (aQ HX.o hb1 (aT HX.o));clear hb1;have OJ:=aT X1.o;obtain⟨x0,x1⟩:=nM X1.o;have f0:∀k,w1.frozen? (Ad w.heap.size k)=false:=fun k=>aO X1.o k)
          exact cm (v:=.agg #[I 1,I (a+k)]) (by simp[results,Tryz.results96,go_sem,x0,x1,OJ]) rfl ⟨by rw[(oa zk.o).1,(oa zk.o).2],(mv dz.o (aI _) _ _).alloc (by simp;omega) _⟩
        · have hnn:0<=a+k:=by omega
          have Xu:=Xv;rw[HQ.o hnn] at Xu;clear hneg Xv HQ;cases ok with
          | false =>
           have zk:=ai (A4.o _ (HST.o.trans (YH.o.2.1 (by omega) rfl)) (by simp));clear YH A4 HST;go_wp2_with (go_at_call 70;refine(Xu.o _ (HH.o.below HB.o)).mono ?_;rintro e w1 ⟨rfl,hb1⟩;have dz:=ai (cd HB.o hb1);have X1:=ai (aQ HX.o hb1 (aT HX.o));clear hb1;have OJ:=aT X1.o;obtain⟨x0,x1⟩:=nM X1.o;have f0:∀k,w1.frozen? (Ad w.heap.size k)=false:=fun k=>aO X1.o k)
           exact cm (v:=.agg #[I 1,I (a+k)]) (by simp[results,Tryz.results96,go_sem,x0,x1,OJ]) rfl ⟨by rw[(oa zk.o).1,(oa zk.o).2],(mv dz.o (aI _) _ _).alloc (by simp;omega) _⟩
          | true =>
           have hpt:=YH.o.2.2 hnn rfl;have Vy:=DY pt 2 hpt.1 hpt.2.1;have R9:=ai hpt.2.2;have Dt:Hid (∀V,Calls Tryz.prog 140 #[I 2] V fun e w'=>e=.returned (I (qB 2))/\Below V.heap.size V w'):=fun V=>(GZ 2 V).mono fun e w' ⟨h1,h2⟩=>⟨h1,by grind [Below.refl]⟩
           clear hpt YH;obtain⟨RN,hRN⟩:=ex (qB 2);rw[<- hRN] at Vy Dt;clear hRN;go_wp2_with (go_at_call 70;refine(Xu.o _ (HH.o.below HB.o)).mono ?_;rintro e w1 ⟨rfl,hb1⟩;have dz:=ai (cd HB.o hb1);have X1:=ai (aQ HX.o hb1 (aT HX.o));clear hb1;have OJ:=aT X1.o)
           obtain⟨W,hW⟩:=ex (w1.alloc (.cells #[I pp,I pn,I pt,.bool pz] 47));have HW:=ai hW;have hs:W.heap.size=w1.heap.size+1:=by simp_all
           have uP:=gG W;have hkc:=@fD W;have c2:∀x:dm W.heap.size W,x.world.cell? (Ad w1.heap.size 2)=some (I pt):=fun x=>by simp_all
           have R8:Hid (Below w.heap.size w W):=by show Below _ _ _;rw[hW];exact dz.o.alloc dz.o.size _
           have XW:Hid (W.heap[w.heap.size]?=some (.cells #[I 0,I 0] 36 (0,0))):=by show _=_;rw[hW];exact bM X1.o _
           clear hW hs hkc;rw[<- HW.o];cases Na:l8 pt 2 with
           | true =>
            rw[Na] at Vy;have aeV:(bits BinOp.and IntKind.i64 pt RN==RN)=false:=Vy;have zk:=ai (A4.o _ (HST.o.trans (R9.o.1 Na)) (by simp));clear A4 HST R9 Vy Na;refine cA (by rfl) (by kernel_rfl) ?_
            repeat (first | go_big_quiet_step ((go_at_call 140;exact fH Dt.o _)) | quiet_step ((go_at_call 140;exact fH Dt.o _)))
            refine fK ?_;intro _ hw';obtain⟨x,hw''⟩:=hw';subst hw'';have gj:=ai (cd R8.o x.keeps);have X2:=ai (aQ XW.o x.keeps (aT XW.o));obtain⟨w2,KQ⟩:=ex x.world;rw[<- KQ] at gj X2 ⊢;clear KQ c2;obtain⟨x0,x1⟩:=nM X2.o;have f0:∀k,w2.frozen? (Ad w.heap.size k)=false:=fun k=>aO X2.o k
            go_wp2;exact cm (v:=.agg #[I 2,I (a+k)]) (by simp[results,Tryz.results96,go_sem,x0,x1]) rfl ⟨by rw[(oa zk.o).1,(oa zk.o).2],mv gj.o (aI _) _ _⟩
           | false =>
            rw[Na] at Vy;have aeV:(bits BinOp.and IntKind.i64 pt RN==RN)=true:=Vy;have qH:=ai (HST.o.trans (R9.o.2 Na));clear A4 HST R9 Vy Na;refine cA (by rfl) (by kernel_rfl) ?_
            repeat (first | go_big_quiet_step ((go_at_call 140;exact fH Dt.o _)) | quiet_step ((go_at_call 140;exact fH Dt.o _)))
            refine fK ?_;intro _ hw';obtain⟨x,hw''⟩:=hw';subst hw'';have gj:=ai (cd R8.o x.keeps);have X2:=ai (aQ XW.o x.keeps (aT XW.o));obtain⟨w2,KQ⟩:=ex x.world;rw[<- KQ] at gj X2 ⊢;clear KQ c2;go_wp2
            grind [intOf,Hid.o]
      · have hke:k=size.toNat:=by omega
        have zk:Hid ((R1,R2)=(0,0)):=by grind [Hid.o]
        obtain⟨x0,x1⟩:=nM HX.o;have f0:∀k,wr.frozen? (Ad w.heap.size k)=false:=fun k=>aO HX.o k
        clear hke;go_wp2;exact cm (v:=.agg #[I 0,I 0]) (by simp[results,Tryz.results96,go_sem,x0,x1]) rfl ⟨by rw[(oa zk.o).1,(oa zk.o).2],mv HB.o (aI _) _ _⟩
   · have hw2:(way==2)=false:=by grind
     clear htm hal c;go_enter Tryz.func96,Tryz.ntmps96;go_wp2_with fail
     go_loopw [23] (fun iv wr=>∃k:Nat,k<=size.toNat/\iv=I (k:Int)/\gA l a way k=(0,0)/\wr.heap[w.heap.size]?=some (.cells #[I 0,I 0] 36 (0,0))/\Below w.heap.size w wr) (fun iv _=>size.toNat-(intOf iv).toNat)
     case atStart=>exact⟨0,by omega,rfl,rfl,X0.o,eU.o⟩
     case round =>
      obtain⟨k,hk,rfl,tq,hx,hb⟩:=hrel;have HN:=ai tq;have HX:=ai hx;have HB:=ai hb;clear tq hx hb X0 eU;by_cases hlt:(k:Int)<size
      · have hsm:-9223372036854775808<=a+k/\a+k<=9223372036854775807:=by
         cases k with
         | zero=>omega
         | succ j =>
          have:=sV HN.o;omega
        have HST:=ai (qX HN.o);have A4:Hid (∀f:Int×Int,gA l a way (k+1)=f->¬f.1=0->(R1,R2)=f):=fun f h1 h2=>HR.o.trans (yJ h1 h2 _ (by omega))
        have A3:=ai (fun V hV=>GR.o ((a+k).tdiv 16) V hV);have HQ:Hid (0<=a+k->(a+k).tdiv 16=(a+k)/16):=fun h=>C3 h
        obtain⟨⟨⟨pp,pn,pt,pz⟩,ok⟩,hF⟩:∃F,F=bh l ((a+k).tdiv 16):=⟨_,rfl⟩;have UK:=ai hF;rw[<- hF] at A3;have Xv:Hid (∀V,fu V (.slice ao vn cap) l->Calls Tryz.prog 70 #[.slice ao vn cap,I ((a+k).tdiv 16)] V fun e w'=>e=.returned (.tuple #[.agg #[I pp,I pn,I pt,.bool pz],.bool ok])/\Below V.heap.size V w'):=A3;clear hF A3;have YH:Hid ((a+k<0->j5 l (a+k) way=(1,a+k))/\(0<=a+k->ok=false->j5 l (a+k) way=(1,a+k))/\(0<=a+k->ok=true->0<=pt/\pt<=3/\(l8 pt way=true->j5 l (a+k) way=(2,a+k))/\(l8 pt way=false->j5 l (a+k) way=(0,0)))):=by
         refine⟨fun h=>yc (.inl h),fun h h2=>?_,fun h h2=>?_⟩
         · grind [yc,Hid.o]
         · have e1:=UK.o;rw[HQ.o h] at e1;have h3:(bh l ((a+k)/16)).2=true:=by grind
           have h4:=pC (p7 h3) h3
           grind [D2,MB]
        clear UK;by_cases hneg:a+k<0
        · have zk:=ai (A4.o _ (HST.o.trans (YH.o.1 hneg)) (by simp));clear YH A4 HST;go_wp2_with (go_at_call 70;refine(Xv.o _ (HH.o.below HB.o)).mono ?_;rintro e w1 ⟨rfl,hb1⟩;have dz:=ai (cd HB.o hb1);have X1:=ai (aQ HX.o hb1 (aT HX.o));clear hb1;have OJ:=aT X1.o;obtain⟨x0,x1⟩:=nM X1.o;have f0:∀k,w1.frozen? (Ad w.heap.size k)=false:=fun k=>aO X1.o k)
          exact cm (v:=.agg #[I 1,I (a+k)]) (by simp[results,Tryz.results96,go_sem,x0,x1,OJ]) rfl ⟨by rw[(oa zk.o).1,(oa zk.o).2],(mv dz.o (aI _) _ _).alloc (by simp;omega) _⟩
        · have hnn:0<=a+k:=by omega
          have Xu:=Xv;rw[HQ.o hnn] at Xu;clear hneg Xv HQ;cases ok with
          | false =>
           have zk:=ai (A4.o _ (HST.o.trans (YH.o.2.1 (by omega) rfl)) (by simp));clear YH A4 HST;go_wp2_with (go_at_call 70;refine(Xu.o _ (HH.o.below HB.o)).mono ?_;rintro e w1 ⟨rfl,hb1⟩;have dz:=ai (cd HB.o hb1);have X1:=ai (aQ HX.o hb1 (aT HX.o));clear hb1;have OJ:=aT X1.o;obtain⟨x0,x1⟩:=nM X1.o;have f0:∀k,w1.frozen? (Ad w.heap.size k)=false:=fun k=>aO X1.o k)
           exact cm (v:=.agg #[I 1,I (a+k)]) (by simp[results,Tryz.results96,go_sem,x0,x1,OJ]) rfl ⟨by rw[(oa zk.o).1,(oa zk.o).2],(mv dz.o (aI _) _ _).alloc (by simp;omega) _⟩
          | true =>
           have hpt:=YH.o.2.2 hnn rfl;have Vy:=DY pt way hpt.1 hpt.2.1;have R9:=ai hpt.2.2;have Dt:Hid (∀V,Calls Tryz.prog 140 #[I way] V fun e w'=>e=.returned (I (qB way))/\Below V.heap.size V w'):=fun V=>(GZ way V).mono fun e w' ⟨h1,h2⟩=>⟨h1,by grind [Below.refl]⟩
           clear hpt YH;obtain⟨RN,hRN⟩:=ex (qB way);rw[<- hRN] at Vy Dt;clear hRN;go_wp2_with (go_at_call 70;refine(Xu.o _ (HH.o.below HB.o)).mono ?_;rintro e w1 ⟨rfl,hb1⟩;have dz:=ai (cd HB.o hb1);have X1:=ai (aQ HX.o hb1 (aT HX.o));clear hb1;have OJ:=aT X1.o)
           obtain⟨W,hW⟩:=ex (w1.alloc (.cells #[I pp,I pn,I pt,.bool pz] 47));have HW:=ai hW;have hs:W.heap.size=w1.heap.size+1:=by simp_all
           have uP:=gG W;have hkc:=@fD W;have c2:∀x:dm W.heap.size W,x.world.cell? (Ad w1.heap.size 2)=some (I pt):=fun x=>by simp_all
           have R8:Hid (Below w.heap.size w W):=by show Below _ _ _;rw[hW];exact dz.o.alloc dz.o.size _
           have XW:Hid (W.heap[w.heap.size]?=some (.cells #[I 0,I 0] 36 (0,0))):=by show _=_;rw[hW];exact bM X1.o _
           clear hW hs hkc;rw[<- HW.o];cases Na:l8 pt way with
           | true =>
            rw[Na] at Vy;have aeV:(bits BinOp.and IntKind.i64 pt RN==RN)=false:=Vy;have zk:=ai (A4.o _ (HST.o.trans (R9.o.1 Na)) (by simp));clear A4 HST R9 Vy Na;refine cA (by rfl) (by kernel_rfl) ?_
            repeat (first | go_big_quiet_step ((go_at_call 140;exact fH Dt.o _)) | quiet_step ((go_at_call 140;exact fH Dt.o _)))
            refine fK ?_;intro _ hw';obtain⟨x,hw''⟩:=hw';subst hw'';have gj:=ai (cd R8.o x.keeps);have X2:=ai (aQ XW.o x.keeps (aT XW.o));obtain⟨w2,KQ⟩:=ex x.world;rw[<- KQ] at gj X2 ⊢;clear KQ c2;obtain⟨x0,x1⟩:=nM X2.o;have f0:∀k,w2.frozen? (Ad w.heap.size k)=false:=fun k=>aO X2.o k
            go_wp2;exact cm (v:=.agg #[I 2,I (a+k)]) (by simp[results,Tryz.results96,go_sem,x0,x1]) rfl ⟨by rw[(oa zk.o).1,(oa zk.o).2],mv gj.o (aI _) _ _⟩
           | false =>
            rw[Na] at Vy;have aeV:(bits BinOp.and IntKind.i64 pt RN==RN)=true:=Vy;have qH:=ai (HST.o.trans (R9.o.2 Na));clear A4 HST R9 Vy Na;refine cA (by rfl) (by kernel_rfl) ?_
            repeat (first | go_big_quiet_step ((go_at_call 140;exact fH Dt.o _)) | quiet_step ((go_at_call 140;exact fH Dt.o _)))
            refine fK ?_;intro _ hw';obtain⟨x,hw''⟩:=hw';subst hw'';have gj:=ai (cd R8.o x.keeps);have X2:=ai (aQ XW.o x.keeps (aT XW.o));obtain⟨w2,KQ⟩:=ex x.world;rw[<- KQ] at gj X2 ⊢;clear KQ c2;go_wp2
            grind [intOf,Hid.o]
      · have hke:k=size.toNat:=by omega
        have zk:Hid ((R1,R2)=(0,0)):=by grind [Hid.o]
        obtain⟨x0,x1⟩:=nM HX.o;have f0:∀k,wr.frozen? (Ad w.heap.size k)=false:=fun k=>aO HX.o k
        clear hke;go_wp2;exact cm (v:=.agg #[I 0,I 0]) (by simp[results,Tryz.results96,go_sem,x0,x1]) rfl ⟨by rw[(oa zk.o).1,(oa zk.o).2],mv HB.o (aI _) _ _⟩
open Go.RowKit
theorem nQ {l:List aZ} {a n way:Int} (h1:1<=n) (h8:n<=8) (h:(eV l a n way).1=0):eV l a n way=(0,0)/\16<=a/\a+n<=4096/\∀i,0<=i->i<n->(bh l ((a+i)/16)).2=true:=by
 have hb:eV l a n way=gA l a way n.toNat:=by
  unfold eV at h ⊢;by_cases c:way=2/\¬a%8=0
  · rw[aR c] at h;cases h
  · rw[bf c]
 rw[hb] at h ⊢;have all:∀m:Nat,(gA l a way m).1=0->gA l a way m=(0,0)/\∀i:Nat,i<m->(j5 l (a+i) way).1=0:=fun m=>by
  induction m with
  | zero=>intro _;exact⟨rfl,fun i hi=>by omega⟩
  | succ m ih =>
   intro hm;have h0:(gA l a way m).1=0:=by
    by_cases c:(gA l a way m).1=0
    · exact c
    · rw[gA,bf c] at hm;exact hm
   obtain⟨e,hi⟩:=ih h0;rw[qX e] at hm ⊢;refine⟨(sW hm).1,fun i hlt=>?_⟩;by_cases c:i=m
   · subst c;exact hm
   · exact hi i (by omega)
 obtain⟨e,hi⟩:=all n.toNat h;obtain⟨m,hm⟩:∃m,n.toNat=m+1:=⟨n.toNat-1,by omega⟩;have hs:=sV (l:=l) (a:=a) (way:=way) (k:=m) (by rw[<- hm];exact e);refine⟨e,hs.1,by omega,fun i h0 hn=>?_⟩;have:=hi i.toNat (by omega);rw[show a+(i.toNat:Int)=a+i by omega] at this;exact(sW this).2.2.1
theorem wL {lo mb:Nat} {tt:TypeId} {X:List Value} (k:aN) (S:dE) (w:World) (j:Nat) (a n way:Int) (h:bu lo mb tt X w S k) (hR:bc k) (hj:j<k.aj.length) (ha:eY a) (hn:1<=n/\n<=8) (hf:(eV (ak k.aj j).bk a n way).1≠0) :
  Calls Tryz.prog 52 #[.pointer (some (Ad mb 0)),I (j:Int),I a,I n,I way] w fun e w'=>e=.returned (.tuple #[Nl,.agg #[I (eV (ak k.aj j).bk a n way).1,I (eV (ak k.aj j).bk a n way).2]])/\Below w.heap.size w w':=by
 have hcc:=hR.c;obtain⟨pb,cP,A⟩:=h.toKr.sp (by omega);have c3:=h.c3;rw[A.v] at c3;have a1:=A.x1 j hj;have hfit:fU (ak k.aj j).bk:=lC _ (hR.sp hj).bk;have xx:=ai (fun V (hb:Below w.heap.size w V)=>PE _ _ a n way V (fu.below (h.toKr.bk hj) hb) hfit ha (by omega));obtain⟨ax,cx,Av,_,_⟩:=aY (h.each j hj).bk;rw[Av] at xx a1;have Sw:(j:Int)<(k.aj.length:Int):=by omega
 have yT:=h.lt;have hpl:=A.lt;unfold Dp at xx;obtain⟨F,hF⟩:=ex (eV (ak k.aj j).bk a n way);rw[<- hF] at xx hf ⊢;obtain⟨f0,f1⟩:=F;simp only at xx hf ⊢;have fb:(f0 != 0)=true:=by simpa using hf
 have eU:=ai ((aK w.heap.size w).alloc (aI _) (.cells #[I 0,I 0] 36));have R0:=ai (bO w #[I 0,I 0] 36);have d3:=(eU.o.cell (p:=(Ad mb 3)) yT).trans c3;have d1:=(eU.o.cell (p:=(Ad pb (j*3+1))) hpl).trans a1;obtain⟨np,Ee⟩:=ex k.aj.length;rw[<- Ee] at d3 Sw;obtain⟨na,Ax⟩:=ex ((ak k.aj j).bk.length);rw[<- Ax] at d1 xx;clear h hR hj A c3 a1 hfit Av hF hf hcc Ee Ax ha hn;go_enter Tryz.func52,Tryz.ntmps52;go_upto_region 3 with(go_at_call 96;refine(xx.o _ eU.o).mono ?_;rintro e w1 ⟨rfl,hb1⟩;have dz:=ai (cd eU.o hb1);have R1:=ai (aQ R0.o hb1 (aT R0.o));have FX:=ai (bO w1 #[I f0,I f1] 36);obtain⟨y0,y1⟩:=nM FX.o;clear hb1)
 have fV:=ai (dz.o.alloc dz.o.size (.cells #[I f0,I f1] 36));have OJ:=aT R1.o;have R2:=ai (bM R1.o (.cells #[I f0,I f1] 36));obtain⟨z0,z1⟩:=nM R2.o;have q0:=aO R2.o 0;have q1:=aO R2.o 1;have hne:¬w.heap.size=w1.heap.size:=by omega
 obtain⟨W,hW⟩:=ex (w1.alloc (.cells #[I f0,I f1] 36));rw[<- hW] at fV R2 z0 z1 q0 q1 y0 y1 ⊢;clear hW;go_region;go_wp2;have R3:((W.setCell (Ad w.heap.size 0) (I f0)).setCell (Ad w.heap.size 1) (I f1)).heap[w.heap.size]?=some (.cells #[I f0,I f1] 36 (0,0)):=dD (dD R2.o 0 _) 1 _;obtain⟨v0,v1⟩:=nM R3;refine cm (v:=.tuple #[Nl,.agg #[I f0,I f1]]) (by simp[results,Tryz.results52,go_sem,v0,v1]) rfl ?_;exact⟨rfl,by first | exact((fV.o.setCell (p:=(Ad w.heap.size 0)) (aI _) _).setCell (p:=(Ad w.heap.size 1)) (aI _) _).drew | exact(fV.o.setCell (p:=(Ad w.heap.size 0)) (aI _) _).setCell (p:=(Ad w.heap.size 1)) (aI _) _⟩
end Go.Proofs.YtpgifpeohlllfaaGreat
