import Derived.Test.YtpgifpeohlllfaaGreatGV21
set_option maxHeartbeats 20000000
set_option linter.unusedVariables false
set_option maxRecDepth 100000
set_option linter.unusedSimpArgs false
namespace Go.Proofs.YtpgifpeohlllfaaGreat
namespace Go.Proofs.YtpgifpeohlllfaaGreat
open Go.RowKit
theorem Pk {lo mb:Nat} {tt:TypeId} {X:List Value} (k:aN) (S:dN) (w:World) (j:Nat) (p:Int) (held:List Int) (ah:Option Addr) (ch:Nat) (h:bQ lo mb tt X w S k) (hR:bg k) (hj:j<k.aj.length) (hp:cV k j p) (hX:Jp X k.aA) (hl:held.length<=2) (hH:kL w S ah held) :
  Calls Tryz.prog 141 #[.pointer (some (Ad mb 0)),I (j:Int),I p,.slice ah held.length ch] w (dK lo mb tt X w S (I ((di k j p held).1:Int)) (di k j p held).2):=by
 cases he:bD (ak k.aj j).aW p with
 | none=>exact Ng k S w j p held ah ch h hR hj he hp hX hl hH
 | some e =>
  by_cases hk:e.kind=1
  · exact Nh k S w j p held ah ch e h hR hj he hk
  · exact Hb k S w j p held ah ch e h hR hj he hk hl hH
theorem Ac:∀l:List Int,∀u∈l.flatMap eZ,u.oneCell'=true:=fun l u hu=>by
 obtain⟨y,_,hy⟩:=vZ.1 hu;simp[eZ] at hy;rw[hy];rfl
theorem xV {w:World} {ah:Option Addr} {l:List Int} (h:dz eZ 1 0 w ah l):lJ w ah l.length (l.flatMap eZ):=fun hm=>by
 obtain⟨b,off,rfl,hb,hl⟩:=h hm;exact xW (w:=w) eZ 1 (fun _=>rfl) 0 l b off (fun i hi j hj=>hl i hi j hj) hm
theorem wY {w:World} {base:Nat} {S:dN} {ao:Option Addr} {n c:Nat} {l:List Int} (hr:w.ownsRow base 3 1 (.slice ao n c) l.length (l.flatMap eZ)) (hno:∀b,bI (.slice ao n c) b->S.lab b=.no):n=l.length/\kL w S ao l:=by
 obtain⟨a,cap,e,_,hrow⟩:=nD eZ (fun _=>rfl) 0 hr;injection e with e1 e2 e3;subst e1 e2;refine⟨rfl,hrow,fun b off e=>?_,fun b off e=>?_⟩
 · subst e;refine hno b ?_;rfl
 · subst e;rcases hr.2 with⟨h0,_⟩ | ⟨g,cap',cur,hv,_,hg,_⟩
   · cases h0
   grind
theorem UO {lo mb:Nat} {tt:TypeId} {X:List Value} (k:aN) (S:dN) (w:World) (j:Nat) (p:Int) (a:Nat) (held:List Int) (ah:Option Addr) (ch:Nat) (h:bQ lo mb tt X w S k) (hR:bg k) (hj:j<k.aj.length) (ha:bD (ak k.aj j).aW p=some ⟨p,1,a⟩) (hl:held.length<=1) (hH:kL w S ah held) :
  Calls Tryz.prog 142 #[.pointer (some (Ad mb 0)),I (j:Int),I p,I (a:Int),.slice ah held.length ch] w (dK lo mb tt X w S (I ((jz k j p a held).1:Int)) (jz k j p a held).2):=by
 have hcc:=hR.c;have hne:=yX hR hj ha;obtain⟨fb,cF,A⟩:=h.toiZ.fr (by omega);have c1:=h.c1;rw[A.v] at c1;have x1:=A.x1 a hne.1;have hai:(a:Int)<(k.frames.length:Int):=by omega
 by_cases c:(au k.frames a).refs=1
 · have hP:jz k j p a held=(a,k):=by grind [jz]
   rw[hP];have cZ:Hid (dK lo mb tt X w S (I (a:Int)) k (.returned (I (a:Int))) w):=⟨rfl,S,h,dI.refl _ _⟩;obtain⟨P,OD⟩:=ex (dK lo mb tt X w S (I (a:Int)) k);rw[<- OD] at cZ ⊢;rw[c] at x1;obtain⟨nf,rU⟩:=ex k.frames.length;rw[<- rU] at c1 hai;clear hP OD c h hR hj ha hH hl A hne hcc rU;go_enter Tryz.func142,Tryz.ntmps142;go_wp2;exact cZ.o
 · have hl2:(held++[(a:Int)]).length<=2:=by grind
   have G:=mK hR hl2;have hH1:=G.L5 a (lT.2 (.inr (by simp))) hne.2;have hent:bD (ak (bH k (held++[(a:Int)])).2.aj j).aW p=some ⟨p,1,a⟩:=G.stay hR hj ha (fun _=>lT.2 (.inr (by simp)));obtain⟨k1,hk1⟩:=ex ((bH k (held++[(a:Int)])).2);obtain⟨i,hi⟩:=ex ((bH k (held++[(a:Int)])).1);have hP:jz k j p a held=(i,fe k1 j p i (au k1.frames a).data true):=by
    unfold jz
    grind
   have hGT:∀V S',bQ lo mb tt X V S' k->∀ah' ch',kL V S' ah' (held++[(a:Int)])->Calls Tryz.prog 165 #[.pointer (some (Ad mb 0)),.slice ah' (held++[(a:Int)]).length ch'] V (dK lo mb tt X V S' (I (i:Int)) k1):=fun V S' hV ah' ch' hh=>by
    have:=Hc k S' V (held++[(a:Int)]) ah' ch' hV hR hl2 hh;rw[<- hk1,<- hi] at this;exact this
   rw[<- hk1] at hent hH1;rw[<- hi] at hH1;have QI:j<k1.aj.length:=by have:=G.kept.np;grind
   have aiP:k1.frames.length=k.frames.length:=by have:=G.kept.nf;grind
   have hi1:i<k1.frames.length:=by rw[aiP,hi];exact G.lt
   have ha1:a<k1.frames.length:=by omega
   have DR:bg k1:=by have:=G.right;grind
   have ZU:=jC DR QI;have ai2:=DR.c;have hrf:=(o7 DR).1 a ha1;obtain⟨D,hD⟩:=ex ((au k1.frames a).data);have ai7:i≠a:=fun e=>hH1.1 e.symm
   have hfa:au (fC k1 i D true).frames a=au k1.frames a:=by
    show au (k1.frames.set i _) a=_;rw[jc _ _ _ _ hi1,bl ai7]
   have hra:¬(au k1.frames a).refs-1=0:=by grind
   obtain⟨K2,hK2⟩:∃K2:aN,K2={ fC k1 i D true with frames:=(fC k1 i D true).frames.set a ⟨(au k1.frames a).data,(au k1.frames a).refs-1,(au k1.frames a).fN,(au k1.frames a).seen⟩ }:=⟨_,rfl⟩;have hmv:fe k1 j p i D true=dW K2 j ⟨p,1,i⟩:=by
    unfold fe;rw[hent];show df _ _=_;rw[<- El];congr 1;unfold df;rw[bf rfl,hK2];show({ fC k1 i D true with frames:=(fC k1 i D true).frames.set (a:Int).toNat (nO (au (fC k1 i D true).frames (a:Int).toNat)) }:aN)=_;rw[iu,hfa];unfold nO
    grind
   rw[hP,<- hD,hmv];have Kv:Hid (∀V S',bQ lo mb tt X V S' k1->∃fb cF,V.cell? (Ad mb 1)=some (.slice (some (Ad fb 0)) k1.frames.length cF)/\¬mb=fb/\V.cell? (Ad fb (a*4))=some (.string D)/\V.cell? (Ad fb (i*4))=some (.string (au k1.frames i).data)/\V.cell? (Ad fb (i*4+1))=some (I (au k1.frames i).refs)/\V.cell? (Ad fb (i*4+2))=some (.bool (au k1.frames i).fN)/\V.cell? (Ad fb (i*4+3))=some (.bool (au k1.frames i).seen)/\V.frozen? (Ad fb (i*4))=false/\V.frozen? (Ad fb (i*4+1))=false/\V.frozen? (Ad fb (i*4+2))=false/\V.frozen? (Ad fb (i*4+3))=false /\
     (∀U,U=((((V.setCell (Ad fb (i*4)) (.string D)).setCell (Ad fb (i*4+1)) (I 1)).setCell (Ad fb (i*4+2)) (.bool true)).setCell (Ad fb (i*4+3)) (.bool false)).drew->U.cell? (Ad mb 1)=some (.slice (some (Ad fb 0)) k1.frames.length cF)/\U.cell? (Ad fb (a*4+1))=some (I (au k1.frames a).refs)/\U.frozen? (Ad fb (a*4+1))=false/\bQ lo mb tt X (U.setCell (Ad fb (a*4+1)) (I ((au k1.frames a).refs-1))) S' K2/\dI S' V S' (U.setCell (Ad fb (a*4+1)) (I ((au k1.frames a).refs-1))))):=fun V S' hV=>by
    obtain⟨fb,cF,A⟩:=hV.toiZ.fr (by omega);have c1:=hV.c1;rw[A.v] at c1;refine⟨fb,cF,c1,fun e=>by have:=A.lab;rw[<- e,hV.lH] at this;simp at this,by rw[hD];exact A.x0 a ha1,A.x0 i hi1,A.x1 i hi1,A.x2 i hi1,A.x3 i hi1,A.fz _,A.fz _,A.fz _,A.fz _,fun U hU=>?_⟩;have m:=hV.WW A.v hi1 ⟨D,1,true,false⟩;have m1:bQ lo mb tt X U S' (fC k1 i D true):=by subst hU;exact m.1.below (aK _ _).drew
    have ch1:dI S' V S' U:=by subst hU;exact m.2.trans (dI.below (aK _ _).drew)
    have hln:(fC k1 i D true).frames.length=k1.frames.length:=jk;obtain⟨fb',cF',A'⟩:=m1.toiZ.fr (by omega);have e:fb'=fb:=by
     have:=A'.v;rw[A.v] at this;injection this with e1 _ _;injection e1 with e1;injection e1 with e1 _ _;omega
    subst e;have c1':=m1.c1;rw[A.v] at c1';have y1:=A'.x1 a (by omega);rw[hfa] at y1;refine⟨c1',y1,A'.fz _,?_,ch1.trans (tV m1.toiZ A'.v)⟩;rw[hK2];exact m1.Ch A'.v (i:=a) (by omega) (j:=1) (by omega) (by rw[hfa];rfl)
   have HET:Hid (∀V S',bQ lo mb tt X V S' K2->Calls Tryz.prog 166 #[.pointer (some (Ad mb 0)),I (j:Int),.agg #[I p,I 1,I (i:Int)]] V (dK lo mb tt X V S' (.tuple #[]) (dW K2 j ⟨p,1,i⟩))):=fun V S' hV=>by
    have hsp:K2.aj=k1.aj:=by rw[hK2];rfl
    exact CN _ S' V j ⟨p,1,i⟩ hV (by grind) (by grind) (by grind)
   have cZ:Hid (∀V S',bQ lo mb tt X V S' (dW K2 j ⟨p,1,i⟩)->dI S w S' V->dK lo mb tt X w S (I (i:Int)) (dW K2 j ⟨p,1,i⟩) (.returned (I (i:Int))) V):=fun V S' h1 h2=>⟨rfl,S',h1,h2⟩
   obtain⟨K3,hK3⟩:=ex (dW K2 j ⟨p,1,i⟩);rw[<- hK3] at HET cZ ⊢;obtain⟨P,OD⟩:=ex (dK lo mb tt X w S (I (i:Int)) K3);rw[<- OD] at cZ ⊢;have Oj:Hid (Calls Tryz.prog 167 #[.slice ah held.length ch] w fun e w'=>∃av cv,e=.returned (.slice av held.length cv)/\w'.ownsRow w.heap.size 3 1 (.slice av held.length cv) held.length (held.flatMap eZ)/\Below w.heap.size w w'):=(abC ah held.length ch (held.flatMap eZ) w (fF eZ 1 (fun _=>rfl) held) (xV hH.has) (Ac held) (by omega)).mono fun e w' ⟨v,h1,h2,h3⟩=>by
    obtain⟨av,cv,rfl,_⟩:=aY h2;exact⟨av,cv,h1,h2,h3⟩
   have HGT:Hid (∀V U av nv cv,Below w.heap.size w V->U=V->V.ownsRow w.heap.size 3 1 (.slice av nv cv) (held.length+1) (held.flatMap eZ++[I (a:Int)])->Calls Tryz.prog 165 #[.pointer (some (Ad mb 0)),.slice av nv cv] V (dK lo mb tt X V S (I (i:Int)) k1)):=fun V U av nv cv hb _ hr=>by
    have e1:(held++[(a:Int)]).length=held.length+1:=by simp
    have e2:(held++[(a:Int)]).flatMap eZ=held.flatMap eZ++[I (a:Int)]:=by simp[eZ]
    rw[<- e1,<- e2] at hr;obtain⟨q1,q2⟩:=wY (S:=S) hr (fun b hb2=>h.toiZ.new (hr.lt b hb2).1);rw[q1];exact hGT V S (h.below hb) av cv q2
   obtain⟨i0,hin,hz0,hz1,hz2⟩:=iq F7;have tP:=ai hin;have Dg:=ai hz0;have Df:=ai hz1;have BI:=ai hz2;have xb:((au k.frames a).refs==1)=false:=by simpa using c
   obtain⟨R0,hR0⟩:=ex ((au k.frames a).refs);rw[<- hR0] at x1 xb;obtain⟨R1,amf⟩:=ex ((au k1.frames a).refs);rw[<- amf] at Kv hrf;have hw1:IntKind.i64.wrap (R1-1)=R1-1:=mP _ (by omega);obtain⟨FR,SM⟩:=ex (au k1.frames i);rw[<- SM] at Kv;obtain⟨nf,rU⟩:=ex k.frames.length;rw[aiP,<- rU] at Kv;rw[<- rU] at c1 hai;have Gd:(i:Int)<(nf:Int):=by omega
   have hhl:held.length<=1:=hl;clear hP OD c h hR hj ha hH hl A hne hcc rU hin hz0 hz1 hz2 SM amf hR0 hK3 hGT hmv hK2 hra hfa ai7 hD hrf ai2 ZU DR ha1 hi1 aiP QI hH1 hent hi G hl2 hk1;go_enter Tryz.func142,Tryz.ntmps142;go_upto_region 4 with(first
    | (at_builtin;refine dU (P:=Tryz.prog) rfl _ _ 99 rfl w.heap.size 3 i0 (I 0) 1 8 Tryz.underlying99 tP.o Dg.o Df.o BI.o rfl (by decide) _ held.length (held.flatMap eZ) rfl Si.o (some (Ad w1.heap.size 0)) 1 1 [I (a:Int)] rfl rfl (fun _=>⟨_,rfl,vU (bG w1 _ _)⟩) (by intro u hu;simp at hu;rw[hu];rfl) (by unfold maxLen;omega) (by omega) (by have:=cT.o.size;simp;omega) ?_;intro v' w' hown hgr hat;obtain⟨aG,cG,MT,_,_⟩:=aY hown;subst MT;have za:=ai hown;have fq:=ai ((cT.o.alloc cT.o.size (.cells #[I (a:Int)] 3)).grown hgr (by have:=cT.o.size;simp;omega) (fun q hq=>(Si.o.lt q hq).1));clear hown hgr hat)
    | (go_at_call 167;refine Oj.o.mono ?_;rintro e w1 ⟨av,cv,rfl,hr1,hb1⟩;have cT:=ai hb1;have Si:=ai (hr1.alloc (.cells #[I (a:Int)] 3));clear hr1 hb1)
    | (go_at_call 165;refine(HGT.o _ _ _ _ _ fq.o rfl za.o).mono ?_;rintro e w3 ⟨rfl,S3,hk3,hc3⟩;have sX:=ai hk3;have vO:=ai ((dI.below fq.o).trans hc3);clear hk3 hc3))
   obtain⟨fb3,cF3,g1,gne,g2,g3,g4,g5,g6,g7,g8,g9,g10,hfin⟩:=Kv.o w3 S3 sX.o;obtain⟨U,hU⟩:=ex (((((w3.setCell (Ad fb3 (i*4)) (.string D)).setCell (Ad fb3 (i*4+1)) (I 1)).setCell (Ad fb3 (i*4+2)) (.bool true)).setCell (Ad fb3 (i*4+3)) (.bool false)).drew);obtain⟨y1,y2,y3,hk4,QQ⟩:=hfin U hU;have HU:=ai hU;have HK4:=ai hk4;have HC4:=ai (vO.o.trans QQ);clear hfin hU hk4 QQ;go_region;rw[<- HU.o];clear g1 g2 g3 g4 g5 g6 g7 g8 g9 g10 HU;go_wp2_with (go_at_call 166;refine(HET.o _ _ HK4.o).mono ?_;rintro r w5 ⟨rfl,S5,Ou,hc5⟩;have Bj:=ai Ou;have HC5:=ai (HC4.o.trans hc5);clear Ou hc5)
   exact cZ.o _ _ Bj.o HC5.o
theorem UN {lo mb:Nat} {tt:TypeId} {X:List Value} (k:aN) (S:dN) (w:World) (j:Nat) (p way:Int) (held:List Int) (ah:Option Addr) (ch:Nat) (h:bQ lo mb tt X w S k) (hR:bg k) (hj:j<k.aj.length) (hp:cV k j p) (hX:Jp X k.aA) (hl:held.length<=1) (hH:kL w S ah held) :
  Calls Tryz.prog 97 #[.pointer (some (Ad mb 0)),I (j:Int),I p,I way,.slice ah held.length ch] w (dK lo mb tt X w S (I ((dD k j p way held).1:Int)) (dD k j p way held).2):=by
 have FY:=ai (Pk k S w j p held ah ch h hR hj hp hX (by omega) hH);have hB:=(nV hR hj hp way hl).1;have hPB:=uR hR hj hp (held:=held) (by omega);have hcc:=hR.c;have Qm:Hid (∀V S' K i,gX k j p way held=(i,K)->bQ lo mb tt X V S' K->∃fb cF,V.cell? (Ad mb 1)=some (.slice (some (Ad fb 0)) k.frames.length cF)/\¬mb=fb/\i<k.frames.length/\V.cell? (Ad fb (i*4+2))=some (.bool (au K.frames i).fN)/\V.cell? (Ad fb (i*4+3))=some (.bool (au K.frames i).seen)/\V.frozen? (Ad fb (i*4+2))=false/\V.frozen? (Ad fb (i*4+3))=false /\
   (way≠1->bQ lo mb tt X (V.setCell (Ad fb (i*4+3)) (.bool true)) S' (dD k j p way held).2/\dI S' V S' (V.setCell (Ad fb (i*4+3)) (.bool true))) /\
   (way=1->bQ lo mb tt X ((V.setCell (Ad fb (i*4+2)) (.bool true)).setCell (Ad fb (i*4+3)) (.bool true)) S' (dD k j p way held).2/\dI S' V S' ((V.setCell (Ad fb (i*4+2)) (.bool true)).setCell (Ad fb (i*4+3)) (.bool true)))):=fun V S' K i e hV=>by
  have rU:K.frames.length=k.frames.length:=by
   have:=hB.kept.nf;unfold dD at this;rw[e] at this;have this:(K.frames.set i _).length=_:=this
   grind
  have hi:i<k.frames.length:=by
   have:=hB.lt
   grind [dD]
  have hbr:(dD k j p way held).2={ K with frames:=K.frames.set i (sD way (au K.frames i)) }:=by
   unfold dD;rw[e];rfl
  obtain⟨fb,cF,A⟩:=hV.toiZ.fr (by omega);have c1:=hV.c1;rw[A.v,rU] at c1;have hiK:i<K.frames.length:=by omega
  refine⟨fb,cF,c1,fun e=>by have:=A.lab;rw[<- e,hV.lH] at this;grind,hi,A.x2 i hiK,A.x3 i hiK,A.fz _,A.fz _,fun hw=>?_,fun hw=>?_⟩
  · refine⟨?_,tV hV.toiZ A.v⟩;rw[hbr];refine hV.Ch A.v hiK (j:=3) (by omega) ?_;unfold sD;rw[dE hw,Bool.or_false];rfl
  · have m1:=hV.Ch A.v hiK (j:=2) (by omega) (f:=⟨(au K.frames i).data,(au K.frames i).refs,true,(au K.frames i).seen⟩) (u:=.bool true) rfl;have m2:=m1.Ch A.v (i:=i) (by grind) (j:=3) (by omega) (f:=sD way (au K.frames i)) (u:=.bool true) (by
     simp only[au,eX _ _ _ _ hiK];unfold sD;rw[dh hw,Bool.or_true];rfl)
    simp only[rh] at m2;rw[hbr];exact⟨m2,(tV hV.toiZ A.v).trans (tV hV.toiZ A.v)⟩
 have hb1:(dD k j p way held).1=(gX k j p way held).1:=rfl;rw[hb1];have cZ:Hid (∀V S' i,i=(gX k j p way held).1->bQ lo mb tt X V S' (dD k j p way held).2->dI S w S' V->dK lo mb tt X w S (I ((gX k j p way held).1:Int)) (dD k j p way held).2 (.returned (I (i:Int))) V):=fun V S' i hi h1 h2=>⟨by rw[hi],S',h1,h2⟩
 obtain⟨P,hP⟩:=ex (dK lo mb tt X w S (I ((gX k j p way held).1:Int)) (dD k j p way held).2);rw[<- hP] at cZ ⊢;obtain⟨KB,hKB⟩:=ex ((dD k j p way held).2);rw[<- hKB] at cZ Qm;by_cases c:way=1
 · have e2:gX k j p way held=jz (di k j p held).2 j p (di k j p held).1 held:=by grind [gX]
   have HAL:Hid (∀V S',bQ lo mb tt X V S' (di k j p held).2->dI S w S' V->Calls Tryz.prog 142 #[.pointer (some (Ad mb 0)),I (j:Int),I p,I ((di k j p held).1:Int),.slice ah held.length ch] V (dK lo mb tt X V S' (I ((gX k j p way held).1:Int)) (gX k j p way held).2)):=fun V S' hV hc=>by
    rw[e2];exact UO (di k j p held).2 S' V j p (di k j p held).1 held ah ch hV hPB.right (by rw[hPB.kept.np];exact hj) hPB.here hl (hH.ch hc)
   obtain⟨TK,hTK⟩:=ex (gX k j p way held);rw[<- hTK] at HAL cZ Qm;obtain⟨PR,hPR⟩:=ex (di k j p held);rw[<- hPR] at FY HAL;obtain⟨i,K⟩:=TK;obtain⟨ip,aH⟩:=PR;have JZ:=ai (fun V S' hV=>Qm.o V S' K i rfl hV);have qN:=ai (fun V S'=>cZ.o V S' i rfl);simp only at FY HAL;have HW:=ai c;have wb:(way==1)=true:=by grind
   obtain⟨FR,SM⟩:=ex (au K.frames i);rw[<- SM] at JZ;obtain⟨nf,rU⟩:=ex k.frames.length;rw[<- rU] at JZ;clear Qm cZ hP h hR hj hp hX hl hH hB hPB hcc hKB hTK hPR e2 hb1 SM rU c;go_enter Tryz.func97,Tryz.ntmps97;go_upto_region 4 with(first
    | (go_at_call 141;refine FY.o.mono ?_;rintro e w1 ⟨rfl,S1,hk1,hc1⟩;have yj:=ai hk1;have Ht:=ai hc1;clear hk1 hc1)
    | (go_at_call 142;refine(HAL.o _ _ yj.o Ht.o).mono ?_;rintro e w2 ⟨rfl,S2,hk2,hc2⟩;have pH:=ai hk2;have vv:=ai (Ht.o.trans hc2);clear hk2 hc2))
   obtain⟨fb,cF,g1,gne,gi,g2,g3,g4,g5,_,hfin⟩:=JZ.o w2 S2 pH.o;obtain⟨hk3,hc3⟩:=hfin HW.o;have sX:=ai hk3;have vO:=ai (vv.o.trans hc3);have Gd:(i:Int)<(nf:Int):=by omega
   clear hfin hk3 hc3;go_wp2;exact qN.o _ _ sX.o vO.o
 · have e2:gX k j p way held=di k j p held:=by grind [gX]
   rw[<- e2] at FY;obtain⟨TK,hTK⟩:=ex (gX k j p way held);rw[<- hTK] at FY cZ Qm;obtain⟨i,K⟩:=TK;have JZ:=ai (fun V S' hV=>Qm.o V S' K i rfl hV);have qN:=ai (fun V S'=>cZ.o V S' i rfl);simp only at FY;have HW:=ai c;have wb:(way==1)=false:=by grind
   obtain⟨FR,SM⟩:=ex (au K.frames i);rw[<- SM] at JZ;obtain⟨nf,rU⟩:=ex k.frames.length;rw[<- rU] at JZ;clear Qm cZ hP h hR hj hp hX hl hH hB hPB hcc hKB hTK e2 hb1 SM rU c;go_enter Tryz.func97,Tryz.ntmps97;go_upto_region 5 with(go_at_call 141;refine FY.o.mono ?_;rintro e w1 ⟨rfl,S1,hk1,hc1⟩;have yj:=ai hk1;have Ht:=ai hc1;clear hk1 hc1)
   obtain⟨fb,cF,g1,gne,gi,g2,g3,g4,g5,hfin,_⟩:=JZ.o w1 S1 yj.o;obtain⟨hk3,hc3⟩:=hfin HW.o;have sX:=ai hk3;have vO:=ai (Ht.o.trans hc3);have Gd:(i:Int)<(nf:Int):=by omega
   clear hfin hk3 hc3;go_wp2;exact qN.o _ _ sX.o vO.o
def yz (x:Int×Int):Array Value:=#[I x.1,I x.2]
theorem fD {N g:Nat} {w W:World} (h:Below N w W) (hg:N<=g) (v0 v1:Value):Below N w ((W.setCell (Ad g 0) v0).setCell (Ad g 1) v1):=(h.setCell (p:=(Ad g 0)) hg v0).setCell (p:=(Ad g 1)) hg v1
theorem TN (l:List bc) (v:Value) (a size way:Int) (w:World) (h:eU w v l) (hf:ed l) (ha:-9223372036854775808<=a/\a<=9223372036854775807) (hz:size<=9223372036854775807) :
  Calls Tryz.prog 96 #[v,I a,I size,I way] w fun e w'=>e=.returned (.agg (yz (dQ l a size way)))/\Below w.heap.size w w':=by
 have Gi:=ai (fun p V (hV:eU V v l)=>uo l v p V hV hf);have HH:=ai h;have eO:=ai ((aK w.heap.size w).alloc (aM _) (.cells #[I 0,I 0] 36));have X0:=ai (bG w #[I 0,I 0] 36);have HF:Hid (dQ l a size way=if way=2/\¬a%8=0 then (3,a) else gu l a way size.toNat):=rfl;obtain⟨⟨R1,R2⟩,hR⟩:∃R,R=dQ l a size way:=⟨_,rfl⟩;rw[<- hR] at HF ⊢;clear hR h hf;unfold yz;simp only;obtain⟨ao,vn,cap,rfl⟩:∃ao n cap,v=.slice ao n cap:=by
  obtain⟨ao,cap,h,_⟩:=HH.o
  grind
 have htm:a.tmod 8=0↔a%8=0:=by grind
 by_cases hal:way=2/\¬a%8=0
 · have HR:Hid ((R1,R2)=(3,a)):=by grind
   obtain⟨rfl,hal⟩:=hal;have h8:(a.tmod 8==0)=false:=by grind
   clear htm hal;go_enter Tryz.func96,Tryz.ntmps96;go_wp2;exact bR (v:=.agg #[I 3,I a]) (by simp[results,Tryz.results96,go_sem]) rfl ⟨by grind [Hid.o],(aK w.heap.size w).alloc (aM _) _⟩
 · have HR:Hid ((R1,R2)=gu l a way size.toNat):=by grind
   clear HF;by_cases c:way=2
   · subst c;have h8:a.tmod 8=0:=htm.2 (pK.1 (fun g=>hal ⟨rfl,g⟩));clear htm hal;go_enter Tryz.func96,Tryz.ntmps96;go_wp2_with fail
     go_loopw [23] (fun iv wr=>∃k:Nat,k<=size.toNat/\iv=I (k:Int)/\gu l a 2 k=(0,0)/\wr.heap[w.heap.size]?=some (.cells #[I 0,I 0] 36 (0,0))/\Below w.heap.size w wr) (fun iv _=>size.toNat-(intOf iv).toNat)
     case atStart=>exact⟨0,by omega,rfl,rfl,X0.o,eO.o⟩
     case round =>
      obtain⟨k,hk,rfl,rU,hx,hb⟩:=hrel;have HN:=ai rU;have HX:=ai hx;have HB:=ai hb;clear rU hx hb X0 eO;by_cases hlt:(k:Int)<size
      · have hsm:-9223372036854775808<=a+k/\a+k<=9223372036854775807:=by
         cases k with
         | zero=>omega
         | succ j =>
          have:=oK HN.o;omega
        have HST:=ai (pE HN.o);have uu:Hid (∀f:Int×Int,gu l a 2 (k+1)=f->¬f.1=0->(R1,R2)=f):=fun f h1 h2=>HR.o.trans (qW h1 h2 _ (by omega))
        have xJ:=ai (fun V hV=>Gi.o ((a+k).tdiv 16) V hV);have HQ:Hid (0<=a+k->(a+k).tdiv 16=(a+k)/16):=fun h=>Cu h
        obtain⟨⟨⟨pp,pn,pt,pz⟩,ok⟩,hF⟩:∃F,F=aV l ((a+k).tdiv 16):=⟨_,rfl⟩;have E7:=ai hF;rw[<- hF] at xJ;have abx:Hid (∀V,eU V (.slice ao vn cap) l->Calls Tryz.prog 70 #[.slice ao vn cap,I ((a+k).tdiv 16)] V fun e w'=>e=.returned (.tuple #[.agg #[I pp,I pn,I pt,.bool pz],.bool ok])/\Below V.heap.size V w'):=xJ;clear hF xJ;have Ky:Hid ((a+k<0->iw l (a+k) 2=(1,a+k))/\(0<=a+k->ok=false->iw l (a+k) 2=(1,a+k))/\(0<=a+k->ok=true->0<=pt/\pt<=3/\(iz pt 2=true->iw l (a+k) 2=(2,a+k))/\(iz pt 2=false->iw l (a+k) 2=(0,0)))):=by
         refine⟨fun h=>oa (.inl h),fun h h2=>?_,fun h h2=>?_⟩
         · grind [oa,Hid.o]
         · have e1:=E7.o;rw[HQ.o h] at e1;have h3:(aV l ((a+k)/16)).2=true:=by grind
           have h4:=ki (j5 h3) h3
           grind [tA,zh]
        clear E7;by_cases hneg:a+k<0
        · have qj:=ai (uu.o _ (HST.o.trans (Ky.o.1 hneg)) (by simp));clear Ky uu HST;go_wp2_with (go_at_call 70;refine(abx.o _ (HH.o.below HB.o)).mono ?_;rintro e w1 ⟨rfl,hb1⟩;have cT:=ai (bZ HB.o hb1);have X1:=ai (aQ HX.o hb1 (aO HX.o));clear hb1;have G1:=aO X1.o;obtain⟨x0,x1⟩:=kI X1.o;have f0:∀k,w1.frozen? (Ad w.heap.size k)=false:=fun k=>aJ X1.o k)
          exact bR (v:=.agg #[I 1,I (a+k)]) (by simp[results,Tryz.results96,go_sem,x0,x1,G1]) rfl ⟨by rw[(fW qj.o).1,(fW qj.o).2],(fD cT.o (aM _) _ _).alloc (by simp;omega) _⟩
        · have hnn:0<=a+k:=by omega
          have DW:=abx;rw[HQ.o hnn] at DW;clear hneg abx HQ;cases ok with
          | false =>
           have qj:=ai (uu.o _ (HST.o.trans (Ky.o.2.1 (by omega) rfl)) (by simp));clear Ky uu HST;go_wp2_with (go_at_call 70;refine(DW.o _ (HH.o.below HB.o)).mono ?_;rintro e w1 ⟨rfl,hb1⟩;have cT:=ai (bZ HB.o hb1);have X1:=ai (aQ HX.o hb1 (aO HX.o));clear hb1;have G1:=aO X1.o;obtain⟨x0,x1⟩:=kI X1.o;have f0:∀k,w1.frozen? (Ad w.heap.size k)=false:=fun k=>aJ X1.o k)
           exact bR (v:=.agg #[I 1,I (a+k)]) (by simp[results,Tryz.results96,go_sem,x0,x1,G1]) rfl ⟨by rw[(fW qj.o).1,(fW qj.o).2],(fD cT.o (aM _) _ _).alloc (by simp;omega) _⟩
          | true =>
           have hpt:=Ky.o.2.2 hnn rfl;have ZV:=GL pt 2 hpt.1 hpt.2.1;have zF:=ai hpt.2.2;have Gg:Hid (∀V,Calls Tryz.prog 140 #[I 2] V fun e w'=>e=.returned (I (sI 2))/\Below V.heap.size V w'):=fun V=>(J3 2 V).mono fun e w' ⟨h1,h2⟩=>⟨h1,by grind [Below.refl]⟩
           clear hpt Ky;obtain⟨RN,hRN⟩:=ex (sI 2);rw[<- hRN] at ZV Gg;clear hRN;go_wp2_with (go_at_call 70;refine(DW.o _ (HH.o.below HB.o)).mono ?_;rintro e w1 ⟨rfl,hb1⟩;have cT:=ai (bZ HB.o hb1);have X1:=ai (aQ HX.o hb1 (aO HX.o));clear hb1;have G1:=aO X1.o)
           obtain⟨W,hW⟩:=ex (w1.alloc (.cells #[I pp,I pn,I pt,.bool pz] 47));have HW:=ai hW;have hs:W.heap.size=w1.heap.size+1:=by simp_all
           have rB:=gw W;have hkc:=@gy W;have c2:∀x:dB W.heap.size W,x.world.cell? (Ad w1.heap.size 2)=some (I pt):=fun x=>by simp_all
           have Wl:Hid (Below w.heap.size w W):=by show Below _ _ _;rw[hW];exact cT.o.alloc cT.o.size _
           have XW:Hid (W.heap[w.heap.size]?=some (.cells #[I 0,I 0] 36 (0,0))):=by show _=_;rw[hW];exact bE X1.o _
           clear hW hs hkc;rw[<- HW.o];cases Av:iz pt 2 with
           | true =>
            rw[Av] at ZV;have ai3:(bits BinOp.and IntKind.i64 pt RN==RN)=false:=ZV;have qj:=ai (uu.o _ (HST.o.trans (zF.o.1 Av)) (by simp));clear uu HST zF ZV Av;refine cD (by rfl) (by kernel_rfl) ?_
            repeat (first | go_big_quiet_step ((go_at_call 140;exact gI Gg.o _)) | quiet_step ((go_at_call 140;exact gI Gg.o _)))
            refine fR ?_;intro _ hw';obtain⟨x,hw''⟩:=hw';subst hw'';have fq:=ai (bZ Wl.o x.keeps);have X2:=ai (aQ XW.o x.keeps (aO XW.o));obtain⟨w2,Om⟩:=ex x.world;rw[<- Om] at fq X2 ⊢;clear Om c2;obtain⟨x0,x1⟩:=kI X2.o;have f0:∀k,w2.frozen? (Ad w.heap.size k)=false:=fun k=>aJ X2.o k
            go_wp2;exact bR (v:=.agg #[I 2,I (a+k)]) (by simp[results,Tryz.results96,go_sem,x0,x1]) rfl ⟨by rw[(fW qj.o).1,(fW qj.o).2],fD fq.o (aM _) _ _⟩
           | false =>
            rw[Av] at ZV;have ai3:(bits BinOp.and IntKind.i64 pt RN==RN)=true:=ZV;have rR:=ai (HST.o.trans (zF.o.2 Av));clear uu HST zF ZV Av;refine cD (by rfl) (by kernel_rfl) ?_
            repeat (first | go_big_quiet_step ((go_at_call 140;exact gI Gg.o _)) | quiet_step ((go_at_call 140;exact gI Gg.o _)))
            refine fR ?_;intro _ hw';obtain⟨x,hw''⟩:=hw';subst hw'';have fq:=ai (bZ Wl.o x.keeps);have X2:=ai (aQ XW.o x.keeps (aO XW.o));obtain⟨w2,Om⟩:=ex x.world;rw[<- Om] at fq X2 ⊢;clear Om c2;go_wp2
            grind [intOf,Hid.o]
      · have hke:k=size.toNat:=by omega
        have qj:Hid ((R1,R2)=(0,0)):=by grind [Hid.o]
        obtain⟨x0,x1⟩:=kI HX.o;have f0:∀k,wr.frozen? (Ad w.heap.size k)=false:=fun k=>aJ HX.o k
        clear hke;go_wp2;exact bR (v:=.agg #[I 0,I 0]) (by simp[results,Tryz.results96,go_sem,x0,x1]) rfl ⟨by rw[(fW qj.o).1,(fW qj.o).2],fD HB.o (aM _) _ _⟩
   · have hw2:(way==2)=false:=by grind
     clear htm hal c;go_enter Tryz.func96,Tryz.ntmps96;go_wp2_with fail
     go_loopw [23] (fun iv wr=>∃k:Nat,k<=size.toNat/\iv=I (k:Int)/\gu l a way k=(0,0)/\wr.heap[w.heap.size]?=some (.cells #[I 0,I 0] 36 (0,0))/\Below w.heap.size w wr) (fun iv _=>size.toNat-(intOf iv).toNat)
     case atStart=>exact⟨0,by omega,rfl,rfl,X0.o,eO.o⟩
     case round =>
      obtain⟨k,hk,rfl,rU,hx,hb⟩:=hrel;have HN:=ai rU;have HX:=ai hx;have HB:=ai hb;clear rU hx hb X0 eO;by_cases hlt:(k:Int)<size
      · have hsm:-9223372036854775808<=a+k/\a+k<=9223372036854775807:=by
         cases k with
         | zero=>omega
         | succ j =>
          have:=oK HN.o;omega
        have HST:=ai (pE HN.o);have uu:Hid (∀f:Int×Int,gu l a way (k+1)=f->¬f.1=0->(R1,R2)=f):=fun f h1 h2=>HR.o.trans (qW h1 h2 _ (by omega))
        have xJ:=ai (fun V hV=>Gi.o ((a+k).tdiv 16) V hV);have HQ:Hid (0<=a+k->(a+k).tdiv 16=(a+k)/16):=fun h=>Cu h
        obtain⟨⟨⟨pp,pn,pt,pz⟩,ok⟩,hF⟩:∃F,F=aV l ((a+k).tdiv 16):=⟨_,rfl⟩;have E7:=ai hF;rw[<- hF] at xJ;have abx:Hid (∀V,eU V (.slice ao vn cap) l->Calls Tryz.prog 70 #[.slice ao vn cap,I ((a+k).tdiv 16)] V fun e w'=>e=.returned (.tuple #[.agg #[I pp,I pn,I pt,.bool pz],.bool ok])/\Below V.heap.size V w'):=xJ;clear hF xJ;have Ky:Hid ((a+k<0->iw l (a+k) way=(1,a+k))/\(0<=a+k->ok=false->iw l (a+k) way=(1,a+k))/\(0<=a+k->ok=true->0<=pt/\pt<=3/\(iz pt way=true->iw l (a+k) way=(2,a+k))/\(iz pt way=false->iw l (a+k) way=(0,0)))):=by
         refine⟨fun h=>oa (.inl h),fun h h2=>?_,fun h h2=>?_⟩
         · grind [oa,Hid.o]
         · have e1:=E7.o;rw[HQ.o h] at e1;have h3:(aV l ((a+k)/16)).2=true:=by grind
           have h4:=ki (j5 h3) h3
           grind [tA,zh]
        clear E7;by_cases hneg:a+k<0
        · have qj:=ai (uu.o _ (HST.o.trans (Ky.o.1 hneg)) (by simp));clear Ky uu HST;go_wp2_with (go_at_call 70;refine(abx.o _ (HH.o.below HB.o)).mono ?_;rintro e w1 ⟨rfl,hb1⟩;have cT:=ai (bZ HB.o hb1);have X1:=ai (aQ HX.o hb1 (aO HX.o));clear hb1;have G1:=aO X1.o;obtain⟨x0,x1⟩:=kI X1.o;have f0:∀k,w1.frozen? (Ad w.heap.size k)=false:=fun k=>aJ X1.o k)
          exact bR (v:=.agg #[I 1,I (a+k)]) (by simp[results,Tryz.results96,go_sem,x0,x1,G1]) rfl ⟨by rw[(fW qj.o).1,(fW qj.o).2],(fD cT.o (aM _) _ _).alloc (by simp;omega) _⟩
        · have hnn:0<=a+k:=by omega
          have DW:=abx;rw[HQ.o hnn] at DW;clear hneg abx HQ;cases ok with
          | false =>
           have qj:=ai (uu.o _ (HST.o.trans (Ky.o.2.1 (by omega) rfl)) (by simp));clear Ky uu HST;go_wp2_with (go_at_call 70;refine(DW.o _ (HH.o.below HB.o)).mono ?_;rintro e w1 ⟨rfl,hb1⟩;have cT:=ai (bZ HB.o hb1);have X1:=ai (aQ HX.o hb1 (aO HX.o));clear hb1;have G1:=aO X1.o;obtain⟨x0,x1⟩:=kI X1.o;have f0:∀k,w1.frozen? (Ad w.heap.size k)=false:=fun k=>aJ X1.o k)
           exact bR (v:=.agg #[I 1,I (a+k)]) (by simp[results,Tryz.results96,go_sem,x0,x1,G1]) rfl ⟨by rw[(fW qj.o).1,(fW qj.o).2],(fD cT.o (aM _) _ _).alloc (by simp;omega) _⟩
          | true =>
           have hpt:=Ky.o.2.2 hnn rfl;have ZV:=GL pt way hpt.1 hpt.2.1;have zF:=ai hpt.2.2;have Gg:Hid (∀V,Calls Tryz.prog 140 #[I way] V fun e w'=>e=.returned (I (sI way))/\Below V.heap.size V w'):=fun V=>(J3 way V).mono fun e w' ⟨h1,h2⟩=>⟨h1,by grind [Below.refl]⟩
           clear hpt Ky;obtain⟨RN,hRN⟩:=ex (sI way);rw[<- hRN] at ZV Gg;clear hRN;go_wp2_with (go_at_call 70;refine(DW.o _ (HH.o.below HB.o)).mono ?_;rintro e w1 ⟨rfl,hb1⟩;have cT:=ai (bZ HB.o hb1);have X1:=ai (aQ HX.o hb1 (aO HX.o));clear hb1;have G1:=aO X1.o)
           obtain⟨W,hW⟩:=ex (w1.alloc (.cells #[I pp,I pn,I pt,.bool pz] 47));have HW:=ai hW;have hs:W.heap.size=w1.heap.size+1:=by simp_all
           have rB:=gw W;have hkc:=@gy W;have c2:∀x:dB W.heap.size W,x.world.cell? (Ad w1.heap.size 2)=some (I pt):=fun x=>by simp_all
           have Wl:Hid (Below w.heap.size w W):=by show Below _ _ _;rw[hW];exact cT.o.alloc cT.o.size _
           have XW:Hid (W.heap[w.heap.size]?=some (.cells #[I 0,I 0] 36 (0,0))):=by show _=_;rw[hW];exact bE X1.o _
           clear hW hs hkc;rw[<- HW.o];cases Av:iz pt way with
           | true =>
            rw[Av] at ZV;have ai3:(bits BinOp.and IntKind.i64 pt RN==RN)=false:=ZV;have qj:=ai (uu.o _ (HST.o.trans (zF.o.1 Av)) (by simp));clear uu HST zF ZV Av;refine cD (by rfl) (by kernel_rfl) ?_
            repeat (first | go_big_quiet_step ((go_at_call 140;exact gI Gg.o _)) | quiet_step ((go_at_call 140;exact gI Gg.o _)))
            refine fR ?_;intro _ hw';obtain⟨x,hw''⟩:=hw';subst hw'';have fq:=ai (bZ Wl.o x.keeps);have X2:=ai (aQ XW.o x.keeps (aO XW.o));obtain⟨w2,Om⟩:=ex x.world;rw[<- Om] at fq X2 ⊢;clear Om c2;obtain⟨x0,x1⟩:=kI X2.o;have f0:∀k,w2.frozen? (Ad w.heap.size k)=false:=fun k=>aJ X2.o k
            go_wp2;exact bR (v:=.agg #[I 2,I (a+k)]) (by simp[results,Tryz.results96,go_sem,x0,x1]) rfl ⟨by rw[(fW qj.o).1,(fW qj.o).2],fD fq.o (aM _) _ _⟩
           | false =>
            rw[Av] at ZV;have ai3:(bits BinOp.and IntKind.i64 pt RN==RN)=true:=ZV;have rR:=ai (HST.o.trans (zF.o.2 Av));clear uu HST zF ZV Av;refine cD (by rfl) (by kernel_rfl) ?_
            repeat (first | go_big_quiet_step ((go_at_call 140;exact gI Gg.o _)) | quiet_step ((go_at_call 140;exact gI Gg.o _)))
            refine fR ?_;intro _ hw';obtain⟨x,hw''⟩:=hw';subst hw'';have fq:=ai (bZ Wl.o x.keeps);have X2:=ai (aQ XW.o x.keeps (aO XW.o));obtain⟨w2,Om⟩:=ex x.world;rw[<- Om] at fq X2 ⊢;clear Om c2;go_wp2
            grind [intOf,Hid.o]
      · have hke:k=size.toNat:=by omega
        have qj:Hid ((R1,R2)=(0,0)):=by grind [Hid.o]
        obtain⟨x0,x1⟩:=kI HX.o;have f0:∀k,wr.frozen? (Ad w.heap.size k)=false:=fun k=>aJ HX.o k
        clear hke;go_wp2;exact bR (v:=.agg #[I 0,I 0]) (by simp[results,Tryz.results96,go_sem,x0,x1]) rfl ⟨by rw[(fW qj.o).1,(fW qj.o).2],fD HB.o (aM _) _ _⟩
theorem kS {l:List bc} {a n way:Int} (h1:1<=n) (h8:n<=8) (h:(dQ l a n way).1=0):dQ l a n way=(0,0)/\16<=a/\a+n<=4096/\∀i,0<=i->i<n->(aV l ((a+i)/16)).2=true:=by
 have hb:dQ l a n way=gu l a way n.toNat:=by
  grind [dQ]
 rw[hb] at h ⊢;have all:∀m:Nat,(gu l a way m).1=0->gu l a way m=(0,0)/\∀i:Nat,i<m->(iw l (a+i) way).1=0:=fun m=>by
  induction m with
  | zero=>intro _;exact⟨rfl,fun i hi=>by omega⟩
  | succ m ih =>
   grind [gu,uW]
 obtain⟨e,hi⟩:=all n.toNat h;obtain⟨m,hm⟩:∃m,n.toNat=m+1:=⟨n.toNat-1,by omega⟩;have hs:=oK (l:=l) (a:=a) (way:=way) (k:=m) (by grind);refine⟨e,hs.1,by omega,fun i h0 hn=>?_⟩;have:=hi i.toNat (by omega)
 grind [uW]
theorem yI {lo mb:Nat} {tt:TypeId} {X:List Value} (k:aN) (S:dN) (w:World) (j:Nat) (a n way:Int) (h:bQ lo mb tt X w S k) (hR:bg k) (hj:j<k.aj.length) (ha:dY a) (hn:1<=n/\n<=8) (hf:(dQ (ak k.aj j).aZ a n way).1≠0) :
  Calls Tryz.prog 52 #[.pointer (some (Ad mb 0)),I (j:Int),I a,I n,I way] w fun e w'=>e=.returned (.tuple #[Nl,.agg #[I (dQ (ak k.aj j).aZ a n way).1,I (dQ (ak k.aj j).aZ a n way).2]])/\Below w.heap.size w w':=by
 have hcc:=hR.c;obtain⟨pb,cP,A⟩:=h.toiZ.sp (by omega);have c3:=h.c3;rw[A.v] at c3;have a1:=A.x1 j hj;have hfit:ed (ak k.aj j).aZ:=lD _ (hR.sp hj).aZ;have zx:=ai (fun V (hb:Below w.heap.size w V)=>TN _ _ a n way V (eU.below (h.toiZ.aZ hj) hb) hfit ha (by omega));obtain⟨ax,cx,yt,_,_⟩:=aY (h.each j hj).aZ;rw[yt] at zx a1;have KT:(j:Int)<(k.aj.length:Int):=by omega
 have Bk:=h.lt;have hpl:=A.lt;unfold yz at zx;obtain⟨F,hF⟩:=ex (dQ (ak k.aj j).aZ a n way);rw[<- hF] at zx hf ⊢;obtain⟨f0,f1⟩:=F;simp only at zx hf ⊢;have fb:(f0 != 0)=true:=by grind
 have eO:=ai ((aK w.heap.size w).alloc (aM _) (.cells #[I 0,I 0] 36));have R0:=ai (bG w #[I 0,I 0] 36);have d3:=(eO.o.cell (p:=(Ad mb 3)) Bk).trans c3;have d1:=(eO.o.cell (p:=(Ad pb (j*3+1))) hpl).trans a1;obtain⟨np,G0⟩:=ex k.aj.length;rw[<- G0] at d3 KT;obtain⟨na,wh⟩:=ex ((ak k.aj j).aZ.length);rw[<- wh] at d1 zx;clear h hR hj A c3 a1 hfit yt hF hf hcc G0 wh ha hn;go_enter Tryz.func52,Tryz.ntmps52;go_upto_region 3 with(go_at_call 96;refine(zx.o _ eO.o).mono ?_;rintro e w1 ⟨rfl,hb1⟩;have cT:=ai (bZ eO.o hb1);have R1:=ai (aQ R0.o hb1 (aO R0.o));have FX:=ai (bG w1 #[I f0,I f1] 36);obtain⟨y0,y1⟩:=kI FX.o;clear hb1)
 have gK:=ai (cT.o.alloc cT.o.size (.cells #[I f0,I f1] 36));have G1:=aO R1.o;have R2:=ai (bE R1.o (.cells #[I f0,I f1] 36));obtain⟨z0,z1⟩:=kI R2.o;have q0:=aJ R2.o 0;have q1:=aJ R2.o 1;obtain⟨W,hW⟩:=ex (w1.alloc (.cells #[I f0,I f1] 36));rw[<- hW] at gK R2 z0 z1 q0 q1 y0 y1 ⊢;clear hW;go_region;go_wp2;have R3:((W.setCell (Ad w.heap.size 0) (I f0)).setCell (Ad w.heap.size 1) (I f1)).heap[w.heap.size]?=some (.cells #[I f0,I f1] 36 (0,0)):=dG (dG R2.o 0 _) 1 _;obtain⟨v0,v1⟩:=kI R3;refine bR (v:=.tuple #[Nl,.agg #[I f0,I f1]]) (by simp[results,Tryz.results52,go_sem,v0,v1]) rfl ?_;exact⟨rfl,by first | exact((gK.o.setCell (p:=(Ad w.heap.size 0)) (aM _) _).setCell (p:=(Ad w.heap.size 1)) (aM _) _).drew | exact(gK.o.setCell (p:=(Ad w.heap.size 0)) (aM _) _).setCell (p:=(Ad w.heap.size 1)) (aM _) _⟩
end Go.Proofs.YtpgifpeohlllfaaGreat
end Go.Proofs.YtpgifpeohlllfaaGreat
