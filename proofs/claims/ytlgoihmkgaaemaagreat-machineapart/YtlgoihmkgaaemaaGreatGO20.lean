import Derived.Test.YtlgoihmkgaaemaaGreatGO19
set_option maxHeartbeats 20000000
set_option linter.unusedVariables false
set_option maxRecDepth 100000
set_option linter.unusedSimpArgs false
namespace Go.Proofs.YtlgoihmkgaaemaaGreat
open Go.RowKit
theorem QQ {lo mb:Nat} {tt:TypeId} {X:List Value} (k:aR) (S:gL) (w:World) (j:Nat) (p:Int) (held:List Int) (ah:Option Addr) (ch:Nat) (h:bJ lo mb tt X w S k) (hR:aW k) (hj:j<k.aj.length) (hp:dV k j p) (hX:KR X k.aM) (hl:held.length<=2) (hH:nk w S ah held) :
  Calls Tryz.prog 290 #[.pointer (some (Ad mb 0)),I (j:Int),I p,.slice ah held.length ch] w (gj lo mb tt X w S (I ((dD k j p held).1:Int)) (dD k j p held).2):=by
 cases he:bl (ak k.aj j).bf p with
 | none=>exact OL k S w j p held ah ch h hR hj he hp hX hl hH
 | some e =>
  by_cases hk:e.kind=1
  · exact OM k S w j p held ah ch e h hR hj he hk
  · exact Jp k S w j p held ah ch e h hR hj he hk hl hH
theorem Zd:∀l:List Int,∀u∈l.flatMap iF,u.oneCell'=true:=fun l u hu=>by
 obtain⟨y,_,hy⟩:=vO.1 hu;simp[iF] at hy;rw[hy];rfl
theorem Wi {w:World} {ah:Option Addr} {l:List Int} (h:eB iF 1 0 w ah l):mR w ah l.length (l.flatMap iF):=fun hm=>by
 obtain⟨b,off,rfl,hb,hl⟩:=h hm;exact zq (w:=w) iF 1 (fun _=>rfl) 0 l b off (fun i hi j hj=>hl i hi j hj) hm
theorem FM {w:World} {base:Nat} {S:gL} {ao:Option Addr} {n c:Nat} {l:List Int} (hr:w.ownsRow base 3 1 (.slice ao n c) l.length (l.flatMap iF)) (hno:∀b,bX (.slice ao n c) b->S.lab b=.no):n=l.length/\nk w S ao l:=by
 obtain⟨a,cap,e,_,hrow⟩:=oO iF (fun _=>rfl) 0 hr;injection e with e1 e2 e3;subst e1 e2;refine⟨rfl,hrow,fun b off e=>?_,fun b off e=>?_⟩
 · subst e;refine hno b ?_;rfl
 · subst e;rcases hr.2 with⟨h0,_⟩ | ⟨g,cap',cur,hv,_,hg,_⟩
   · cases h0
   grind
theorem Wl {lo mb:Nat} {tt:TypeId} {X:List Value} (k:aR) (S:gL) (w:World) (j:Nat) (p:Int) (a:Nat) (held:List Int) (ah:Option Addr) (ch:Nat) (h:bJ lo mb tt X w S k) (hR:aW k) (hj:j<k.aj.length) (ha:bl (ak k.aj j).bf p=some ⟨p,1,a⟩) (hl:held.length<=1) (hH:nk w S ah held) :
  Calls Tryz.prog 291 #[.pointer (some (Ad mb 0)),I (j:Int),I p,I (a:Int),.slice ah held.length ch] w (gj lo mb tt X w S (I ((kP k j p a held).1:Int)) (kP k j p a held).2):=by
 have hcc:=hR.c;have hne:=Ec hR hj ha;obtain⟨fb,cF,A⟩:=h.toKr.fr (by omega);have c1:=h.c1;rw[A.v] at c1;have x1:=A.x1 a hne.1;have hai:(a:Int)<(k.frames.length:Int):=by omega
 by_cases c:(aH k.frames a).refs=1
 · have hP:kP k j p a held=(a,k):=by grind [kP]
   rw[hP];have dB:Hid (gj lo mb tt X w S (I (a:Int)) k (.returned (I (a:Int))) w):=⟨rfl,S,h,cK.refl _ _⟩;obtain⟨P,VA⟩:=ex (gj lo mb tt X w S (I (a:Int)) k);rw[<- VA] at dB ⊢;rw[c] at x1;obtain⟨nf,Cb⟩:=ex k.frames.length;rw[<- Cb] at c1 hai;clear hP VA c h hR hj ha hH hl A hne hcc Cb;go_enter Tryz.func291,Tryz.ntmps291;go_wp2;exact dB.o
 · have hl2:(held++[(a:Int)]).length<=2:=by grind
   have G:=tq hR hl2;have hH1:=G.Qf a (l5.2 (.inr (by simp))) hne.2;have hent:bl (ak (bM k (held++[(a:Int)])).2.aj j).bf p=some ⟨p,1,a⟩:=G.stay hR hj ha (fun _=>l5.2 (.inr (by simp)));obtain⟨k1,hk1⟩:=ex ((bM k (held++[(a:Int)])).2);obtain⟨i,hi⟩:=ex ((bM k (held++[(a:Int)])).1);have hP:kP k j p a held=(i,eQ k1 j p i (aH k1.frames a).data true):=by
    unfold kP
    grind
   have hGT:∀V S',bJ lo mb tt X V S' k->∀ah' ch',nk V S' ah' (held++[(a:Int)])->Calls Tryz.prog 292 #[.pointer (some (Ad mb 0)),.slice ah' (held++[(a:Int)]).length ch'] V (gj lo mb tt X V S' (I (i:Int)) k1):=fun V S' hV ah' ch' hh=>by
    have:=Jq k S' V (held++[(a:Int)]) ah' ch' hV hR hl2 hh;rw[<- hk1,<- hi] at this;exact this
   rw[<- hk1] at hent hH1;rw[<- hi] at hH1;have Vy:j<k1.aj.length:=by have:=G.kept.np;grind
   have ajG:k1.frames.length=k.frames.length:=by have:=G.kept.nf;grind
   have hi1:i<k1.frames.length:=by rw[ajG,hi];exact G.lt
   have ha1:a<k1.frames.length:=by omega
   have JQ:aW k1:=by have:=G.right;grind
   have aa1:=ot JQ Vy;have apO:=JQ.c;have hrf:=(yt JQ).1 a ha1;obtain⟨D,hD⟩:=ex ((aH k1.frames a).data);have amv:i≠a:=fun e=>hH1.1 e.symm
   have hfa:aH (iV k1 i D true).frames a=aH k1.frames a:=by
    show aH (k1.frames.set i _) a=_;rw[jU _ _ _ _ hi1,au amv]
   have hra:¬(aH k1.frames a).refs-1=0:=by grind
   obtain⟨K2,hK2⟩:∃K2:aR,K2={ iV k1 i D true with frames:=(iV k1 i D true).frames.set a ⟨(aH k1.frames a).data,(aH k1.frames a).refs-1,(aH k1.frames a).jG,(aH k1.frames a).seen⟩ }:=⟨_,rfl⟩;have hmv:eQ k1 j p i D true=gy K2 j ⟨p,1,i⟩:=by
    unfold eQ;rw[hent];show dM _ _=_;rw[<- FN];congr 1;unfold dM;rw[aB rfl,hK2];show({ iV k1 i D true with frames:=(iV k1 i D true).frames.set (a:Int).toNat (rR (aH (iV k1 i D true).frames (a:Int).toNat)) }:aR)=_;rw[jz,hfa];unfold rR
    grind
   rw[hP,<- hD,hmv];have Mh:Hid (∀V S',bJ lo mb tt X V S' k1->∃fb cF,V.cell? (Ad mb 1)=some (.slice (some (Ad fb 0)) k1.frames.length cF)/\¬mb=fb/\V.cell? (Ad fb (a*4))=some (.string D)/\V.cell? (Ad fb (i*4))=some (.string (aH k1.frames i).data)/\V.cell? (Ad fb (i*4+1))=some (I (aH k1.frames i).refs)/\V.cell? (Ad fb (i*4+2))=some (.bool (aH k1.frames i).jG)/\V.cell? (Ad fb (i*4+3))=some (.bool (aH k1.frames i).seen)/\V.frozen? (Ad fb (i*4))=false/\V.frozen? (Ad fb (i*4+1))=false/\V.frozen? (Ad fb (i*4+2))=false/\V.frozen? (Ad fb (i*4+3))=false /\
     (∀U,U=((((V.setCell (Ad fb (i*4)) (.string D)).setCell (Ad fb (i*4+1)) (I 1)).setCell (Ad fb (i*4+2)) (.bool true)).setCell (Ad fb (i*4+3)) (.bool false)).drew->U.cell? (Ad mb 1)=some (.slice (some (Ad fb 0)) k1.frames.length cF)/\U.cell? (Ad fb (a*4+1))=some (I (aH k1.frames a).refs)/\U.frozen? (Ad fb (a*4+1))=false/\bJ lo mb tt X (U.setCell (Ad fb (a*4+1)) (I ((aH k1.frames a).refs-1))) S' K2/\cK S' V S' (U.setCell (Ad fb (a*4+1)) (I ((aH k1.frames a).refs-1))))):=fun V S' hV=>by
    obtain⟨fb,cF,A⟩:=hV.toKr.fr (by omega);have c1:=hV.c1;rw[A.v] at c1;refine⟨fb,cF,c1,fun e=>by have:=A.lab;rw[<- e,hV.lH] at this;simp at this,by rw[hD];exact A.x0 a ha1,A.x0 i hi1,A.x1 i hi1,A.x2 i hi1,A.x3 i hi1,A.fz _,A.fz _,A.fz _,A.fz _,fun U hU=>?_⟩;have m:=hV.aff A.v hi1 ⟨D,1,true,false⟩;have m1:bJ lo mb tt X U S' (iV k1 i D true):=by subst hU;exact m.1.below (aK _ _).drew
    have ch1:cK S' V S' U:=by subst hU;exact m.2.trans (cK.below (aK _ _).drew)
    have hln:(iV k1 i D true).frames.length=k1.frames.length:=fC;obtain⟨fb',cF',A'⟩:=m1.toKr.fr (by omega);have e:fb'=fb:=by
     have:=A'.v;rw[A.v] at this;injection this with e1 _ _;injection e1 with e1;injection e1 with e1 _ _;omega
    subst e;have c1':=m1.c1;rw[A.v] at c1';have y1:=A'.x1 a (by omega);rw[hfa] at y1;refine⟨c1',y1,A'.fz _,?_,ch1.trans (Ac m1.toKr A'.v)⟩;rw[hK2];exact m1.Mk A'.v (i:=a) (by omega) (j:=1) (by omega) (by rw[hfa];rfl)
   have HET:Hid (∀V S',bJ lo mb tt X V S' K2->Calls Tryz.prog 293 #[.pointer (some (Ad mb 0)),I (j:Int),.agg #[I p,I 1,I (i:Int)]] V (gj lo mb tt X V S' (.tuple #[]) (gy K2 j ⟨p,1,i⟩))):=fun V S' hV=>by
    have hsp:K2.aj=k1.aj:=by rw[hK2];rfl
    exact DX _ S' V j ⟨p,1,i⟩ hV (by grind) (by grind) (by grind)
   have dB:Hid (∀V S',bJ lo mb tt X V S' (gy K2 j ⟨p,1,i⟩)->cK S w S' V->gj lo mb tt X w S (I (i:Int)) (gy K2 j ⟨p,1,i⟩) (.returned (I (i:Int))) V):=fun V S' h1 h2=>⟨rfl,S',h1,h2⟩
   obtain⟨K3,hK3⟩:=ex (gy K2 j ⟨p,1,i⟩);rw[<- hK3] at HET dB ⊢;obtain⟨P,VA⟩:=ex (gj lo mb tt X w S (I (i:Int)) K3);rw[<- VA] at dB ⊢;have I5:Hid (Calls Tryz.prog 294 #[.slice ah held.length ch] w fun e w'=>∃av cv,e=.returned (.slice av held.length cv)/\w'.ownsRow w.heap.size 3 1 (.slice av held.length cv) held.length (held.flatMap iF)/\Below w.heap.size w w'):=(acy ah held.length ch (held.flatMap iF) w (fw iF 1 (fun _=>rfl) held) (Wi hH.has) (Zd held) (by omega)).mono fun e w' ⟨v,h1,h2,h3⟩=>by
    obtain⟨av,cv,rfl,_⟩:=bg h2;exact⟨av,cv,h1,h2,h3⟩
   have HGT:Hid (∀V U av nv cv,Below w.heap.size w V->U=V->V.ownsRow w.heap.size 3 1 (.slice av nv cv) (held.length+1) (held.flatMap iF++[I (a:Int)])->Calls Tryz.prog 292 #[.pointer (some (Ad mb 0)),.slice av nv cv] V (gj lo mb tt X V S (I (i:Int)) k1)):=fun V U av nv cv hb _ hr=>by
    have e1:(held++[(a:Int)]).length=held.length+1:=by simp
    have e2:(held++[(a:Int)]).flatMap iF=held.flatMap iF++[I (a:Int)]:=by simp[iF]
    rw[<- e1,<- e2] at hr;obtain⟨q1,q2⟩:=FM (S:=S) hr (fun b hb2=>h.toKr.new (hr.lt b hb2).1);rw[q1];exact hGT V S (h.below hb) av cv q2
   obtain⟨i0,hin,hz0,hz1,hz2⟩:=jy M5;have Eu:=ai hin;have Ia:=ai hz0;have E9:=ai hz1;have yZ:=ai hz2;have xb:((aH k.frames a).refs==1)=false:=by simpa using c
   obtain⟨R0,hR0⟩:=ex ((aH k.frames a).refs);rw[<- hR0] at x1 xb;obtain⟨R1,amB⟩:=ex ((aH k1.frames a).refs);rw[<- amB] at Mh hrf;have hw1:IntKind.i64.wrap (R1-1)=R1-1:=vN _ (by omega);obtain⟨FR,Uu⟩:=ex (aH k1.frames i);rw[<- Uu] at Mh;obtain⟨nf,Cb⟩:=ex k.frames.length;rw[ajG,<- Cb] at Mh;rw[<- Cb] at c1 hai;have hii:(i:Int)<(nf:Int):=by omega
   have hhl:held.length<=1:=hl;clear hP VA c h hR hj ha hH hl A hne hcc Cb hin hz0 hz1 hz2 Uu amB hR0 hK3 hGT hmv hK2 hra hfa amv hD hrf apO aa1 JQ ha1 hi1 ajG Vy hH1 hent hi G hl2 hk1;go_enter Tryz.func291,Tryz.ntmps291;go_upto_region 4 with(first
    | (at_builtin;refine fE (P:=Tryz.prog) rfl _ _ 48 rfl w.heap.size 3 i0 (I 0) 1 8 Tryz.underlying48 Eu.o Ia.o E9.o yZ.o rfl (by decide) _ held.length (held.flatMap iF) rfl HO1.o (some (Ad w1.heap.size 0)) 1 1 [I (a:Int)] rfl rfl (fun _=>⟨_,rfl,GR (bB w1 _ _)⟩) (by intro u hu;simp at hu;rw[hu];rfl) (by unfold maxLen;omega) (by omega) (by have:=cH.o.size;simp;omega) ?_;intro v' w' hown hgr hat;obtain⟨aG,cG,hvG,_,_⟩:=bg hown;subst hvG;have C3:=ai hown;have gK:=ai ((cH.o.alloc cH.o.size (.cells #[I (a:Int)] 3)).grown hgr (by have:=cH.o.size;simp;omega) (fun q hq=>(HO1.o.lt q hq).1));clear hown hgr hat)
    | (go_at_call 294;refine I5.o.mono ?_;rintro e w1 ⟨av,cv,rfl,hr1,hb1⟩;have cH:=ai hb1;have HO1:=ai (hr1.alloc (.cells #[I (a:Int)] 3));clear hr1 hb1)
    | (go_at_call 292;refine(HGT.o _ _ _ _ _ gK.o rfl C3.o).mono ?_;rintro e w3 ⟨rfl,S3,hk3,hc3⟩;have zG:=ai hk3;have T5:=ai ((cK.below gK.o).trans hc3);clear hk3 hc3))
   obtain⟨fb3,cF3,g1,gne,g2,g3,g4,g5,g6,g7,g8,g9,g10,hfin⟩:=Mh.o w3 S3 zG.o;obtain⟨U,hU⟩:=ex (((((w3.setCell (Ad fb3 (i*4)) (.string D)).setCell (Ad fb3 (i*4+1)) (I 1)).setCell (Ad fb3 (i*4+2)) (.bool true)).setCell (Ad fb3 (i*4+3)) (.bool false)).drew);obtain⟨y1,y2,y3,hk4,hc4⟩:=hfin U hU;have HU:=ai hU;have HK4:=ai hk4;have HC4:=ai (T5.o.trans hc4);clear hfin hU hk4 hc4;go_region;rw[<- HU.o];clear g1 g2 g3 g4 g5 g6 g7 g8 g9 g10 HU;go_wp2_with (go_at_call 293;refine(HET.o _ _ HK4.o).mono ?_;rintro r w5 ⟨rfl,S5,hk5,hc5⟩;have HK5:=ai hk5;have HC5:=ai (HC4.o.trans hc5);clear hk5 hc5)
   exact dB.o _ _ HK5.o HC5.o
open Go.RowKit
theorem Wk {lo mb:Nat} {tt:TypeId} {X:List Value} (k:aR) (S:gL) (w:World) (j:Nat) (p way:Int) (held:List Int) (ah:Option Addr) (ch:Nat) (h:bJ lo mb tt X w S k) (hR:aW k) (hj:j<k.aj.length) (hp:dV k j p) (hX:KR X k.aM) (hl:held.length<=1) (hH:nk w S ah held) :
  Calls Tryz.prog 284 #[.pointer (some (Ad mb 0)),I (j:Int),I p,I way,.slice ah held.length ch] w (gj lo mb tt X w S (I ((dN k j p way held).1:Int)) (dN k j p way held).2):=by
 have Bv:=ai (QQ k S w j p held ah ch h hR hj hp hX (by omega) hH);have hB:=(rq hR hj hp way hl).1;have hPB:=Ah hR hj hp (held:=held) (by omega);have hcc:=hR.c;have RI:Hid (∀V S' K i,iB k j p way held=(i,K)->bJ lo mb tt X V S' K->∃fb cF,V.cell? (Ad mb 1)=some (.slice (some (Ad fb 0)) k.frames.length cF)/\¬mb=fb/\i<k.frames.length/\V.cell? (Ad fb (i*4+2))=some (.bool (aH K.frames i).jG)/\V.cell? (Ad fb (i*4+3))=some (.bool (aH K.frames i).seen)/\V.frozen? (Ad fb (i*4+2))=false/\V.frozen? (Ad fb (i*4+3))=false /\
   (way≠1->bJ lo mb tt X (V.setCell (Ad fb (i*4+3)) (.bool true)) S' (dN k j p way held).2/\cK S' V S' (V.setCell (Ad fb (i*4+3)) (.bool true))) /\
   (way=1->bJ lo mb tt X ((V.setCell (Ad fb (i*4+2)) (.bool true)).setCell (Ad fb (i*4+3)) (.bool true)) S' (dN k j p way held).2/\cK S' V S' ((V.setCell (Ad fb (i*4+2)) (.bool true)).setCell (Ad fb (i*4+3)) (.bool true)))):=fun V S' K i e hV=>by
  have Cb:K.frames.length=k.frames.length:=by
   have:=hB.kept.nf;unfold dN at this;rw[e] at this;have this:(K.frames.set i _).length=_:=this
   grind
  have hi:i<k.frames.length:=by
   have:=hB.lt
   grind [dN]
  have hbr:(dN k j p way held).2={ K with frames:=K.frames.set i (zy way (aH K.frames i)) }:=by
   unfold dN;rw[e];rfl
  obtain⟨fb,cF,A⟩:=hV.toKr.fr (by omega);have c1:=hV.c1;rw[A.v,Cb] at c1;have hiK:i<K.frames.length:=by omega
  refine⟨fb,cF,c1,fun e=>by have:=A.lab;rw[<- e,hV.lH] at this;grind,hi,A.x2 i hiK,A.x3 i hiK,A.fz _,A.fz _,fun hw=>?_,fun hw=>?_⟩
  · refine⟨?_,Ac hV.toKr A.v⟩;rw[hbr];refine hV.Mk A.v hiK (j:=3) (by omega) ?_;unfold zy;rw[jq hw,Bool.or_false];rfl
  · have m1:=hV.Mk A.v hiK (j:=2) (by omega) (f:=⟨(aH K.frames i).data,(aH K.frames i).refs,true,(aH K.frames i).seen⟩) (u:=.bool true) rfl;have m2:=m1.Mk A.v (i:=i) (by grind) (j:=3) (by omega) (f:=zy way (aH K.frames i)) (u:=.bool true) (by
     simp only[aH,eT _ _ _ _ hiK];unfold zy;rw[ic hw,Bool.or_true];rfl)
    simp only[qi] at m2;rw[hbr];exact⟨m2,(Ac hV.toKr A.v).trans (Ac hV.toKr A.v)⟩
 have hb1:(dN k j p way held).1=(iB k j p way held).1:=rfl;rw[hb1];have dB:Hid (∀V S' i,i=(iB k j p way held).1->bJ lo mb tt X V S' (dN k j p way held).2->cK S w S' V->gj lo mb tt X w S (I ((iB k j p way held).1:Int)) (dN k j p way held).2 (.returned (I (i:Int))) V):=fun V S' i hi h1 h2=>⟨by rw[hi],S',h1,h2⟩
 obtain⟨P,hP⟩:=ex (gj lo mb tt X w S (I ((iB k j p way held).1:Int)) (dN k j p way held).2);rw[<- hP] at dB ⊢;obtain⟨KB,hKB⟩:=ex ((dN k j p way held).2);rw[<- hKB] at dB RI;by_cases c:way=1
 · have e2:iB k j p way held=kP (dD k j p held).2 j p (dD k j p held).1 held:=by grind [iB]
   have Yp:Hid (∀V S',bJ lo mb tt X V S' (dD k j p held).2->cK S w S' V->Calls Tryz.prog 291 #[.pointer (some (Ad mb 0)),I (j:Int),I p,I ((dD k j p held).1:Int),.slice ah held.length ch] V (gj lo mb tt X V S' (I ((iB k j p way held).1:Int)) (iB k j p way held).2)):=fun V S' hV hc=>by
    rw[e2];exact Wl (dD k j p held).2 S' V j p (dD k j p held).1 held ah ch hV hPB.right (by rw[hPB.kept.np];exact hj) hPB.here hl (hH.ch hc)
   obtain⟨TK,hTK⟩:=ex (iB k j p way held);rw[<- hTK] at Yp dB RI;obtain⟨PR,hPR⟩:=ex (dD k j p held);rw[<- hPR] at Bv Yp;obtain⟨i,K⟩:=TK;obtain⟨ip,aC⟩:=PR;have HLA:=ai (fun V S' hV=>RI.o V S' K i rfl hV);have yg:=ai (fun V S'=>dB.o V S' i rfl);simp only at Bv Yp;have HW:=ai c;have wb:(way==1)=true:=by grind
   obtain⟨FR,Uu⟩:=ex (aH K.frames i);rw[<- Uu] at HLA;obtain⟨nf,Cb⟩:=ex k.frames.length;rw[<- Cb] at HLA;clear RI dB hP h hR hj hp hX hl hH hB hPB hcc hKB hTK hPR e2 hb1 Uu Cb c;go_enter Tryz.func284,Tryz.ntmps284;go_upto_region 4 with(first
    | (go_at_call 290;refine Bv.o.mono ?_;rintro e w1 ⟨rfl,S1,hk1,hc1⟩;have vI:=ai hk1;have HC1:=ai hc1;clear hk1 hc1)
    | (go_at_call 291;refine(Yp.o _ _ vI.o HC1.o).mono ?_;rintro e w2 ⟨rfl,S2,hk2,hc2⟩;have pq:=ai hk2;have yG:=ai (HC1.o.trans hc2);clear hk2 hc2))
   obtain⟨fb,cF,g1,gne,gi,g2,g3,g4,g5,_,hfin⟩:=HLA.o w2 S2 pq.o;obtain⟨hk3,hc3⟩:=hfin HW.o;have zG:=ai hk3;have T5:=ai (yG.o.trans hc3);have hii:(i:Int)<(nf:Int):=by omega
   clear hfin hk3 hc3;go_wp2;exact yg.o _ _ zG.o T5.o
 · have e2:iB k j p way held=dD k j p held:=by grind [iB]
   rw[<- e2] at Bv;obtain⟨TK,hTK⟩:=ex (iB k j p way held);rw[<- hTK] at Bv dB RI;obtain⟨i,K⟩:=TK;have HLA:=ai (fun V S' hV=>RI.o V S' K i rfl hV);have yg:=ai (fun V S'=>dB.o V S' i rfl);simp only at Bv;have HW:=ai c;have wb:(way==1)=false:=by grind
   obtain⟨FR,Uu⟩:=ex (aH K.frames i);rw[<- Uu] at HLA;obtain⟨nf,Cb⟩:=ex k.frames.length;rw[<- Cb] at HLA;clear RI dB hP h hR hj hp hX hl hH hB hPB hcc hKB hTK e2 hb1 Uu Cb c;go_enter Tryz.func284,Tryz.ntmps284;go_upto_region 5 with(go_at_call 290;refine Bv.o.mono ?_;rintro e w1 ⟨rfl,S1,hk1,hc1⟩;have vI:=ai hk1;have HC1:=ai hc1;clear hk1 hc1)
   obtain⟨fb,cF,g1,gne,gi,g2,g3,g4,g5,hfin,_⟩:=HLA.o w1 S1 vI.o;obtain⟨hk3,hc3⟩:=hfin HW.o;have zG:=ai hk3;have T5:=ai (HC1.o.trans hc3);have hii:(i:Int)<(nf:Int):=by omega
   clear hfin hk3 hc3;go_wp2;exact yg.o _ _ zG.o T5.o
open Go.RowKit
def gW (x:Int×Int):Array Value:=#[I x.1,I x.2]
theorem ov {N g:Nat} {w W:World} (h:Below N w W) (hg:N<=g) (v0 v1:Value):Below N w ((W.setCell (Ad g 0) v0).setCell (Ad g 1) v1):=(h.setCell (p:=(Ad g 0)) hg v0).setCell (p:=(Ad g 1)) hg v1
theorem U6 (l:List aY) (v:Value) (a size way:Int) (w:World) (h:gD w v l) (hf:dO l) (ha:-9223372036854775808<=a/\a<=9223372036854775807) (hz:size<=9223372036854775807) :
  Calls Tryz.prog 283 #[v,I a,I size,I way] w fun e w'=>e=.returned (.agg (gW (bR l a size way)))/\Below w.heap.size w w':=by
 have LP:=ai (fun p V (hV:gD V v l)=>vH l v p V hV hf);have HH:=ai h;have gB:=ai ((aK w.heap.size w).alloc (aD _) (.cells #[I 0,I 0] 75));have X0:=ai (bB w #[I 0,I 0] 75);have HF:Hid (bR l a size way=if way=2/\¬a%8=0 then (3,a) else b9 l a way size.toNat):=rfl;obtain⟨⟨R1,R2⟩,hR⟩:∃R,R=bR l a size way:=⟨_,rfl⟩;rw[<- hR] at HF ⊢;clear hR h hf;unfold gW;simp only;obtain⟨ao,vn,cap,rfl⟩:∃ao n cap,v=.slice ao n cap:=by
  obtain⟨ao,cap,h,_⟩:=HH.o
  grind
 have htm:a.tmod 8=0↔a%8=0:=by grind
 by_cases hal:way=2/\¬a%8=0
 · have HR:Hid ((R1,R2)=(3,a)):=by grind
   obtain⟨rfl,hal⟩:=hal;have h8:(a.tmod 8==0)=false:=by grind
   clear htm hal;go_enter Tryz.func283,Tryz.ntmps283;go_wp2;exact bI (v:=.agg #[I 3,I a]) (by simp[results,Tryz.results283,go_sem]) rfl ⟨by grind [Hid.o],(aK w.heap.size w).alloc (aD _) _⟩
 · have HR:Hid ((R1,R2)=b9 l a way size.toNat):=by grind
   clear HF;by_cases c:way=2
   · subst c;have h8:a.tmod 8=0:=htm.2 (zg.1 (fun g=>hal ⟨rfl,g⟩));clear htm hal;go_enter Tryz.func283,Tryz.ntmps283;go_wp2_with fail
     go_loopw [23] (fun iv wr=>∃k:Nat,k<=size.toNat/\iv=I (k:Int)/\b9 l a 2 k=(0,0)/\wr.heap[w.heap.size]?=some (.cells #[I 0,I 0] 75 (0,0))/\Below w.heap.size w wr) (fun iv _=>size.toNat-(intOf iv).toNat)
     case atStart=>exact⟨0,by omega,rfl,rfl,X0.o,gB.o⟩
     case round =>
      obtain⟨k,hk,rfl,Cb,hx,hb⟩:=hrel;have HN:=ai Cb;have HX:=ai hx;have HB:=ai hb;clear Cb hx hb X0 gB;by_cases hlt:(k:Int)<size
      · have hsm:-9223372036854775808<=a+k/\a+k<=9223372036854775807:=by
         cases k with
         | zero=>omega
         | succ j =>
          have:=wO HN.o;omega
        have HST:=ai (uN HN.o);have OW:Hid (∀f:Int×Int,b9 l a 2 (k+1)=f->¬f.1=0->(R1,R2)=f):=fun f h1 h2=>HR.o.trans (CB h1 h2 _ (by omega))
        have Hy:=ai (fun V hV=>LP.o ((a+k).tdiv 16) V hV);have HQ:Hid (0<=a+k->(a+k).tdiv 16=(a+k)/16):=fun h=>PI h
        obtain⟨⟨⟨pp,pn,pt,pz⟩,ok⟩,hF⟩:∃F,F=aV l ((a+k).tdiv 16):=⟨_,rfl⟩;have LQ:=ai hF;rw[<- hF] at Hy;have acm:Hid (∀V,gD V (.slice ao vn cap) l->Calls Tryz.prog 77 #[.slice ao vn cap,I ((a+k).tdiv 16)] V fun e w'=>e=.returned (.tuple #[.agg #[I pp,I pn,I pt,.bool pz],.bool ok])/\Below V.heap.size V w'):=Hy;clear hF Hy;have HBT:Hid ((a+k<0->iY l (a+k) 2=(1,a+k))/\(0<=a+k->ok=false->iY l (a+k) 2=(1,a+k))/\(0<=a+k->ok=true->0<=pt/\pt<=3/\(nJ pt 2=true->iY l (a+k) 2=(2,a+k))/\(nJ pt 2=false->iY l (a+k) 2=(0,0)))):=by
         refine⟨fun h=>B0 (.inl h),fun h h2=>?_,fun h h2=>?_⟩
         · grind [B0,Hid.o]
         · have e1:=LQ.o;rw[HQ.o h] at e1;have h3:(aV l ((a+k)/16)).2=true:=by grind
           have h4:=iw (tH h3) h3
           grind [Jd,Sa]
        clear LQ;by_cases hneg:a+k<0
        · have Rs:=ai (OW.o _ (HST.o.trans (HBT.o.1 hneg)) (by simp));clear HBT OW HST;go_wp2_with (go_at_call 77;refine(acm.o _ (HH.o.below HB.o)).mono ?_;rintro e w1 ⟨rfl,hb1⟩;have cH:=ai (bH HB.o hb1);have X1:=ai (aN HX.o hb1 (aJ HX.o));clear hb1;have Qc:=aJ X1.o;obtain⟨x0,x1⟩:=rE X1.o;have f0:∀k,w1.frozen? (Ad w.heap.size k)=false:=fun k=>aO X1.o k)
          exact bI (v:=.agg #[I 1,I (a+k)]) (by simp[results,Tryz.results283,go_sem,x0,x1,Qc]) rfl ⟨by rw[(qh Rs.o).1,(qh Rs.o).2],(ov cH.o (aD _) _ _).alloc (by simp;omega) _⟩
        · have hnn:0<=a+k:=by omega
          have ack:=acm;rw[HQ.o hnn] at ack;clear hneg acm HQ;cases ok with
          | false =>
           have Rs:=ai (OW.o _ (HST.o.trans (HBT.o.2.1 (by omega) rfl)) (by simp));clear HBT OW HST;go_wp2_with (go_at_call 77;refine(ack.o _ (HH.o.below HB.o)).mono ?_;rintro e w1 ⟨rfl,hb1⟩;have cH:=ai (bH HB.o hb1);have X1:=ai (aN HX.o hb1 (aJ HX.o));clear hb1;have Qc:=aJ X1.o;obtain⟨x0,x1⟩:=rE X1.o;have f0:∀k,w1.frozen? (Ad w.heap.size k)=false:=fun k=>aO X1.o k)
           exact bI (v:=.agg #[I 1,I (a+k)]) (by simp[results,Tryz.results283,go_sem,x0,x1,Qc]) rfl ⟨by rw[(qh Rs.o).1,(qh Rs.o).2],(ov cH.o (aD _) _ _).alloc (by simp;omega) _⟩
          | true =>
           have hpt:=HBT.o.2.2 hnn rfl;have hbt:=Ja pt 2 hpt.1 hpt.2.1;have Xz:=ai hpt.2.2;have Jy:Hid (∀V,Calls Tryz.prog 289 #[I 2] V fun e w'=>e=.returned (I (ui 2))/\Below V.heap.size V w'):=fun V=>(LZ 2 V).mono fun e w' ⟨h1,h2⟩=>⟨h1,by grind [Below.refl]⟩
           clear hpt HBT;obtain⟨RN,hRN⟩:=ex (ui 2);rw[<- hRN] at hbt Jy;clear hRN;go_wp2_with (go_at_call 77;refine(ack.o _ (HH.o.below HB.o)).mono ?_;rintro e w1 ⟨rfl,hb1⟩;have cH:=ai (bH HB.o hb1);have X1:=ai (aN HX.o hb1 (aJ HX.o));clear hb1;have Qc:=aJ X1.o)
           obtain⟨W,hW⟩:=ex (w1.alloc (.cells #[I pp,I pn,I pt,.bool pz] 139));have HW:=ai hW;have hs:W.heap.size=w1.heap.size+1:=by simp_all
           have CM:=jt W;have hkc:=@fR W;have c2:∀x:dW W.heap.size W,x.world.cell? (Ad w1.heap.size 2)=some (I pt):=fun x=>by simp_all
           have JG:Hid (Below w.heap.size w W):=by show Below _ _ _;rw[hW];exact cH.o.alloc cH.o.size _
           have XW:Hid (W.heap[w.heap.size]?=some (.cells #[I 0,I 0] 75 (0,0))):=by show _=_;rw[hW];exact bk X1.o _
           clear hW hs hkc;rw[<- HW.o];cases Uo:nJ pt 2 with
           | true =>
            rw[Uo] at hbt;have ajR:(bits BinOp.and IntKind.i64 pt RN==RN)=false:=hbt;have Rs:=ai (OW.o _ (HST.o.trans (Xz.o.1 Uo)) (by simp));clear OW HST Xz hbt Uo;refine dA (by rfl) (by kernel_rfl) ?_
            repeat (first | go_big_quiet_step ((go_at_call 289;exact gm Jy.o _)) | quiet_step ((go_at_call 289;exact gm Jy.o _)))
            refine jo ?_;intro _ hw';obtain⟨x,hw''⟩:=hw';subst hw'';have gK:=ai (bH JG.o x.keeps);have X2:=ai (aN XW.o x.keeps (aJ XW.o));obtain⟨w2,P5⟩:=ex x.world;rw[<- P5] at gK X2 ⊢;clear P5 c2;obtain⟨x0,x1⟩:=rE X2.o;have f0:∀k,w2.frozen? (Ad w.heap.size k)=false:=fun k=>aO X2.o k
            go_wp2;exact bI (v:=.agg #[I 2,I (a+k)]) (by simp[results,Tryz.results283,go_sem,x0,x1]) rfl ⟨by rw[(qh Rs.o).1,(qh Rs.o).2],ov gK.o (aD _) _ _⟩
           | false =>
            rw[Uo] at hbt;have ajR:(bits BinOp.and IntKind.i64 pt RN==RN)=true:=hbt;have wW:=ai (HST.o.trans (Xz.o.2 Uo));clear OW HST Xz hbt Uo;refine dA (by rfl) (by kernel_rfl) ?_
            repeat (first | go_big_quiet_step ((go_at_call 289;exact gm Jy.o _)) | quiet_step ((go_at_call 289;exact gm Jy.o _)))
            refine jo ?_;intro _ hw';obtain⟨x,hw''⟩:=hw';subst hw'';have gK:=ai (bH JG.o x.keeps);have X2:=ai (aN XW.o x.keeps (aJ XW.o));obtain⟨w2,P5⟩:=ex x.world;rw[<- P5] at gK X2 ⊢;clear P5 c2;go_wp2
            grind [intOf,Hid.o]
      · have hke:k=size.toNat:=by omega
        have Rs:Hid ((R1,R2)=(0,0)):=by grind [Hid.o]
        obtain⟨x0,x1⟩:=rE HX.o;have f0:∀k,wr.frozen? (Ad w.heap.size k)=false:=fun k=>aO HX.o k
        clear hke;go_wp2;exact bI (v:=.agg #[I 0,I 0]) (by simp[results,Tryz.results283,go_sem,x0,x1]) rfl ⟨by rw[(qh Rs.o).1,(qh Rs.o).2],ov HB.o (aD _) _ _⟩
   · have hw2:(way==2)=false:=by grind
     clear htm hal c;go_enter Tryz.func283,Tryz.ntmps283;go_wp2_with fail
     go_loopw [23] (fun iv wr=>∃k:Nat,k<=size.toNat/\iv=I (k:Int)/\b9 l a way k=(0,0)/\wr.heap[w.heap.size]?=some (.cells #[I 0,I 0] 75 (0,0))/\Below w.heap.size w wr) (fun iv _=>size.toNat-(intOf iv).toNat)
     case atStart=>exact⟨0,by omega,rfl,rfl,X0.o,gB.o⟩
     case round =>
      obtain⟨k,hk,rfl,Cb,hx,hb⟩:=hrel;have HN:=ai Cb;have HX:=ai hx;have HB:=ai hb;clear Cb hx hb X0 gB;by_cases hlt:(k:Int)<size
      · have hsm:-9223372036854775808<=a+k/\a+k<=9223372036854775807:=by
         cases k with
         | zero=>omega
         | succ j =>
          have:=wO HN.o;omega
        have HST:=ai (uN HN.o);have OW:Hid (∀f:Int×Int,b9 l a way (k+1)=f->¬f.1=0->(R1,R2)=f):=fun f h1 h2=>HR.o.trans (CB h1 h2 _ (by omega))
        have Hy:=ai (fun V hV=>LP.o ((a+k).tdiv 16) V hV);have HQ:Hid (0<=a+k->(a+k).tdiv 16=(a+k)/16):=fun h=>PI h
        obtain⟨⟨⟨pp,pn,pt,pz⟩,ok⟩,hF⟩:∃F,F=aV l ((a+k).tdiv 16):=⟨_,rfl⟩;have LQ:=ai hF;rw[<- hF] at Hy;have acm:Hid (∀V,gD V (.slice ao vn cap) l->Calls Tryz.prog 77 #[.slice ao vn cap,I ((a+k).tdiv 16)] V fun e w'=>e=.returned (.tuple #[.agg #[I pp,I pn,I pt,.bool pz],.bool ok])/\Below V.heap.size V w'):=Hy;clear hF Hy;have HBT:Hid ((a+k<0->iY l (a+k) way=(1,a+k))/\(0<=a+k->ok=false->iY l (a+k) way=(1,a+k))/\(0<=a+k->ok=true->0<=pt/\pt<=3/\(nJ pt way=true->iY l (a+k) way=(2,a+k))/\(nJ pt way=false->iY l (a+k) way=(0,0)))):=by
         refine⟨fun h=>B0 (.inl h),fun h h2=>?_,fun h h2=>?_⟩
         · grind [B0,Hid.o]
         · have e1:=LQ.o;rw[HQ.o h] at e1;have h3:(aV l ((a+k)/16)).2=true:=by grind
           have h4:=iw (tH h3) h3
           grind [Jd,Sa]
        clear LQ;by_cases hneg:a+k<0
        · have Rs:=ai (OW.o _ (HST.o.trans (HBT.o.1 hneg)) (by simp));clear HBT OW HST;go_wp2_with (go_at_call 77;refine(acm.o _ (HH.o.below HB.o)).mono ?_;rintro e w1 ⟨rfl,hb1⟩;have cH:=ai (bH HB.o hb1);have X1:=ai (aN HX.o hb1 (aJ HX.o));clear hb1;have Qc:=aJ X1.o;obtain⟨x0,x1⟩:=rE X1.o;have f0:∀k,w1.frozen? (Ad w.heap.size k)=false:=fun k=>aO X1.o k)
          exact bI (v:=.agg #[I 1,I (a+k)]) (by simp[results,Tryz.results283,go_sem,x0,x1,Qc]) rfl ⟨by rw[(qh Rs.o).1,(qh Rs.o).2],(ov cH.o (aD _) _ _).alloc (by simp;omega) _⟩
        · have hnn:0<=a+k:=by omega
          have ack:=acm;rw[HQ.o hnn] at ack;clear hneg acm HQ;cases ok with
          | false =>
           have Rs:=ai (OW.o _ (HST.o.trans (HBT.o.2.1 (by omega) rfl)) (by simp));clear HBT OW HST;go_wp2_with (go_at_call 77;refine(ack.o _ (HH.o.below HB.o)).mono ?_;rintro e w1 ⟨rfl,hb1⟩;have cH:=ai (bH HB.o hb1);have X1:=ai (aN HX.o hb1 (aJ HX.o));clear hb1;have Qc:=aJ X1.o;obtain⟨x0,x1⟩:=rE X1.o;have f0:∀k,w1.frozen? (Ad w.heap.size k)=false:=fun k=>aO X1.o k)
           exact bI (v:=.agg #[I 1,I (a+k)]) (by simp[results,Tryz.results283,go_sem,x0,x1,Qc]) rfl ⟨by rw[(qh Rs.o).1,(qh Rs.o).2],(ov cH.o (aD _) _ _).alloc (by simp;omega) _⟩
          | true =>
           have hpt:=HBT.o.2.2 hnn rfl;have hbt:=Ja pt way hpt.1 hpt.2.1;have Xz:=ai hpt.2.2;have Jy:Hid (∀V,Calls Tryz.prog 289 #[I way] V fun e w'=>e=.returned (I (ui way))/\Below V.heap.size V w'):=fun V=>(LZ way V).mono fun e w' ⟨h1,h2⟩=>⟨h1,by grind [Below.refl]⟩
           clear hpt HBT;obtain⟨RN,hRN⟩:=ex (ui way);rw[<- hRN] at hbt Jy;clear hRN;go_wp2_with (go_at_call 77;refine(ack.o _ (HH.o.below HB.o)).mono ?_;rintro e w1 ⟨rfl,hb1⟩;have cH:=ai (bH HB.o hb1);have X1:=ai (aN HX.o hb1 (aJ HX.o));clear hb1;have Qc:=aJ X1.o)
           obtain⟨W,hW⟩:=ex (w1.alloc (.cells #[I pp,I pn,I pt,.bool pz] 139));have HW:=ai hW;have hs:W.heap.size=w1.heap.size+1:=by simp_all
           have CM:=jt W;have hkc:=@fR W;have c2:∀x:dW W.heap.size W,x.world.cell? (Ad w1.heap.size 2)=some (I pt):=fun x=>by simp_all
           have JG:Hid (Below w.heap.size w W):=by show Below _ _ _;rw[hW];exact cH.o.alloc cH.o.size _
           have XW:Hid (W.heap[w.heap.size]?=some (.cells #[I 0,I 0] 75 (0,0))):=by show _=_;rw[hW];exact bk X1.o _
           clear hW hs hkc;rw[<- HW.o];cases Uo:nJ pt way with
           | true =>
            rw[Uo] at hbt;have ajR:(bits BinOp.and IntKind.i64 pt RN==RN)=false:=hbt;have Rs:=ai (OW.o _ (HST.o.trans (Xz.o.1 Uo)) (by simp));clear OW HST Xz hbt Uo;refine dA (by rfl) (by kernel_rfl) ?_
            repeat (first | go_big_quiet_step ((go_at_call 289;exact gm Jy.o _)) | quiet_step ((go_at_call 289;exact gm Jy.o _)))
            refine jo ?_;intro _ hw';obtain⟨x,hw''⟩:=hw';subst hw'';have gK:=ai (bH JG.o x.keeps);have X2:=ai (aN XW.o x.keeps (aJ XW.o));obtain⟨w2,P5⟩:=ex x.world;rw[<- P5] at gK X2 ⊢;clear P5 c2;obtain⟨x0,x1⟩:=rE X2.o;have f0:∀k,w2.frozen? (Ad w.heap.size k)=false:=fun k=>aO X2.o k
            go_wp2;exact bI (v:=.agg #[I 2,I (a+k)]) (by simp[results,Tryz.results283,go_sem,x0,x1]) rfl ⟨by rw[(qh Rs.o).1,(qh Rs.o).2],ov gK.o (aD _) _ _⟩
           | false =>
            rw[Uo] at hbt;have ajR:(bits BinOp.and IntKind.i64 pt RN==RN)=true:=hbt;have wW:=ai (HST.o.trans (Xz.o.2 Uo));clear OW HST Xz hbt Uo;refine dA (by rfl) (by kernel_rfl) ?_
            repeat (first | go_big_quiet_step ((go_at_call 289;exact gm Jy.o _)) | quiet_step ((go_at_call 289;exact gm Jy.o _)))
            refine jo ?_;intro _ hw';obtain⟨x,hw''⟩:=hw';subst hw'';have gK:=ai (bH JG.o x.keeps);have X2:=ai (aN XW.o x.keeps (aJ XW.o));obtain⟨w2,P5⟩:=ex x.world;rw[<- P5] at gK X2 ⊢;clear P5 c2;go_wp2
            grind [intOf,Hid.o]
      · have hke:k=size.toNat:=by omega
        have Rs:Hid ((R1,R2)=(0,0)):=by grind [Hid.o]
        obtain⟨x0,x1⟩:=rE HX.o;have f0:∀k,wr.frozen? (Ad w.heap.size k)=false:=fun k=>aO HX.o k
        clear hke;go_wp2;exact bI (v:=.agg #[I 0,I 0]) (by simp[results,Tryz.results283,go_sem,x0,x1]) rfl ⟨by rw[(qh Rs.o).1,(qh Rs.o).2],ov HB.o (aD _) _ _⟩
open Go.RowKit
theorem rZ {l:List aY} {a n way:Int} (h1:1<=n) (h8:n<=8) (h:(bR l a n way).1=0):bR l a n way=(0,0)/\16<=a/\a+n<=4096/\∀i,0<=i->i<n->(aV l ((a+i)/16)).2=true:=by
 have hb:bR l a n way=b9 l a way n.toNat:=by
  unfold bR at h ⊢;by_cases c:way=2/\¬a%8=0
  · rw[aB c] at h;cases h
  · rw[au c]
 rw[hb] at h ⊢;have all:∀m:Nat,(b9 l a way m).1=0->b9 l a way m=(0,0)/\∀i:Nat,i<m->(iY l (a+i) way).1=0:=fun m=>by
  induction m with
  | zero=>intro _;exact⟨rfl,fun i hi=>by omega⟩
  | succ m ih =>
   intro hm;have h0:(b9 l a way m).1=0:=by
    by_cases c:(b9 l a way m).1=0
    · exact c
    · rw[b9,au c] at hm;exact hm
   obtain⟨e,hi⟩:=ih h0;rw[uN e] at hm ⊢;refine⟨(pQ hm).1,fun i hlt=>?_⟩;by_cases c:i=m
   · subst c;exact hm
   · exact hi i (by omega)
 obtain⟨e,hi⟩:=all n.toNat h;obtain⟨m,hm⟩:∃m,n.toNat=m+1:=⟨n.toNat-1,by omega⟩;have hs:=wO (l:=l) (a:=a) (way:=way) (k:=m) (by rw[<- hm];exact e);refine⟨e,hs.1,by omega,fun i h0 hn=>?_⟩;have:=hi i.toNat (by omega);rw[show a+(i.toNat:Int)=a+i by omega] at this;exact(pQ this).2.2.1
theorem FJ {lo mb:Nat} {tt:TypeId} {X:List Value} (k:aR) (S:gL) (w:World) (j:Nat) (a n way:Int) (h:bJ lo mb tt X w S k) (hR:aW k) (hj:j<k.aj.length) (ha:cN a) (hn:1<=n/\n<=8) (hf:(bR (ak k.aj j).aT a n way).1≠0) :
  Calls Tryz.prog 272 #[.pointer (some (Ad mb 0)),I (j:Int),I a,I n,I way] w fun e w'=>e=.returned (.tuple #[Nl,.agg #[I (bR (ak k.aj j).aT a n way).1,I (bR (ak k.aj j).aT a n way).2]])/\Below w.heap.size w w':=by
 have hcc:=hR.c;obtain⟨pb,cP,A⟩:=h.toKr.sp (by omega);have c3:=h.c3;rw[A.v] at c3;have a1:=A.x1 j hj;have hfit:dO (ak k.aj j).aT:=lO _ (hR.sp hj).aT;have Fe:=ai (fun V (hb:Below w.heap.size w V)=>U6 _ _ a n way V (gD.below (h.toKr.aT hj) hb) hfit ha (by omega));obtain⟨ax,cx,H8,_,_⟩:=bg (h.each j hj).aT;rw[H8] at Fe a1;have hji:(j:Int)<(k.aj.length:Int):=by omega
 have Ji:=h.lt;have hpl:=A.lt;unfold gW at Fe;obtain⟨F,hF⟩:=ex (bR (ak k.aj j).aT a n way);rw[<- hF] at Fe hf ⊢;obtain⟨f0,f1⟩:=F;simp only at Fe hf ⊢;have fb:(f0 != 0)=true:=by simpa using hf
 have gB:=ai ((aK w.heap.size w).alloc (aD _) (.cells #[I 0,I 0] 75));have R0:=ai (bB w #[I 0,I 0] 75);have d3:=(gB.o.cell (p:=(Ad mb 3)) Ji).trans c3;have d1:=(gB.o.cell (p:=(Ad pb (j*3+1))) hpl).trans a1;obtain⟨np,yn⟩:=ex k.aj.length;rw[<- yn] at d3 hji;obtain⟨na,rH⟩:=ex ((ak k.aj j).aT.length);rw[<- rH] at d1 Fe;clear h hR hj A c3 a1 hfit H8 hF hf hcc yn rH ha hn;go_enter Tryz.func272,Tryz.ntmps272;go_upto_region 3 with(go_at_call 283;refine(Fe.o _ gB.o).mono ?_;rintro e w1 ⟨rfl,hb1⟩;have cH:=ai (bH gB.o hb1);have R1:=ai (aN R0.o hb1 (aJ R0.o));have FX:=ai (bB w1 #[I f0,I f1] 75);obtain⟨y0,y1⟩:=rE FX.o;clear hb1)
 have jk:=ai (cH.o.alloc cH.o.size (.cells #[I f0,I f1] 75));have Qc:=aJ R1.o;have R2:=ai (bk R1.o (.cells #[I f0,I f1] 75));obtain⟨z0,z1⟩:=rE R2.o;have q0:=aO R2.o 0;have q1:=aO R2.o 1;have hne:¬w.heap.size=w1.heap.size:=by omega
 obtain⟨W,hW⟩:=ex (w1.alloc (.cells #[I f0,I f1] 75));rw[<- hW] at jk R2 z0 z1 q0 q1 y0 y1 ⊢;clear hW;go_region;go_wp2;have R3:((W.setCell (Ad w.heap.size 0) (I f0)).setCell (Ad w.heap.size 1) (I f1)).heap[w.heap.size]?=some (.cells #[I f0,I f1] 75 (0,0)):=fP (fP R2.o 0 _) 1 _;obtain⟨v0,v1⟩:=rE R3;refine bI (v:=.tuple #[Nl,.agg #[I f0,I f1]]) (by simp[results,Tryz.results272,go_sem,v0,v1]) rfl ?_;exact⟨rfl,by first | exact((jk.o.setCell (p:=(Ad w.heap.size 0)) (aD _) _).setCell (p:=(Ad w.heap.size 1)) (aD _) _).drew | exact(jk.o.setCell (p:=(Ad w.heap.size 0)) (aD _) _).setCell (p:=(Ad w.heap.size 1)) (aD _) _⟩
open Go.RowKit
open Go.RowKit
def XU (l:List kg):Prop:=∀i j,i<j->j<l.length->(lq l i).page<(lq l j).page
open Go.RowKit
def cV (p:Int):List kg->Option ByteArray
 | []=>none
 | x::r=>if x.page=p then some x.data else cV p r
theorem R8:∀(l:List kg) (p:Int) (k:Nat),k<l.length->(∀j,j<k->¬(lq l j).page=p)->(lq l k).page=p->cV p l=some (lq l k).data
 | [],p,k,h,_,_=>by simp at h
 | x::r,p,0,h,_,e=>by
  show(if x.page=p then some x.data else cV p r)=_;rw[aB (show x.page=p from e)];rfl
 | x::r,p,k+1,h,hn,e=>by
  show(if x.page=p then some x.data else cV p r)=_;rw[au (show ¬x.page=p from hn 0 (by omega))];exact R8 r p k (by simp at h;omega) (fun j hj=>hn (j+1) (by omega)) e
open Go.RowKit
theorem Ue {l:List kg} (h:(di l).Pairwise (·<·)):XU l:=fun i j hij hj=>by
 have hl:(di l).length=l.length:=ie _;have:=ac3.1 h i j (by omega) (by omega) hij;rw[<- Jc,<- Jc,fK,fK,l6 (show i<(di l).length by omega),l6 (show j<(di l).length by omega)];exact this
end Go.Proofs.YtlgoihmkgaaemaaGreat
