import Derived.Test.YtlgoihmkgaaemaaGreatGM18
set_option maxHeartbeats 20000000
set_option linter.unusedVariables false
set_option maxRecDepth 100000
set_option linter.unusedSimpArgs false
namespace Go.Proofs.YtlgoihmkgaaemaaGreat
open Go.RowKit
theorem adx {lo mb:Nat} {tt:TypeId} {X:List Value} {U:World} {S:gB} {k:aR} (h:bH lo mb tt X U.drew S k):bH lo mb tt X U S k:=h.kp (E:=fun _=>False) ⟨rfl,rfl,rfl,aH _,fun _ _ _=>rfl⟩ (fun _ _ g=>g)
theorem Vt {S S':gB} {w U:World} (h:cI S w S' U.drew):cI S w S' U:=⟨⟨h.kp.os,h.kp.tape,h.kp.output,h.kp.size,h.kp.block⟩,h.no,h.eS,h.eF,h.eL,h.eP⟩
theorem N8 {lo mb:Nat} {tt:TypeId} {X:List Value} (k:aR) (S:gB) (w:World) (j:Nat) (p:Int) (held:List Int) (ah:Option Addr) (ch:Nat) (h:bH lo mb tt X w S k) (hR:aY k) (hj:j<k.aj.length) (he:bk (ak k.aj j).bf p=none) (hp:dX k j p) (hX:Ku X k.aM) (hl:held.length<=2) (hH:m8 w S ah held) :
  Calls Tryz.prog 290 #[.pointer (some (Ad mb 0)),I (j:Int),I p,.slice ah held.length ch] w (fN lo mb tt X w S (I ((dn k j p held).1:Int)) (dn k j p held).2):=by
 have Aj:=ai (I9 k S w j p h hR hj);have e1:ng (ak k.aj j).bf p=(gY,false):=by grind [ng]
 rw[e1] at Aj;have G:=sN hR hl;have hP:dn k j p held=((bJ k held).1,eH (bJ k held).2 j p (bJ k held).1 (fY (bJ k held).2.aM p (rE (bJ k held).2 j p)) false):=by
  grind [dn]
 have hent:bk (ak (bJ k held).2.aj j).bf p=none:=by grind [ua.ML]
 have hmv:eH (bJ k held).2 j p (bJ k held).1 (fY (bJ k held).2.aM p (rE (bJ k held).2 j p)) false=fZ (iK (bJ k held).2 (bJ k held).1 (fY (bJ k held).2.aM p (rE (bJ k held).2 j p)) false) j ⟨p,1,(bJ k held).1⟩:=by
  grind [eH]
 rw[hP,hmv];have GR:=kM hp;have hsh:=G.kept.aM;have aeO:dH (ak (bJ k held).2.aj j).aT:=by
  have:=(G.right.sp (by rw[G.kept.np];exact hj)).aT;exact lC _ this
 have hcc:=hR.c;have UI:j<(bJ k held).2.aj.length:=by rw[G.kept.np];exact hj
 have hi1:(bJ k held).1<(bJ k held).2.frames.length:=by rw[G.kept.nf];exact G.lt
 have aah:=nW G.right UI;have aeG:=G.kept.np;have HGT:Hid (∀V,Below w.heap.size w V->Calls Tryz.prog 292 #[.pointer (some (Ad mb 0)),.slice ah held.length ch] V (fN lo mb tt X V S (I ((bJ k held).1:Int)) (bJ k held).2)):=fun V hV=>I8 k S V held ah ch (h.below hV) hR hl (hH.ch (cI.below hV))
 obtain⟨k1,hk1⟩:=ex ((bJ k held).2);obtain⟨i,hi⟩:=ex ((bJ k held).1);rw[<- hk1,<- hi] at HGT hi1;rw[<- hk1] at UI aah aeG hsh aeO;rw[<- hk1,<- hi];obtain⟨D,hD⟩:=ex (fY k1.aM p (rE k1 j p));rw[<- hD];have LO:Hid (∀V S',bH lo mb tt X V S' k1->∃fb cF pb cP va,¬mb=fb/\V.cell? (Ad mb 1)=some (.slice (some (Ad fb 0)) k1.frames.length cF)/\V.cell? (Ad mb 3)=some (.slice (some (Ad pb 0)) k1.aj.length cP)/\V.cell? (Ad pb (j*3+1))=some va/\(∃ax nx cx,va=.slice ax nx cx)/\(∀V',Below V.heap.size V V'->Calls Tryz.prog 77 #[va,I p] V' fun e w'=>e=.returned (.tuple #[.agg (qT (aW (ak k1.aj j).aT p).1),.bool (aW (ak k1.aj j).aT p).2])/\Below V'.heap.size V' w')/\(∀V',Below V.heap.size V V'->Calls Tryz.prog 130 #[.pointer (some (Ad mb 0)),I p,.bool (aW (ak k1.aj j).aT p).1.zero] V' fun e w'=>e=.returned (.string D)/\Below V'.heap.size V' w')/\V.cell? (Ad fb (i*4))=some (.string (aD k1.frames i).data)/\V.cell? (Ad fb (i*4+1))=some (I (aD k1.frames i).refs)/\V.cell? (Ad fb (i*4+2))=some (.bool (aD k1.frames i).jw)/\V.cell? (Ad fb (i*4+3))=some (.bool (aD k1.frames i).seen)/\V.frozen? (Ad fb (i*4))=false/\V.frozen? (Ad fb (i*4+1))=false/\V.frozen? (Ad fb (i*4+2))=false/\V.frozen? (Ad fb (i*4+3))=false /\
   (∀U,U=((((V.setCell (Ad fb (i*4)) (.string D)).setCell (Ad fb (i*4+1)) (I 1)).setCell (Ad fb (i*4+2)) (.bool false)).setCell (Ad fb (i*4+3)) (.bool false)).drew->bH lo mb tt X U S' (iK k1 i D false)/\cI S' V S' U)):=fun V S' hV=>by
  obtain⟨fb,cF,A⟩:=hV.toKr.fr (by omega);obtain⟨pb,cP,AL⟩:=hV.toKr.sp (by omega);have c1:=hV.c1;have c2:=hV.c3;rw[A.v] at c1;rw[AL.v] at c2;refine⟨fb,cF,pb,cP,(fA S'.L j).va,fun e=>by have:=A.lab;rw[<- e,hV.lH] at this;grind,c1,c2,AL.x1 j UI,?_,fun V' hb=>yo _ _ p V' (gu.below (hV.toKr.aT UI) hb) aeO,fun V' hb=>?_,A.x0 i hi1,A.x1 i hi1,A.x2 i hi1,A.x3 i hi1,A.fz _,A.fz _,A.fz _,A.fz _,fun U hU=>?_⟩
  · obtain⟨ax,cx,IP,_,_⟩:=bh (hV.each j UI).aT
    grind
  · rw[hD,hsh];have hm':=hV.below hb;exact M8 k.aM p _ mb V' (fun n hn=>hm'.cx n (hX n hn)) (by omega)
  have m:=hV.aeC A.v hi1 ⟨D,1,false,false⟩;subst hU;exact⟨m.1.below (aJ _ _).drew,m.2.trans (cI.below (aJ _ _).drew)⟩
 have HET:Hid (∀V S',bH lo mb tt X V S' (iK k1 i D false)->Calls Tryz.prog 293 #[.pointer (some (Ad mb 0)),I (j:Int),.agg #[I p,I 1,I (i:Int)]] V (fN lo mb tt X V S' (.tuple #[]) (fZ (iK k1 i D false) j ⟨p,1,i⟩))):=fun V S' hV=>by
  have hsp:(iK k1 i D false).aj=k1.aj:=rfl;exact DC _ S' V j ⟨p,1,i⟩ hV (by grind) (by grind) (by grind)
 have dm:Hid (∀V S',bH lo mb tt X V S' (fZ (iK k1 i D false) j ⟨p,1,i⟩)->cI S w S' V->fN lo mb tt X w S (I (i:Int)) (fZ (iK k1 i D false) j ⟨p,1,i⟩) (.returned (I (i:Int))) V):=fun V S' h1 h2=>⟨rfl,S',h1,h2⟩
 obtain⟨K3,hK3⟩:=ex (fZ (iK k1 i D false) j ⟨p,1,i⟩);rw[<- hK3] at HET dm ⊢;obtain⟨K1,hK1⟩:=ex (iK k1 i D false);rw[<- hK1] at LO HET;obtain⟨P,UK⟩:=ex (fN lo mb tt X w S (I (i:Int)) K3);rw[<- UK] at dm ⊢;obtain⟨FR,TL⟩:=ex (aD k1.frames i);rw[<- TL] at LO;obtain⟨nf,Bt⟩:=ex k1.frames.length;obtain⟨np,Ak⟩:=ex k1.aj.length;rw[<- Bt,<- Ak] at LO;have hji:(j:Int)<(np:Int):=by omega
 have hii:(i:Int)<(nf:Int):=by omega
 obtain⟨AR,hAR⟩:=ex (aW (ak k1.aj j).aT p);rw[<- hAR] at LO;obtain⟨⟨q0,q1,q2,q3⟩,q4⟩:=AR;unfold sJ at Aj;unfold qT at LO;simp only[gY] at Aj LO;clear hP UK e1 he h hR hj G hent hmv hcc UI hi1 aah aeG hk1 hi hD hK3 hK1 hH hl TL Bt Ak hAR hX hsh aeO;go_enter Tryz.func290,Tryz.ntmps290;go_upto_region 8 with(first
  | (go_at_call 129;refine Aj.o.mono ?_;rintro r w1 ⟨rfl,hb1⟩;have cM:=ai hb1;have jQ:=ai (cM.o.alloc cM.o.size (.cells #[I 0,I 0,I 0] 174));have BX:=ai (bD w1 #[I 0,I 0,I 0] 174);obtain⟨d0,d1,d2⟩:=ET BX.o;clear hb1)
  | (go_at_call 292;refine(HGT.o _ jQ.o).mono ?_;rintro r w2 ⟨rfl,S2,hk2,hc2⟩;have pM:=ai hk2;have yA:=ai ((cI.below jQ.o).trans hc2);clear hk2 hc2 d0 d1 d2))
 obtain⟨fb,cF,pb,cP,va,hmf,g1,g2,g3,⟨ax,nx,cx,IP⟩,aia,aib,g4,g5,g6,g7,g8,g9,g10,g11,hfin⟩:=LO.o w2 S2 pM.o;subst IP;have Q5:=ai (aia w2 (aJ _ _));have HFL:=ai aib;have Vw:=ai (fun V (hb:Below w2.heap.size w2 V)=>LO.o V S2 (pM.o.below hb));have hwl:=oJ w2 _ g4;have MH:=oJ w2 _ g1;have hwl:fb<w2.heap.size:=hwl;have MH:mb<w2.heap.size:=MH;clear aia aib g4 g5 g6 g7 g8 g9 g10 g11 hfin;have amg:Hid (∀V,Below w2.heap.size w2 V->V.cell? (Ad fb (i*4))=some (.string FR.data)/\V.cell? (Ad fb (i*4+1))=some (I FR.refs)/\V.cell? (Ad fb (i*4+2))=some (.bool FR.jw)/\V.cell? (Ad fb (i*4+3))=some (.bool FR.seen)/\V.frozen? (Ad fb (i*4))=false/\V.frozen? (Ad fb (i*4+1))=false/\V.frozen? (Ad fb (i*4+2))=false/\V.frozen? (Ad fb (i*4+3))=false/\(∀U,U=((((V.setCell (Ad fb (i*4)) (.string D)).setCell (Ad fb (i*4+1)) (I 1)).setCell (Ad fb (i*4+2)) (.bool false)).setCell (Ad fb (i*4+3)) (.bool false))->bH lo mb tt X U S2 K1/\cI S w S2 U)):=fun V hb=>by
  obtain⟨fb',cF',pb',cP',va',_,z1,_,_,_,_,_,z4,z5,z6,z7,z8,z9,z10,z11,anw⟩:=Vw.o V hb;have e:fb'=fb:=by
   rw[(hb.cell (p:=(Ad mb 1)) MH).trans g1] at z1;injection z1 with z1;injection z1 with e1 _ _;injection e1 with e1;injection e1 with e1 _ _;omega
  subst e;refine⟨z4,z5,z6,z7,z8,z9,z10,z11,fun U hU=>?_⟩;obtain⟨q1,q2⟩:=anw U.drew (by rw[hU]);exact⟨adx q1,(yA.o.trans (cI.below hb)).trans (Vt q2)⟩
 clear Vw LO;go_upto_region 9 with(go_at_call 77;refine Q5.o.mono ?_;rintro r w3 ⟨rfl,hb3⟩;have m7:=ai hb3;clear hb3)
 have Jl:=ai (m7.o.alloc m7.o.size (.cells #[I q0,I q1,I q2,.bool q3] 139));have AX:=ai (bD w3 #[I q0,I q1,I q2,.bool q3] 139);have hl3:=m7.o.size;obtain⟨W,hW⟩:=ex (w3.alloc (.cells #[I q0,I q1,I q2,.bool q3] 139));obtain⟨xb,LM⟩:=ex w3.heap.size;rw[<- hW] at Jl AX ⊢;rw[<- LM] at AX ⊢;have hxf:¬xb=fb:=by omega
 clear hW LM;have HS:Hid (∀V,Below W.heap.size W V->V.cell? (Ad mb 1)=some (.slice (some (Ad fb 0)) nf cF)/\V.cell? (Ad xb 3)=some (.bool q3)):=fun V hb=>⟨((Jl.o.trans (hb.mono Jl.o.size)).cell (p:=(Ad mb 1)) MH).trans g1,aq (aN AX.o hb (aI AX.o)) 3 rfl⟩
 have tM:=ai (aJ W.heap.size W).drew;have oh:=ai (HS.o _ tM.o);have ame:Hid (∀V,Below W.heap.size W V->Calls Tryz.prog 130 #[.pointer (some (Ad mb 0)),I p,.bool q3] V fun e w'=>e=.returned (.string D)/\Below V.heap.size V w'):=fun V hb=>HFL.o V (Jl.o.trans (hb.mono Jl.o.size))
 have Ze:Hid (∀V:World,(V.cell? (Ad mb 1)=some (.slice (some (Ad fb 0)) nf cF)/\V.cell? (Ad xb 3)=some (.bool q3))->∀v0 v1 v2 v3,((((V.setCell (Ad fb (i*4)) v0).setCell (Ad fb (i*4+1)) v1).setCell (Ad fb (i*4+2)) v2).setCell (Ad fb (i*4+3)) v3).cell? (Ad mb 1)=some (.slice (some (Ad fb 0)) nf cF)/\((((V.setCell (Ad fb (i*4)) v0).setCell (Ad fb (i*4+1)) v1).setCell (Ad fb (i*4+2)) v2).setCell (Ad fb (i*4+3)) v3).cell? (Ad xb 3)=some (.bool q3)):=fun V ⟨h0,h1⟩ v0 v1 v2 v3=>by
  rw[b7 _ _ _ _ _ _ hmf,b7 _ _ _ _ _ _ hmf,b7 _ _ _ _ _ _ hmf,b7 _ _ _ _ _ _ hmf,b7 _ _ _ _ _ _ hxf,b7 _ _ _ _ _ _ hxf,b7 _ _ _ _ _ _ hxf,b7 _ _ _ _ _ _ hxf];omega
 go_region_held3 (fun V=>V.cell? (Ad mb 1)=some (.slice (some (Ad fb 0)) nf cF)/\V.cell? (Ad xb 3)=some (.bool q3)) (first | exact si.o | exact oh.o | exact S6.o _ _ _ _)
  ((go_at_call 130;refine(ame.o _ tM.o).mono ?_;rintro r w5 ⟨rfl,LV⟩;have HK5:=ai (tM.o.trans (LV.mono tM.o.size));have si:=ai (HS.o _ HK5.o);have S6:=ai (fun v0 v1 v2 v3=>Ze.o w5 si.o v0 v1 v2 v3);have HZZ:=ai (amg.o w5 (Jl.o.trans (HK5.o.mono Jl.o.size)));obtain⟨z4,z5,z6,z7,z8,z9,z10,z11⟩:w5.cell? (Ad fb (i*4))=some (.string FR.data)/\w5.cell? (Ad fb (i*4+1))=some (I FR.refs)/\w5.cell? (Ad fb (i*4+2))=some (.bool FR.jw)/\w5.cell? (Ad fb (i*4+3))=some (.bool FR.seen)/\w5.frozen? (Ad fb (i*4))=false/\w5.frozen? (Ad fb (i*4+1))=false/\w5.frozen? (Ad fb (i*4+2))=false/\w5.frozen? (Ad fb (i*4+3))=false:=(by obtain⟨a1,a2,a3,a4,a5,a6,a7,a8,_⟩:=HZZ.o;exact⟨a1,a2,a3,a4,a5,a6,a7,a8⟩);clear LV))
 all_goals clear S6 Ze HS oh si HFL ame
 obtain⟨U,hU⟩:=ex (((((w5.setCell (Ad fb (i*4)) (.string D)).setCell (Ad fb (i*4+1)) (I 1)).setCell (Ad fb (i*4+2)) (.bool false)).setCell (Ad fb (i*4+3)) (.bool false)));obtain⟨_,_,_,_,_,_,_,_,zf⟩:=HZZ.o;obtain⟨hk6,hc6⟩:=zf U hU;have HK6:=ai hk6;have HC6:=ai hc6;rw[<- hU];clear hU hk6 hc6 zf HZZ z4 z5 z6 z7 z8 z9 z10 z11 amg;go_wp2_with (go_at_call 293;refine(HET.o _ _ HK6.o).mono ?_;rintro r w7 ⟨rfl,S7,hk7,hc7⟩;have HK7:=ai hk7;have HC7:=ai (HC6.o.trans hc7);clear hk7 hc7)
 exact dm.o _ _ HK7.o HC7.o
open Go.RowKit
theorem Qp {lo mb:Nat} {tt:TypeId} {X:List Value} (k:aR) (S:gB) (w:World) (j:Nat) (p:Int) (held:List Int) (ah:Option Addr) (ch:Nat) (h:bH lo mb tt X w S k) (hR:aY k) (hj:j<k.aj.length) (hp:dX k j p) (hX:Ku X k.aM) (hl:held.length<=2) (hH:m8 w S ah held) :
  Calls Tryz.prog 290 #[.pointer (some (Ad mb 0)),I (j:Int),I p,.slice ah held.length ch] w (fN lo mb tt X w S (I ((dn k j p held).1:Int)) (dn k j p held).2):=by
 cases he:bk (ak k.aj j).bf p with
 | none=>exact N8 k S w j p held ah ch h hR hj he hp hX hl hH
 | some e =>
  by_cases hk:e.kind=1
  · exact N9 k S w j p held ah ch e h hR hj he hk
  · exact I7 k S w j p held ah ch e h hR hj he hk hl hH
theorem Yx:∀l:List Int,∀u∈l.flatMap iz,u.oneCell'=true:=fun l u hu=>by
 obtain⟨y,_,hy⟩:=vg.1 hu;simp[iz] at hy;rw[hy];rfl
theorem Vs {w:World} {ah:Option Addr} {l:List Int} (h:dW iz 1 0 w ah l):mO w ah l.length (l.flatMap iz):=fun hm=>by
 obtain⟨b,off,rfl,hb,hl⟩:=h hm;exact yV (w:=w) iz 1 (fun _=>rfl) 0 l b off (fun i hi j hj=>hl i hi j hj) hm
theorem Fk {w:World} {base:Nat} {S:gB} {ao:Option Addr} {n c:Nat} {l:List Int} (hr:w.ownsRow base 3 1 (.slice ao n c) l.length (l.flatMap iz)) (hno:∀b,bW (.slice ao n c) b->S.lab b=.no):n=l.length/\m8 w S ao l:=by
 obtain⟨a,cap,e,_,hrow⟩:=ov iz (fun _=>rfl) 0 hr;injection e with e1 e2 e3;subst e1 e2;refine⟨rfl,hrow,fun b off e=>?_,fun b off e=>?_⟩
 · subst e;refine hno b ?_;rfl
 · subst e;rcases hr.2 with⟨h0,_⟩ | ⟨g,cap',cur,hv,_,hg,_⟩
   · cases h0
   grind
theorem Vv {lo mb:Nat} {tt:TypeId} {X:List Value} (k:aR) (S:gB) (w:World) (j:Nat) (p:Int) (a:Nat) (held:List Int) (ah:Option Addr) (ch:Nat) (h:bH lo mb tt X w S k) (hR:aY k) (hj:j<k.aj.length) (ha:bk (ak k.aj j).bf p=some ⟨p,1,a⟩) (hl:held.length<=1) (hH:m8 w S ah held) :
  Calls Tryz.prog 291 #[.pointer (some (Ad mb 0)),I (j:Int),I p,I (a:Int),.slice ah held.length ch] w (fN lo mb tt X w S (I ((kJ k j p a held).1:Int)) (kJ k j p a held).2):=by
 have hcc:=hR.c;have hne:=DT hR hj ha;obtain⟨fb,cF,A⟩:=h.toKr.fr (by omega);have c1:=h.c1;rw[A.v] at c1;have x1:=A.x1 a hne.1;have hai:(a:Int)<(k.frames.length:Int):=by omega
 by_cases c:(aD k.frames a).refs=1
 · have hP:kJ k j p a held=(a,k):=by grind [kJ]
   rw[hP];have dm:Hid (fN lo mb tt X w S (I (a:Int)) k (.returned (I (a:Int))) w):=⟨rfl,S,h,cI.refl _ _⟩;obtain⟨P,UK⟩:=ex (fN lo mb tt X w S (I (a:Int)) k);rw[<- UK] at dm ⊢;rw[c] at x1;obtain⟨nf,Bt⟩:=ex k.frames.length;rw[<- Bt] at c1 hai;clear hP UK c h hR hj ha hH hl A hne hcc Bt;go_enter Tryz.func291,Tryz.ntmps291;go_wp2;exact dm.o
 · have hl2:(held++[(a:Int)]).length<=2:=by grind
   have G:=sN hR hl2;have hH1:=G.PF a (lQ.2 (.inr (by simp))) hne.2;have hent:bk (ak (bJ k (held++[(a:Int)])).2.aj j).bf p=some ⟨p,1,a⟩:=G.stay hR hj ha (fun _=>lQ.2 (.inr (by simp)));obtain⟨k1,hk1⟩:=ex ((bJ k (held++[(a:Int)])).2);obtain⟨i,hi⟩:=ex ((bJ k (held++[(a:Int)])).1);have hP:kJ k j p a held=(i,eH k1 j p i (aD k1.frames a).data true):=by
    unfold kJ
    grind
   have hGT:∀V S',bH lo mb tt X V S' k->∀ah' ch',m8 V S' ah' (held++[(a:Int)])->Calls Tryz.prog 292 #[.pointer (some (Ad mb 0)),.slice ah' (held++[(a:Int)]).length ch'] V (fN lo mb tt X V S' (I (i:Int)) k1):=fun V S' hV ah' ch' hh=>by
    have:=I8 k S' V (held++[(a:Int)]) ah' ch' hV hR hl2 hh;rw[<- hk1,<- hi] at this;exact this
   rw[<- hk1] at hent hH1;rw[<- hi] at hH1;have UI:j<k1.aj.length:=by have:=G.kept.np;grind
   have aiQ:k1.frames.length=k.frames.length:=by have:=G.kept.nf;grind
   have hi1:i<k1.frames.length:=by rw[aiQ,hi];exact G.lt
   have ha1:a<k1.frames.length:=by omega
   have IV:aY k1:=by have:=G.right;grind
   have aah:=nW IV UI;have aoF:=IV.c;have hrf:=(xW IV).1 a ha1;obtain⟨D,hD⟩:=ex ((aD k1.frames a).data);have alq:i≠a:=fun e=>hH1.1 e.symm
   have hfa:aD (iK k1 i D true).frames a=aD k1.frames a:=by
    show aD (k1.frames.set i _) a=_;rw[jM _ _ _ _ hi1,au alq]
   have hra:¬(aD k1.frames a).refs-1=0:=by grind
   obtain⟨K2,hK2⟩:∃K2:aR,K2={ iK k1 i D true with frames:=(iK k1 i D true).frames.set a ⟨(aD k1.frames a).data,(aD k1.frames a).refs-1,(aD k1.frames a).jw,(aD k1.frames a).seen⟩ }:=⟨_,rfl⟩;have hmv:eH k1 j p i D true=fZ K2 j ⟨p,1,i⟩:=by
    unfold eH;rw[hent];show dE _ _=_;rw[<- Fl];congr 1;unfold dE;rw[aB rfl,hK2];show({ iK k1 i D true with frames:=(iK k1 i D true).frames.set (a:Int).toNat (rp (aD (iK k1 i D true).frames (a:Int).toNat)) }:aR)=_;rw[lD,hfa];unfold rp
    grind
   rw[hP,<- hD,hmv];have LO:Hid (∀V S',bH lo mb tt X V S' k1->∃fb cF,V.cell? (Ad mb 1)=some (.slice (some (Ad fb 0)) k1.frames.length cF)/\¬mb=fb/\V.cell? (Ad fb (a*4))=some (.string D)/\V.cell? (Ad fb (i*4))=some (.string (aD k1.frames i).data)/\V.cell? (Ad fb (i*4+1))=some (I (aD k1.frames i).refs)/\V.cell? (Ad fb (i*4+2))=some (.bool (aD k1.frames i).jw)/\V.cell? (Ad fb (i*4+3))=some (.bool (aD k1.frames i).seen)/\V.frozen? (Ad fb (i*4))=false/\V.frozen? (Ad fb (i*4+1))=false/\V.frozen? (Ad fb (i*4+2))=false/\V.frozen? (Ad fb (i*4+3))=false /\
     (∀U,U=((((V.setCell (Ad fb (i*4)) (.string D)).setCell (Ad fb (i*4+1)) (I 1)).setCell (Ad fb (i*4+2)) (.bool true)).setCell (Ad fb (i*4+3)) (.bool false)).drew->U.cell? (Ad mb 1)=some (.slice (some (Ad fb 0)) k1.frames.length cF)/\U.cell? (Ad fb (a*4+1))=some (I (aD k1.frames a).refs)/\U.frozen? (Ad fb (a*4+1))=false/\bH lo mb tt X (U.setCell (Ad fb (a*4+1)) (I ((aD k1.frames a).refs-1))) S' K2/\cI S' V S' (U.setCell (Ad fb (a*4+1)) (I ((aD k1.frames a).refs-1))))):=fun V S' hV=>by
    obtain⟨fb,cF,A⟩:=hV.toKr.fr (by omega);have c1:=hV.c1;rw[A.v] at c1;refine⟨fb,cF,c1,fun e=>by have:=A.lab;rw[<- e,hV.lH] at this;simp at this,by rw[hD];exact A.x0 a ha1,A.x0 i hi1,A.x1 i hi1,A.x2 i hi1,A.x3 i hi1,A.fz _,A.fz _,A.fz _,A.fz _,fun U hU=>?_⟩;have m:=hV.aeC A.v hi1 ⟨D,1,true,false⟩;have m1:bH lo mb tt X U S' (iK k1 i D true):=by subst hU;exact m.1.below (aJ _ _).drew
    have ch1:cI S' V S' U:=by subst hU;exact m.2.trans (cI.below (aJ _ _).drew)
    have hln:(iK k1 i D true).frames.length=k1.frames.length:=fC;obtain⟨fb',cF',A'⟩:=m1.toKr.fr (by omega);have e:fb'=fb:=by
     have:=A'.v;rw[A.v] at this;injection this with e1 _ _;injection e1 with e1;injection e1 with e1 _ _;omega
    subst e;have c1':=m1.c1;rw[A.v] at c1';have y1:=A'.x1 a (by omega);rw[hfa] at y1;refine⟨c1',y1,A'.fz _,?_,ch1.trans (zK m1.toKr A'.v)⟩;rw[hK2];exact m1.LQ A'.v (i:=a) (by omega) (j:=1) (by omega) (by rw[hfa];rfl)
   have HET:Hid (∀V S',bH lo mb tt X V S' K2->Calls Tryz.prog 293 #[.pointer (some (Ad mb 0)),I (j:Int),.agg #[I p,I 1,I (i:Int)]] V (fN lo mb tt X V S' (.tuple #[]) (fZ K2 j ⟨p,1,i⟩))):=fun V S' hV=>by
    have hsp:K2.aj=k1.aj:=by rw[hK2];rfl
    exact DC _ S' V j ⟨p,1,i⟩ hV (by grind) (by grind) (by grind)
   have dm:Hid (∀V S',bH lo mb tt X V S' (fZ K2 j ⟨p,1,i⟩)->cI S w S' V->fN lo mb tt X w S (I (i:Int)) (fZ K2 j ⟨p,1,i⟩) (.returned (I (i:Int))) V):=fun V S' h1 h2=>⟨rfl,S',h1,h2⟩
   obtain⟨K3,hK3⟩:=ex (fZ K2 j ⟨p,1,i⟩);rw[<- hK3] at HET dm ⊢;obtain⟨P,UK⟩:=ex (fN lo mb tt X w S (I (i:Int)) K3);rw[<- UK] at dm ⊢;have Oj:Hid (Calls Tryz.prog 294 #[.slice ah held.length ch] w fun e w'=>∃av cv,e=.returned (.slice av held.length cv)/\w'.ownsRow w.heap.size 3 1 (.slice av held.length cv) held.length (held.flatMap iz)/\Below w.heap.size w w'):=(abQ ah held.length ch (held.flatMap iz) w (fT iz 1 (fun _=>rfl) held) (Vs hH.has) (Yx held) (by omega)).mono fun e w' ⟨v,h1,h2,h3⟩=>by
    obtain⟨av,cv,rfl,_⟩:=bh h2;exact⟨av,cv,h1,h2,h3⟩
   have HGT:Hid (∀V U av nv cv,Below w.heap.size w V->U=V->V.ownsRow w.heap.size 3 1 (.slice av nv cv) (held.length+1) (held.flatMap iz++[I (a:Int)])->Calls Tryz.prog 292 #[.pointer (some (Ad mb 0)),.slice av nv cv] V (fN lo mb tt X V S (I (i:Int)) k1)):=fun V U av nv cv hb _ hr=>by
    have e1:(held++[(a:Int)]).length=held.length+1:=by simp
    have e2:(held++[(a:Int)]).flatMap iz=held.flatMap iz++[I (a:Int)]:=by simp[iz]
    rw[<- e1,<- e2] at hr;obtain⟨q1,q2⟩:=Fk (S:=S) hr (fun b hb2=>h.toKr.new (hr.lt b hb2).1);rw[q1];exact hGT V S (h.below hb) av cv q2
   obtain⟨i0,hin,hz0,hz1,hz2⟩:=jm Mw;have Ed:=ai hin;have Hh:=ai hz0;have FU:=ai hz1;have yH:=ai hz2;have xb:((aD k.frames a).refs==1)=false:=by simpa using c
   obtain⟨R0,hR0⟩:=ex ((aD k.frames a).refs);rw[<- hR0] at x1 xb;obtain⟨R1,alz⟩:=ex ((aD k1.frames a).refs);rw[<- alz] at LO hrf;have hw1:IntKind.i64.wrap (R1-1)=R1-1:=ve _ (by omega);obtain⟨FR,TL⟩:=ex (aD k1.frames i);rw[<- TL] at LO;obtain⟨nf,Bt⟩:=ex k.frames.length;rw[aiQ,<- Bt] at LO;rw[<- Bt] at c1 hai;have hii:(i:Int)<(nf:Int):=by omega
   have hhl:held.length<=1:=hl;clear hP UK c h hR hj ha hH hl A hne hcc Bt hin hz0 hz1 hz2 TL alz hR0 hK3 hGT hmv hK2 hra hfa alq hD hrf aoF aah IV ha1 hi1 aiQ UI hH1 hent hi G hl2 hk1;go_enter Tryz.func291,Tryz.ntmps291;go_upto_region 4 with(first
    | (at_builtin;refine fq (P:=Tryz.prog) rfl _ _ 48 rfl w.heap.size 3 i0 (I 0) 1 8 Tryz.underlying48 Ed.o Hh.o FU.o yH.o rfl (by decide) _ held.length (held.flatMap iz) rfl HO1.o (some (Ad w1.heap.size 0)) 1 1 [I (a:Int)] rfl rfl (fun _=>⟨_,rfl,Gv (bD w1 _ _)⟩) (by intro u hu;simp at hu;rw[hu];rfl) (by unfold maxLen;omega) (by omega) (by have:=cM.o.size;simp;omega) ?_;intro v' w' hown hgr hat;obtain⟨aG,cG,hvG,_,_⟩:=bh hown;subst hvG;have Hj:=ai hown;have gP:=ai ((cM.o.alloc cM.o.size (.cells #[I (a:Int)] 3)).grown hgr (by have:=cM.o.size;simp;omega) (fun q hq=>(HO1.o.lt q hq).1));clear hown hgr hat)
    | (go_at_call 294;refine Oj.o.mono ?_;rintro e w1 ⟨av,cv,rfl,hr1,hb1⟩;have cM:=ai hb1;have HO1:=ai (hr1.alloc (.cells #[I (a:Int)] 3));clear hr1 hb1)
    | (go_at_call 292;refine(HGT.o _ _ _ _ _ gP.o rfl Hj.o).mono ?_;rintro e w3 ⟨rfl,S3,hk3,hc3⟩;have Bg:=ai hk3;have Ww:=ai ((cI.below gP.o).trans hc3);clear hk3 hc3))
   obtain⟨fb3,cF3,g1,gne,g2,g3,g4,g5,g6,g7,g8,g9,g10,hfin⟩:=LO.o w3 S3 Bg.o;obtain⟨U,hU⟩:=ex (((((w3.setCell (Ad fb3 (i*4)) (.string D)).setCell (Ad fb3 (i*4+1)) (I 1)).setCell (Ad fb3 (i*4+2)) (.bool true)).setCell (Ad fb3 (i*4+3)) (.bool false)).drew);obtain⟨y1,y2,y3,hk4,hc4⟩:=hfin U hU;have HU:=ai hU;have HK4:=ai hk4;have HC4:=ai (Ww.o.trans hc4);clear hfin hU hk4 hc4;go_region;rw[<- HU.o];clear g1 g2 g3 g4 g5 g6 g7 g8 g9 g10 HU;go_wp2_with (go_at_call 293;refine(HET.o _ _ HK4.o).mono ?_;rintro r w5 ⟨rfl,S5,hk5,hc5⟩;have HK5:=ai hk5;have HC5:=ai (HC4.o.trans hc5);clear hk5 hc5)
   exact dm.o _ _ HK5.o HC5.o
open Go.RowKit
theorem Vu {lo mb:Nat} {tt:TypeId} {X:List Value} (k:aR) (S:gB) (w:World) (j:Nat) (p way:Int) (held:List Int) (ah:Option Addr) (ch:Nat) (h:bH lo mb tt X w S k) (hR:aY k) (hj:j<k.aj.length) (hp:dX k j p) (hX:Ku X k.aM) (hl:held.length<=1) (hH:m8 w S ah held) :
  Calls Tryz.prog 284 #[.pointer (some (Ad mb 0)),I (j:Int),I p,I way,.slice ah held.length ch] w (fN lo mb tt X w S (I ((dG k j p way held).1:Int)) (dG k j p way held).2):=by
 have Po:=ai (Qp k S w j p held ah ch h hR hj hp hX (by omega) hH);have hB:=(qK hR hj hp way hl).1;have hPB:=zO hR hj hp (held:=held) (by omega);have hcc:=hR.c;have Q0:Hid (∀V S' K i,ir k j p way held=(i,K)->bH lo mb tt X V S' K->∃fb cF,V.cell? (Ad mb 1)=some (.slice (some (Ad fb 0)) k.frames.length cF)/\¬mb=fb/\i<k.frames.length/\V.cell? (Ad fb (i*4+2))=some (.bool (aD K.frames i).jw)/\V.cell? (Ad fb (i*4+3))=some (.bool (aD K.frames i).seen)/\V.frozen? (Ad fb (i*4+2))=false/\V.frozen? (Ad fb (i*4+3))=false /\
   (way≠1->bH lo mb tt X (V.setCell (Ad fb (i*4+3)) (.bool true)) S' (dG k j p way held).2/\cI S' V S' (V.setCell (Ad fb (i*4+3)) (.bool true))) /\
   (way=1->bH lo mb tt X ((V.setCell (Ad fb (i*4+2)) (.bool true)).setCell (Ad fb (i*4+3)) (.bool true)) S' (dG k j p way held).2/\cI S' V S' ((V.setCell (Ad fb (i*4+2)) (.bool true)).setCell (Ad fb (i*4+3)) (.bool true)))):=fun V S' K i e hV=>by
  have Bt:K.frames.length=k.frames.length:=by
   have:=hB.kept.nf;unfold dG at this;rw[e] at this;have this:(K.frames.set i _).length=_:=this
   grind
  have hi:i<k.frames.length:=by
   have:=hB.lt
   grind [dG]
  have hbr:(dG k j p way held).2={ K with frames:=K.frames.set i (y8 way (aD K.frames i)) }:=by
   unfold dG;rw[e];rfl
  obtain⟨fb,cF,A⟩:=hV.toKr.fr (by omega);have c1:=hV.c1;rw[A.v,Bt] at c1;have hiK:i<K.frames.length:=by omega
  refine⟨fb,cF,c1,fun e=>by have:=A.lab;rw[<- e,hV.lH] at this;grind,hi,A.x2 i hiK,A.x3 i hiK,A.fz _,A.fz _,fun hw=>?_,fun hw=>?_⟩
  · refine⟨?_,zK hV.toKr A.v⟩;rw[hbr];refine hV.LQ A.v hiK (j:=3) (by omega) ?_;unfold y8;rw[je hw,Bool.or_false];rfl
  · have m1:=hV.LQ A.v hiK (j:=2) (by omega) (f:=⟨(aD K.frames i).data,(aD K.frames i).refs,true,(aD K.frames i).seen⟩) (u:=.bool true) rfl;have m2:=m1.LQ A.v (i:=i) (by grind) (j:=3) (by omega) (f:=y8 way (aD K.frames i)) (u:=.bool true) (by
     simp only[aD,eI _ _ _ _ hiK];unfold y8;rw[gU hw,Bool.or_true];rfl)
    simp only[pQ] at m2;rw[hbr];exact⟨m2,(zK hV.toKr A.v).trans (zK hV.toKr A.v)⟩
 have hb1:(dG k j p way held).1=(ir k j p way held).1:=rfl;rw[hb1];have dm:Hid (∀V S' i,i=(ir k j p way held).1->bH lo mb tt X V S' (dG k j p way held).2->cI S w S' V->fN lo mb tt X w S (I ((ir k j p way held).1:Int)) (dG k j p way held).2 (.returned (I (i:Int))) V):=fun V S' i hi h1 h2=>⟨by rw[hi],S',h1,h2⟩
 obtain⟨P,hP⟩:=ex (fN lo mb tt X w S (I ((ir k j p way held).1:Int)) (dG k j p way held).2);rw[<- hP] at dm ⊢;obtain⟨KB,hKB⟩:=ex ((dG k j p way held).2);rw[<- hKB] at dm Q0;by_cases c:way=1
 · have e2:ir k j p way held=kJ (dn k j p held).2 j p (dn k j p held).1 held:=by grind [ir]
   have Xr:Hid (∀V S',bH lo mb tt X V S' (dn k j p held).2->cI S w S' V->Calls Tryz.prog 291 #[.pointer (some (Ad mb 0)),I (j:Int),I p,I ((dn k j p held).1:Int),.slice ah held.length ch] V (fN lo mb tt X V S' (I ((ir k j p way held).1:Int)) (ir k j p way held).2)):=fun V S' hV hc=>by
    rw[e2];exact Vv (dn k j p held).2 S' V j p (dn k j p held).1 held ah ch hV hPB.right (by rw[hPB.kept.np];exact hj) hPB.here hl (hH.ch hc)
   obtain⟨TK,hTK⟩:=ex (ir k j p way held);rw[<- hTK] at Xr dm Q0;obtain⟨PR,hPR⟩:=ex (dn k j p held);rw[<- hPR] at Po Xr;obtain⟨i,K⟩:=TK;obtain⟨ip,aC⟩:=PR;have HLA:=ai (fun V S' hV=>Q0.o V S' K i rfl hV);have Ai:=ai (fun V S'=>dm.o V S' i rfl);simp only at Po Xr;have HW:=ai c;have wb:(way==1)=true:=by grind
   obtain⟨FR,TL⟩:=ex (aD K.frames i);rw[<- TL] at HLA;obtain⟨nf,Bt⟩:=ex k.frames.length;rw[<- Bt] at HLA;clear Q0 dm hP h hR hj hp hX hl hH hB hPB hcc hKB hTK hPR e2 hb1 TL Bt c;go_enter Tryz.func284,Tryz.ntmps284;go_upto_region 4 with(first
    | (go_at_call 290;refine Po.o.mono ?_;rintro e w1 ⟨rfl,S1,hk1,hc1⟩;have uY:=ai hk1;have HC1:=ai hc1;clear hk1 hc1)
    | (go_at_call 291;refine(Xr.o _ _ uY.o HC1.o).mono ?_;rintro e w2 ⟨rfl,S2,hk2,hc2⟩;have pM:=ai hk2;have yA:=ai (HC1.o.trans hc2);clear hk2 hc2))
   obtain⟨fb,cF,g1,gne,gi,g2,g3,g4,g5,_,hfin⟩:=HLA.o w2 S2 pM.o;obtain⟨hk3,hc3⟩:=hfin HW.o;have Bg:=ai hk3;have Ww:=ai (yA.o.trans hc3);have hii:(i:Int)<(nf:Int):=by omega
   clear hfin hk3 hc3;go_wp2;exact Ai.o _ _ Bg.o Ww.o
 · have e2:ir k j p way held=dn k j p held:=by grind [ir]
   rw[<- e2] at Po;obtain⟨TK,hTK⟩:=ex (ir k j p way held);rw[<- hTK] at Po dm Q0;obtain⟨i,K⟩:=TK;have HLA:=ai (fun V S' hV=>Q0.o V S' K i rfl hV);have Ai:=ai (fun V S'=>dm.o V S' i rfl);simp only at Po;have HW:=ai c;have wb:(way==1)=false:=by grind
   obtain⟨FR,TL⟩:=ex (aD K.frames i);rw[<- TL] at HLA;obtain⟨nf,Bt⟩:=ex k.frames.length;rw[<- Bt] at HLA;clear Q0 dm hP h hR hj hp hX hl hH hB hPB hcc hKB hTK e2 hb1 TL Bt c;go_enter Tryz.func284,Tryz.ntmps284;go_upto_region 5 with(go_at_call 290;refine Po.o.mono ?_;rintro e w1 ⟨rfl,S1,hk1,hc1⟩;have uY:=ai hk1;have HC1:=ai hc1;clear hk1 hc1)
   obtain⟨fb,cF,g1,gne,gi,g2,g3,g4,g5,hfin,_⟩:=HLA.o w1 S1 uY.o;obtain⟨hk3,hc3⟩:=hfin HW.o;have Bg:=ai hk3;have Ww:=ai (HC1.o.trans hc3);have hii:(i:Int)<(nf:Int):=by omega
   clear hfin hk3 hc3;go_wp2;exact Ai.o _ _ Bg.o Ww.o
open Go.RowKit
def gL (x:Int×Int):Array Value:=#[I x.1,I x.2]
theorem nY {N g:Nat} {w W:World} (h:Below N w W) (hg:N<=g) (v0 v1:Value):Below N w ((W.setCell (Ad g 0) v0).setCell (Ad g 1) v1):=(h.setCell (p:=(Ad g 0)) hg v0).setCell (p:=(Ad g 1)) hg v1
theorem Ui (l:List aX) (v:Value) (a size way:Int) (w:World) (h:gu w v l) (hf:dH l) (ha:-9223372036854775808<=a/\a<=9223372036854775807) (hz:size<=9223372036854775807) :
  Calls Tryz.prog 283 #[v,I a,I size,I way] w fun e w'=>e=.returned (.agg (gL (bN l a size way)))/\Below w.heap.size w w':=by
 have Q5:=ai (fun p V (hV:gu V v l)=>yo l v p V hV hf);have HH:=ai h;have gG:=ai ((aJ w.heap.size w).alloc (aH _) (.cells #[I 0,I 0] 75));have X0:=ai (bD w #[I 0,I 0] 75);have HF:Hid (bN l a size way=if way=2/\¬a%8=0 then (3,a) else bZ l a way size.toNat):=rfl;obtain⟨⟨R1,R2⟩,hR⟩:∃R,R=bN l a size way:=⟨_,rfl⟩;rw[<- hR] at HF ⊢;clear hR h hf;unfold gL;simp only;obtain⟨ao,vn,cap,rfl⟩:∃ao n cap,v=.slice ao n cap:=by
  obtain⟨ao,cap,h,_⟩:=HH.o
  grind
 have htm:a.tmod 8=0↔a%8=0:=by grind
 by_cases hal:way=2/\¬a%8=0
 · have HR:Hid ((R1,R2)=(3,a)):=by grind
   obtain⟨rfl,hal⟩:=hal;have h8:(a.tmod 8==0)=false:=by grind
   clear htm hal;go_enter Tryz.func283,Tryz.ntmps283;go_wp2;exact bK (v:=.agg #[I 3,I a]) (by simp[results,Tryz.results283,go_sem]) rfl ⟨by grind [Hid.o],(aJ w.heap.size w).alloc (aH _) _⟩
 · have HR:Hid ((R1,R2)=bZ l a way size.toNat):=by grind
   clear HF;by_cases c:way=2
   · subst c;have h8:a.tmod 8=0:=htm.2 (yM.1 (fun g=>hal ⟨rfl,g⟩));clear htm hal;go_enter Tryz.func283,Tryz.ntmps283;go_wp2_with fail
     go_loopw [23] (fun iv wr=>∃k:Nat,k<=size.toNat/\iv=I (k:Int)/\bZ l a 2 k=(0,0)/\wr.heap[w.heap.size]?=some (.cells #[I 0,I 0] 75 (0,0))/\Below w.heap.size w wr) (fun iv _=>size.toNat-(intOf iv).toNat)
     case atStart=>exact⟨0,by omega,rfl,rfl,X0.o,gG.o⟩
     case round =>
      obtain⟨k,hk,rfl,Bt,hx,hb⟩:=hrel;have HN:=ai Bt;have HX:=ai hx;have HB:=ai hb;clear Bt hx hb X0 gG;by_cases hlt:(k:Int)<size
      · have hsm:-9223372036854775808<=a+k/\a+k<=9223372036854775807:=by
         cases k with
         | zero=>omega
         | succ j =>
          have:=wj HN.o;omega
        have HST:=ai (uu HN.o);have Oi:Hid (∀f:Int×Int,bZ l a 2 (k+1)=f->¬f.1=0->(R1,R2)=f):=fun f h1 h2=>HR.o.trans (Cj h1 h2 _ (by omega))
        have Ha:=ai (fun V hV=>Q5.o ((a+k).tdiv 16) V hV);have HQ:Hid (0<=a+k->(a+k).tdiv 16=(a+k)/16):=fun h=>Pb h
        obtain⟨⟨⟨pp,pn,pt,pz⟩,ok⟩,hF⟩:∃F,F=aW l ((a+k).tdiv 16):=⟨_,rfl⟩;have Lp:=ai hF;rw[<- hF] at Ha;have abE:Hid (∀V,gu V (.slice ao vn cap) l->Calls Tryz.prog 77 #[.slice ao vn cap,I ((a+k).tdiv 16)] V fun e w'=>e=.returned (.tuple #[.agg #[I pp,I pn,I pt,.bool pz],.bool ok])/\Below V.heap.size V w'):=Ha;clear hF Ha;have HBT:Hid ((a+k<0->iN l (a+k) 2=(1,a+k))/\(0<=a+k->ok=false->iN l (a+k) 2=(1,a+k))/\(0<=a+k->ok=true->0<=pt/\pt<=3/\(nD pt 2=true->iN l (a+k) 2=(2,a+k))/\(nD pt 2=false->iN l (a+k) 2=(0,0)))):=by
         refine⟨fun h=>Bp (.inl h),fun h h2=>?_,fun h h2=>?_⟩
         · grind [Bp,Hid.o]
         · have e1:=Lp.o;rw[HQ.o h] at e1;have h3:(aW l ((a+k)/16)).2=true:=by grind
           have h4:=ik (s7 h3) h3
           grind [IJ,Rj]
        clear Lp;by_cases hneg:a+k<0
        · have QT:=ai (Oi.o _ (HST.o.trans (HBT.o.1 hneg)) (by simp));clear HBT Oi HST;go_wp2_with (go_at_call 77;refine(abE.o _ (HH.o.below HB.o)).mono ?_;rintro e w1 ⟨rfl,hb1⟩;have cM:=ai (bU HB.o hb1);have X1:=ai (aN HX.o hb1 (aI HX.o));clear hb1;have PC:=aI X1.o;obtain⟨x0,x1⟩:=qR X1.o;have f0:∀k,w1.frozen? (Ad w.heap.size k)=false:=fun k=>aQ X1.o k)
          exact bK (v:=.agg #[I 1,I (a+k)]) (by simp[results,Tryz.results283,go_sem,x0,x1,PC]) rfl ⟨by rw[(pP QT.o).1,(pP QT.o).2],(nY cM.o (aH _) _ _).alloc (by simp;omega) _⟩
        · have hnn:0<=a+k:=by omega
          have abD:=abE;rw[HQ.o hnn] at abD;clear hneg abE HQ;cases ok with
          | false =>
           have QT:=ai (Oi.o _ (HST.o.trans (HBT.o.2.1 (by omega) rfl)) (by simp));clear HBT Oi HST;go_wp2_with (go_at_call 77;refine(abD.o _ (HH.o.below HB.o)).mono ?_;rintro e w1 ⟨rfl,hb1⟩;have cM:=ai (bU HB.o hb1);have X1:=ai (aN HX.o hb1 (aI HX.o));clear hb1;have PC:=aI X1.o;obtain⟨x0,x1⟩:=qR X1.o;have f0:∀k,w1.frozen? (Ad w.heap.size k)=false:=fun k=>aQ X1.o k)
           exact bK (v:=.agg #[I 1,I (a+k)]) (by simp[results,Tryz.results283,go_sem,x0,x1,PC]) rfl ⟨by rw[(pP QT.o).1,(pP QT.o).2],(nY cM.o (aH _) _ _).alloc (by simp;omega) _⟩
          | true =>
           have hpt:=HBT.o.2.2 hnn rfl;have hbt:=IG pt 2 hpt.1 hpt.2.1;have WC:=ai hpt.2.2;have Jg:Hid (∀V,Calls Tryz.prog 289 #[I 2] V fun e w'=>e=.returned (I (tR 2))/\Below V.heap.size V w'):=fun V=>(Lz 2 V).mono fun e w' ⟨h1,h2⟩=>⟨h1,by grind [Below.refl]⟩
           clear hpt HBT;obtain⟨RN,hRN⟩:=ex (tR 2);rw[<- hRN] at hbt Jg;clear hRN;go_wp2_with (go_at_call 77;refine(abD.o _ (HH.o.below HB.o)).mono ?_;rintro e w1 ⟨rfl,hb1⟩;have cM:=ai (bU HB.o hb1);have X1:=ai (aN HX.o hb1 (aI HX.o));clear hb1;have PC:=aI X1.o)
           obtain⟨W,hW⟩:=ex (w1.alloc (.cells #[I pp,I pn,I pt,.bool pz] 139));have HW:=ai hW;have hs:W.heap.size=w1.heap.size+1:=by simp_all
           have Cv:=jh W;have hkc:=@fH W;have c2:∀x:dM W.heap.size W,x.world.cell? (Ad w1.heap.size 2)=some (I pt):=fun x=>by simp_all
           have Jl:Hid (Below w.heap.size w W):=by show Below _ _ _;rw[hW];exact cM.o.alloc cM.o.size _
           have XW:Hid (W.heap[w.heap.size]?=some (.cells #[I 0,I 0] 75 (0,0))):=by show _=_;rw[hW];exact bl X1.o _
           clear hW hs hkc;rw[<- HW.o];cases TE:nD pt 2 with
           | true =>
            rw[TE] at hbt;have ai2:(bits BinOp.and IntKind.i64 pt RN==RN)=false:=hbt;have QT:=ai (Oi.o _ (HST.o.trans (WC.o.1 TE)) (by simp));clear Oi HST WC hbt TE;refine di (by rfl) (by kernel_rfl) ?_
            repeat (first | go_big_quiet_step ((go_at_call 289;exact fO Jg.o _)) | quiet_step ((go_at_call 289;exact fO Jg.o _)))
            refine jd ?_;intro _ hw';obtain⟨x,hw''⟩:=hw';subst hw'';have gP:=ai (bU Jl.o x.keeps);have X2:=ai (aN XW.o x.keeps (aI XW.o));obtain⟨w2,Pv⟩:=ex x.world;rw[<- Pv] at gP X2 ⊢;clear Pv c2;obtain⟨x0,x1⟩:=qR X2.o;have f0:∀k,w2.frozen? (Ad w.heap.size k)=false:=fun k=>aQ X2.o k
            go_wp2;exact bK (v:=.agg #[I 2,I (a+k)]) (by simp[results,Tryz.results283,go_sem,x0,x1]) rfl ⟨by rw[(pP QT.o).1,(pP QT.o).2],nY gP.o (aH _) _ _⟩
           | false =>
            rw[TE] at hbt;have ai2:(bits BinOp.and IntKind.i64 pt RN==RN)=true:=hbt;have wE:=ai (HST.o.trans (WC.o.2 TE));clear Oi HST WC hbt TE;refine di (by rfl) (by kernel_rfl) ?_
            repeat (first | go_big_quiet_step ((go_at_call 289;exact fO Jg.o _)) | quiet_step ((go_at_call 289;exact fO Jg.o _)))
            refine jd ?_;intro _ hw';obtain⟨x,hw''⟩:=hw';subst hw'';have gP:=ai (bU Jl.o x.keeps);have X2:=ai (aN XW.o x.keeps (aI XW.o));obtain⟨w2,Pv⟩:=ex x.world;rw[<- Pv] at gP X2 ⊢;clear Pv c2;go_wp2
            grind [intOf,Hid.o]
      · have hke:k=size.toNat:=by omega
        have QT:Hid ((R1,R2)=(0,0)):=by grind [Hid.o]
        obtain⟨x0,x1⟩:=qR HX.o;have f0:∀k,wr.frozen? (Ad w.heap.size k)=false:=fun k=>aQ HX.o k
        clear hke;go_wp2;exact bK (v:=.agg #[I 0,I 0]) (by simp[results,Tryz.results283,go_sem,x0,x1]) rfl ⟨by rw[(pP QT.o).1,(pP QT.o).2],nY HB.o (aH _) _ _⟩
   · have hw2:(way==2)=false:=by grind
     clear htm hal c;go_enter Tryz.func283,Tryz.ntmps283;go_wp2_with fail
     go_loopw [23] (fun iv wr=>∃k:Nat,k<=size.toNat/\iv=I (k:Int)/\bZ l a way k=(0,0)/\wr.heap[w.heap.size]?=some (.cells #[I 0,I 0] 75 (0,0))/\Below w.heap.size w wr) (fun iv _=>size.toNat-(intOf iv).toNat)
     case atStart=>exact⟨0,by omega,rfl,rfl,X0.o,gG.o⟩
     case round =>
      obtain⟨k,hk,rfl,Bt,hx,hb⟩:=hrel;have HN:=ai Bt;have HX:=ai hx;have HB:=ai hb;clear Bt hx hb X0 gG;by_cases hlt:(k:Int)<size
      · have hsm:-9223372036854775808<=a+k/\a+k<=9223372036854775807:=by
         cases k with
         | zero=>omega
         | succ j =>
          have:=wj HN.o;omega
        have HST:=ai (uu HN.o);have Oi:Hid (∀f:Int×Int,bZ l a way (k+1)=f->¬f.1=0->(R1,R2)=f):=fun f h1 h2=>HR.o.trans (Cj h1 h2 _ (by omega))
        have Ha:=ai (fun V hV=>Q5.o ((a+k).tdiv 16) V hV);have HQ:Hid (0<=a+k->(a+k).tdiv 16=(a+k)/16):=fun h=>Pb h
        obtain⟨⟨⟨pp,pn,pt,pz⟩,ok⟩,hF⟩:∃F,F=aW l ((a+k).tdiv 16):=⟨_,rfl⟩;have Lp:=ai hF;rw[<- hF] at Ha;have abE:Hid (∀V,gu V (.slice ao vn cap) l->Calls Tryz.prog 77 #[.slice ao vn cap,I ((a+k).tdiv 16)] V fun e w'=>e=.returned (.tuple #[.agg #[I pp,I pn,I pt,.bool pz],.bool ok])/\Below V.heap.size V w'):=Ha;clear hF Ha;have HBT:Hid ((a+k<0->iN l (a+k) way=(1,a+k))/\(0<=a+k->ok=false->iN l (a+k) way=(1,a+k))/\(0<=a+k->ok=true->0<=pt/\pt<=3/\(nD pt way=true->iN l (a+k) way=(2,a+k))/\(nD pt way=false->iN l (a+k) way=(0,0)))):=by
         refine⟨fun h=>Bp (.inl h),fun h h2=>?_,fun h h2=>?_⟩
         · grind [Bp,Hid.o]
         · have e1:=Lp.o;rw[HQ.o h] at e1;have h3:(aW l ((a+k)/16)).2=true:=by grind
           have h4:=ik (s7 h3) h3
           grind [IJ,Rj]
        clear Lp;by_cases hneg:a+k<0
        · have QT:=ai (Oi.o _ (HST.o.trans (HBT.o.1 hneg)) (by simp));clear HBT Oi HST;go_wp2_with (go_at_call 77;refine(abE.o _ (HH.o.below HB.o)).mono ?_;rintro e w1 ⟨rfl,hb1⟩;have cM:=ai (bU HB.o hb1);have X1:=ai (aN HX.o hb1 (aI HX.o));clear hb1;have PC:=aI X1.o;obtain⟨x0,x1⟩:=qR X1.o;have f0:∀k,w1.frozen? (Ad w.heap.size k)=false:=fun k=>aQ X1.o k)
          exact bK (v:=.agg #[I 1,I (a+k)]) (by simp[results,Tryz.results283,go_sem,x0,x1,PC]) rfl ⟨by rw[(pP QT.o).1,(pP QT.o).2],(nY cM.o (aH _) _ _).alloc (by simp;omega) _⟩
        · have hnn:0<=a+k:=by omega
          have abD:=abE;rw[HQ.o hnn] at abD;clear hneg abE HQ;cases ok with
          | false =>
           have QT:=ai (Oi.o _ (HST.o.trans (HBT.o.2.1 (by omega) rfl)) (by simp));clear HBT Oi HST;go_wp2_with (go_at_call 77;refine(abD.o _ (HH.o.below HB.o)).mono ?_;rintro e w1 ⟨rfl,hb1⟩;have cM:=ai (bU HB.o hb1);have X1:=ai (aN HX.o hb1 (aI HX.o));clear hb1;have PC:=aI X1.o;obtain⟨x0,x1⟩:=qR X1.o;have f0:∀k,w1.frozen? (Ad w.heap.size k)=false:=fun k=>aQ X1.o k)
           exact bK (v:=.agg #[I 1,I (a+k)]) (by simp[results,Tryz.results283,go_sem,x0,x1,PC]) rfl ⟨by rw[(pP QT.o).1,(pP QT.o).2],(nY cM.o (aH _) _ _).alloc (by simp;omega) _⟩
          | true =>
           have hpt:=HBT.o.2.2 hnn rfl;have hbt:=IG pt way hpt.1 hpt.2.1;have WC:=ai hpt.2.2;have Jg:Hid (∀V,Calls Tryz.prog 289 #[I way] V fun e w'=>e=.returned (I (tR way))/\Below V.heap.size V w'):=fun V=>(Lz way V).mono fun e w' ⟨h1,h2⟩=>⟨h1,by grind [Below.refl]⟩
           clear hpt HBT;obtain⟨RN,hRN⟩:=ex (tR way);rw[<- hRN] at hbt Jg;clear hRN;go_wp2_with (go_at_call 77;refine(abD.o _ (HH.o.below HB.o)).mono ?_;rintro e w1 ⟨rfl,hb1⟩;have cM:=ai (bU HB.o hb1);have X1:=ai (aN HX.o hb1 (aI HX.o));clear hb1;have PC:=aI X1.o)
           obtain⟨W,hW⟩:=ex (w1.alloc (.cells #[I pp,I pn,I pt,.bool pz] 139));have HW:=ai hW;have hs:W.heap.size=w1.heap.size+1:=by simp_all
           have Cv:=jh W;have hkc:=@fH W;have c2:∀x:dM W.heap.size W,x.world.cell? (Ad w1.heap.size 2)=some (I pt):=fun x=>by simp_all
           have Jl:Hid (Below w.heap.size w W):=by show Below _ _ _;rw[hW];exact cM.o.alloc cM.o.size _
           have XW:Hid (W.heap[w.heap.size]?=some (.cells #[I 0,I 0] 75 (0,0))):=by show _=_;rw[hW];exact bl X1.o _
           clear hW hs hkc;rw[<- HW.o];cases TE:nD pt way with
           | true =>
            rw[TE] at hbt;have ai2:(bits BinOp.and IntKind.i64 pt RN==RN)=false:=hbt;have QT:=ai (Oi.o _ (HST.o.trans (WC.o.1 TE)) (by simp));clear Oi HST WC hbt TE;refine di (by rfl) (by kernel_rfl) ?_
            repeat (first | go_big_quiet_step ((go_at_call 289;exact fO Jg.o _)) | quiet_step ((go_at_call 289;exact fO Jg.o _)))
            refine jd ?_;intro _ hw';obtain⟨x,hw''⟩:=hw';subst hw'';have gP:=ai (bU Jl.o x.keeps);have X2:=ai (aN XW.o x.keeps (aI XW.o));obtain⟨w2,Pv⟩:=ex x.world;rw[<- Pv] at gP X2 ⊢;clear Pv c2;obtain⟨x0,x1⟩:=qR X2.o;have f0:∀k,w2.frozen? (Ad w.heap.size k)=false:=fun k=>aQ X2.o k
            go_wp2;exact bK (v:=.agg #[I 2,I (a+k)]) (by simp[results,Tryz.results283,go_sem,x0,x1]) rfl ⟨by rw[(pP QT.o).1,(pP QT.o).2],nY gP.o (aH _) _ _⟩
           | false =>
            rw[TE] at hbt;have ai2:(bits BinOp.and IntKind.i64 pt RN==RN)=true:=hbt;have wE:=ai (HST.o.trans (WC.o.2 TE));clear Oi HST WC hbt TE;refine di (by rfl) (by kernel_rfl) ?_
            repeat (first | go_big_quiet_step ((go_at_call 289;exact fO Jg.o _)) | quiet_step ((go_at_call 289;exact fO Jg.o _)))
            refine jd ?_;intro _ hw';obtain⟨x,hw''⟩:=hw';subst hw'';have gP:=ai (bU Jl.o x.keeps);have X2:=ai (aN XW.o x.keeps (aI XW.o));obtain⟨w2,Pv⟩:=ex x.world;rw[<- Pv] at gP X2 ⊢;clear Pv c2;go_wp2
            grind [intOf,Hid.o]
      · have hke:k=size.toNat:=by omega
        have QT:Hid ((R1,R2)=(0,0)):=by grind [Hid.o]
        obtain⟨x0,x1⟩:=qR HX.o;have f0:∀k,wr.frozen? (Ad w.heap.size k)=false:=fun k=>aQ HX.o k
        clear hke;go_wp2;exact bK (v:=.agg #[I 0,I 0]) (by simp[results,Tryz.results283,go_sem,x0,x1]) rfl ⟨by rw[(pP QT.o).1,(pP QT.o).2],nY HB.o (aH _) _ _⟩
end Go.Proofs.YtlgoihmkgaaemaaGreat
