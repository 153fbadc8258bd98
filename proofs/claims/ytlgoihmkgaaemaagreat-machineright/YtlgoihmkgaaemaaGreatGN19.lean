import Derived.Test.YtlgoihmkgaaemaaGreatGN18
set_option maxHeartbeats 20000000
set_option linter.unusedVariables false
set_option maxRecDepth 100000
set_option linter.unusedSimpArgs false
namespace Go.Proofs.YtlgoihmkgaaemaaGreat
open Go.RowKit
theorem ad7 {lo mb:Nat} {tt:TypeId} {X:List Value} {U:World} {S:gI} {k:aT} (h:bK lo mb tt X U.drew S k):bK lo mb tt X U S k:=h.kp (E:=fun _=>False) ⟨rfl,rfl,rfl,aI _,fun _ _ _=>rfl⟩ (fun _ _ g=>g)
theorem VO {S S':gI} {w U:World} (h:cM S w S' U.drew):cM S w S' U:=⟨⟨h.kp.os,h.kp.tape,h.kp.output,h.kp.size,h.kp.block⟩,h.no,h.eS,h.eF,h.eL,h.eP⟩
theorem Ou {lo mb:Nat} {tt:TypeId} {X:List Value} (k:aT) (S:gI) (w:World) (j:Nat) (p:Int) (held:List Int) (ah:Option Addr) (ch:Nat) (h:bK lo mb tt X w S k) (hR:aZ k) (hj:j<k.aj.length) (he:bu (ak k.aj j).bc p=none) (hp:ez k j p) (hX:KH X k.aM) (hl:held.length<=2) (hH:nj w S ah held) :
  Calls Tryz.prog 290 #[.pointer (some (Ad mb 0)),I (j:Int),I p,.slice ah held.length ch] w (fU lo mb tt X w S (I ((dA k j p held).1:Int)) (dA k j p held).2):=by
 have Az:=ai (Jk k S w j p h hR hj);have e1:nt (ak k.aj j).bc p=(gV,false):=by grind [nt]
 rw[e1] at Az;have G:=s8 hR hl;have hP:dA k j p held=((bN k held).1,eU (bN k held).2 j p (bN k held).1 (gm (bN k held).2.aM p (rT (bN k held).2 j p)) false):=by
  grind [dA]
 have hent:bu (ak (bN k held).2.aj j).bc p=none:=by grind [um.M6]
 have hmv:eU (bN k held).2 j p (bN k held).1 (gm (bN k held).2.aM p (rT (bN k held).2 j p)) false=gp (iU (bN k held).2 (bN k held).1 (gm (bN k held).2.aM p (rT (bN k held).2 j p)) false) j ⟨p,1,(bN k held).1⟩:=by
  grind [eU]
 rw[hP,hmv];have Hb:=kP hp;have hsh:=G.kept.aM;have afx:dO (ak (bN k held).2.aj j).aU:=by
  have:=(G.right.sp (by rw[G.kept.np];exact hj)).aU;exact lK _ this
 have hcc:=hR.c;have Vb:j<(bN k held).2.aj.length:=by rw[G.kept.np];exact hj
 have hi1:(bN k held).1<(bN k held).2.frames.length:=by rw[G.kept.nf];exact G.lt
 have aaQ:=og G.right Vb;have afo:=G.kept.np;have HGT:Hid (∀V,Below w.heap.size w V->Calls Tryz.prog 292 #[.pointer (some (Ad mb 0)),.slice ah held.length ch] V (fU lo mb tt X V S (I ((bN k held).1:Int)) (bN k held).2)):=fun V hV=>Jj k S V held ah ch (h.below hV) hR hl (hH.ch (cM.below hV))
 obtain⟨k1,hk1⟩:=ex ((bN k held).2);obtain⟨i,hi⟩:=ex ((bN k held).1);rw[<- hk1,<- hi] at HGT hi1;rw[<- hk1] at Vb aaQ afo hsh afx;rw[<- hk1,<- hi];obtain⟨D,hD⟩:=ex (gm k1.aM p (rT k1 j p));rw[<- hD];have Hw:Hid (∀V S',bK lo mb tt X V S' k1->∃fb cF pb cP va,¬mb=fb/\V.cell? (Ad mb 1)=some (.slice (some (Ad fb 0)) k1.frames.length cF)/\V.cell? (Ad mb 3)=some (.slice (some (Ad pb 0)) k1.aj.length cP)/\V.cell? (Ad pb (j*3+1))=some va/\(∃ax nx cx,va=.slice ax nx cx)/\(∀V',Below V.heap.size V V'->Calls Tryz.prog 77 #[va,I p] V' fun e w'=>e=.returned (.tuple #[.agg (ru (aY (ak k1.aj j).aU p).1),.bool (aY (ak k1.aj j).aU p).2])/\Below V'.heap.size V' w')/\(∀V',Below V.heap.size V V'->Calls Tryz.prog 130 #[.pointer (some (Ad mb 0)),I p,.bool (aY (ak k1.aj j).aU p).1.zero] V' fun e w'=>e=.returned (.string D)/\Below V'.heap.size V' w')/\V.cell? (Ad fb (i*4))=some (.string (aH k1.frames i).data)/\V.cell? (Ad fb (i*4+1))=some (I (aH k1.frames i).refs)/\V.cell? (Ad fb (i*4+2))=some (.bool (aH k1.frames i).jo)/\V.cell? (Ad fb (i*4+3))=some (.bool (aH k1.frames i).seen)/\V.frozen? (Ad fb (i*4))=false/\V.frozen? (Ad fb (i*4+1))=false/\V.frozen? (Ad fb (i*4+2))=false/\V.frozen? (Ad fb (i*4+3))=false /\
   (∀U,U=((((V.setCell (Ad fb (i*4)) (.string D)).setCell (Ad fb (i*4+1)) (I 1)).setCell (Ad fb (i*4+2)) (.bool false)).setCell (Ad fb (i*4+3)) (.bool false)).drew->bK lo mb tt X U S' (iU k1 i D false)/\cM S' V S' U)):=fun V S' hV=>by
  obtain⟨fb,cF,A⟩:=hV.toKr.fr (by omega);obtain⟨pb,cP,AL⟩:=hV.toKr.sp (by omega);have c1:=hV.c1;have c2:=hV.c3;rw[A.v] at c1;rw[AL.v] at c2;refine⟨fb,cF,pb,cP,(fH S'.L j).va,fun e=>by have:=A.lab;rw[<- e,hV.lH] at this;grind,c1,c2,AL.x1 j Vb,?_,fun V' hb=>yI _ _ p V' (fZ.below (hV.toKr.aU Vb) hb) afx,fun V' hb=>?_,A.x0 i hi1,A.x1 i hi1,A.x2 i hi1,A.x3 i hi1,A.fz _,A.fz _,A.fz _,A.fz _,fun U hU=>?_⟩
  · obtain⟨ax,cx,Ja,_,_⟩:=bj (hV.each j Vb).aU
    grind
  · rw[hD,hsh];have hm':=hV.below hb;exact Ns k.aM p _ mb V' (fun n hn=>hm'.cx n (hX n hn)) (by omega)
  have m:=hV.afk A.v hi1 ⟨D,1,false,false⟩;subst hU;exact⟨m.1.below (aK _ _).drew,m.2.trans (cM.below (aK _ _).drew)⟩
 have HET:Hid (∀V S',bK lo mb tt X V S' (iU k1 i D false)->Calls Tryz.prog 293 #[.pointer (some (Ad mb 0)),I (j:Int),.agg #[I p,I 1,I (i:Int)]] V (fU lo mb tt X V S' (.tuple #[]) (gp (iU k1 i D false) j ⟨p,1,i⟩))):=fun V S' hV=>by
  have hsp:(iU k1 i D false).aj=k1.aj:=rfl;exact DR _ S' V j ⟨p,1,i⟩ hV (by grind) (by grind) (by grind)
 have dz:Hid (∀V S',bK lo mb tt X V S' (gp (iU k1 i D false) j ⟨p,1,i⟩)->cM S w S' V->fU lo mb tt X w S (I (i:Int)) (gp (iU k1 i D false) j ⟨p,1,i⟩) (.returned (I (i:Int))) V):=fun V S' h1 h2=>⟨rfl,S',h1,h2⟩
 obtain⟨K3,hK3⟩:=ex (gp (iU k1 i D false) j ⟨p,1,i⟩);rw[<- hK3] at HET dz ⊢;obtain⟨K1,hK1⟩:=ex (iU k1 i D false);rw[<- hK1] at Hw HET;obtain⟨P,Vf⟩:=ex (fU lo mb tt X w S (I (i:Int)) K3);rw[<- Vf] at dz ⊢;obtain⟨FR,T7⟩:=ex (aH k1.frames i);rw[<- T7] at Hw;obtain⟨nf,B6⟩:=ex k1.frames.length;obtain⟨np,AA⟩:=ex k1.aj.length;rw[<- B6,<- AA] at Hw;have hji:(j:Int)<(np:Int):=by omega
 have hii:(i:Int)<(nf:Int):=by omega
 obtain⟨AR,hAR⟩:=ex (aY (ak k1.aj j).aU p);rw[<- hAR] at Hw;obtain⟨⟨q0,q1,q2,q3⟩,q4⟩:=AR;unfold sW at Az;unfold ru at Hw;simp only[gV] at Az Hw;clear hP Vf e1 he h hR hj G hent hmv hcc Vb hi1 aaQ afo hk1 hi hD hK3 hK1 hH hl T7 B6 AA hAR hX hsh afx;go_enter Tryz.func290,Tryz.ntmps290;go_upto_region 8 with(first
  | (go_at_call 129;refine Az.o.mono ?_;rintro r w1 ⟨rfl,hb1⟩;have cN:=ai hb1;have jV:=ai (cN.o.alloc cN.o.size (.cells #[I 0,I 0,I 0] 174));have BX:=ai (bE w1 #[I 0,I 0,I 0] 174);obtain⟨d0,d1,d2⟩:=Ez BX.o;clear hb1)
  | (go_at_call 292;refine(HGT.o _ jV.o).mono ?_;rintro r w2 ⟨rfl,S2,hk2,hc2⟩;have pU:=ai hk2;have yP:=ai ((cM.below jV.o).trans hc2);clear hk2 hc2 d0 d1 d2))
 obtain⟨fb,cF,pb,cP,va,hmf,g1,g2,g3,⟨ax,nx,cx,Ja⟩,ajf,ajg,g4,g5,g6,g7,g8,g9,g10,g11,hfin⟩:=Hw.o w2 S2 pU.o;subst Ja;have Rn:=ai (ajf w2 (aK _ _));have HFL:=ai ajg;have VR:=ai (fun V (hb:Below w2.heap.size w2 V)=>Hw.o V S2 (pU.o.below hb));have hwl:=oQ w2 _ g4;have MV:=oQ w2 _ g1;have hwl:fb<w2.heap.size:=hwl;have MV:mb<w2.heap.size:=MV;clear ajf ajg g4 g5 g6 g7 g8 g9 g10 g11 hfin;have anN:Hid (∀V,Below w2.heap.size w2 V->V.cell? (Ad fb (i*4))=some (.string FR.data)/\V.cell? (Ad fb (i*4+1))=some (I FR.refs)/\V.cell? (Ad fb (i*4+2))=some (.bool FR.jo)/\V.cell? (Ad fb (i*4+3))=some (.bool FR.seen)/\V.frozen? (Ad fb (i*4))=false/\V.frozen? (Ad fb (i*4+1))=false/\V.frozen? (Ad fb (i*4+2))=false/\V.frozen? (Ad fb (i*4+3))=false/\(∀U,U=((((V.setCell (Ad fb (i*4)) (.string D)).setCell (Ad fb (i*4+1)) (I 1)).setCell (Ad fb (i*4+2)) (.bool false)).setCell (Ad fb (i*4+3)) (.bool false))->bK lo mb tt X U S2 K1/\cM S w S2 U)):=fun V hb=>by
  obtain⟨fb',cF',pb',cP',va',_,z1,_,_,_,_,_,z4,z5,z6,z7,z8,z9,z10,z11,aph⟩:=VR.o V hb;have e:fb'=fb:=by
   rw[(hb.cell (p:=(Ad mb 1)) MV).trans g1] at z1;injection z1 with z1;injection z1 with e1 _ _;injection e1 with e1;injection e1 with e1 _ _;omega
  subst e;refine⟨z4,z5,z6,z7,z8,z9,z10,z11,fun U hU=>?_⟩;obtain⟨q1,q2⟩:=aph U.drew (by rw[hU]);exact⟨ad7 q1,(yP.o.trans (cM.below hb)).trans (VO q2)⟩
 clear VR Hw;go_upto_region 9 with(go_at_call 77;refine Rn.o.mono ?_;rintro r w3 ⟨rfl,hb3⟩;have mO:=ai hb3;clear hb3)
 have Jw:=ai (mO.o.alloc mO.o.size (.cells #[I q0,I q1,I q2,.bool q3] 139));have AX:=ai (bE w3 #[I q0,I q1,I q2,.bool q3] 139);have hl3:=mO.o.size;obtain⟨W,hW⟩:=ex (w3.alloc (.cells #[I q0,I q1,I q2,.bool q3] 139));obtain⟨xb,LZ⟩:=ex w3.heap.size;rw[<- hW] at Jw AX ⊢;rw[<- LZ] at AX ⊢;have hxf:¬xb=fb:=by omega
 clear hW LZ;have HS:Hid (∀V,Below W.heap.size W V->V.cell? (Ad mb 1)=some (.slice (some (Ad fb 0)) nf cF)/\V.cell? (Ad xb 3)=some (.bool q3)):=fun V hb=>⟨((Jw.o.trans (hb.mono Jw.o.size)).cell (p:=(Ad mb 1)) MV).trans g1,au (aO AX.o hb (aJ AX.o)) 3 rfl⟩
 have tV:=ai (aK W.heap.size W).drew;have ow:=ai (HS.o _ tV.o);have anL:Hid (∀V,Below W.heap.size W V->Calls Tryz.prog 130 #[.pointer (some (Ad mb 0)),I p,.bool q3] V fun e w'=>e=.returned (.string D)/\Below V.heap.size V w'):=fun V hb=>HFL.o V (Jw.o.trans (hb.mono Jw.o.size))
 have ZH:Hid (∀V:World,(V.cell? (Ad mb 1)=some (.slice (some (Ad fb 0)) nf cF)/\V.cell? (Ad xb 3)=some (.bool q3))->∀v0 v1 v2 v3,((((V.setCell (Ad fb (i*4)) v0).setCell (Ad fb (i*4+1)) v1).setCell (Ad fb (i*4+2)) v2).setCell (Ad fb (i*4+3)) v3).cell? (Ad mb 1)=some (.slice (some (Ad fb 0)) nf cF)/\((((V.setCell (Ad fb (i*4)) v0).setCell (Ad fb (i*4+1)) v1).setCell (Ad fb (i*4+2)) v2).setCell (Ad fb (i*4+3)) v3).cell? (Ad xb 3)=some (.bool q3)):=fun V ⟨h0,h1⟩ v0 v1 v2 v3=>by
  rw[cu _ _ _ _ _ _ hmf,cu _ _ _ _ _ _ hmf,cu _ _ _ _ _ _ hmf,cu _ _ _ _ _ _ hmf,cu _ _ _ _ _ _ hxf,cu _ _ _ _ _ _ hxf,cu _ _ _ _ _ _ hxf,cu _ _ _ _ _ _ hxf];omega
 go_region_held3 (fun V=>V.cell? (Ad mb 1)=some (.slice (some (Ad fb 0)) nf cF)/\V.cell? (Ad xb 3)=some (.bool q3)) (first | exact sK.o | exact ow.o | exact Tt.o _ _ _ _)
  ((go_at_call 130;refine(anL.o _ tV.o).mono ?_;rintro r w5 ⟨rfl,Mb⟩;have HK5:=ai (tV.o.trans (Mb.mono tV.o.size));have sK:=ai (HS.o _ HK5.o);have Tt:=ai (fun v0 v1 v2 v3=>ZH.o w5 sK.o v0 v1 v2 v3);have HZZ:=ai (anN.o w5 (Jw.o.trans (HK5.o.mono Jw.o.size)));obtain⟨z4,z5,z6,z7,z8,z9,z10,z11⟩:w5.cell? (Ad fb (i*4))=some (.string FR.data)/\w5.cell? (Ad fb (i*4+1))=some (I FR.refs)/\w5.cell? (Ad fb (i*4+2))=some (.bool FR.jo)/\w5.cell? (Ad fb (i*4+3))=some (.bool FR.seen)/\w5.frozen? (Ad fb (i*4))=false/\w5.frozen? (Ad fb (i*4+1))=false/\w5.frozen? (Ad fb (i*4+2))=false/\w5.frozen? (Ad fb (i*4+3))=false:=(by obtain⟨a1,a2,a3,a4,a5,a6,a7,a8,_⟩:=HZZ.o;exact⟨a1,a2,a3,a4,a5,a6,a7,a8⟩);clear Mb))
 all_goals clear Tt ZH HS ow sK HFL anL
 obtain⟨U,hU⟩:=ex (((((w5.setCell (Ad fb (i*4)) (.string D)).setCell (Ad fb (i*4+1)) (I 1)).setCell (Ad fb (i*4+2)) (.bool false)).setCell (Ad fb (i*4+3)) (.bool false)));obtain⟨_,_,_,_,_,_,_,_,zf⟩:=HZZ.o;obtain⟨hk6,hc6⟩:=zf U hU;have HK6:=ai hk6;have HC6:=ai hc6;rw[<- hU];clear hU hk6 hc6 zf HZZ z4 z5 z6 z7 z8 z9 z10 z11 anN;go_wp2_with (go_at_call 293;refine(HET.o _ _ HK6.o).mono ?_;rintro r w7 ⟨rfl,S7,hk7,hc7⟩;have HK7:=ai hk7;have HC7:=ai (HC6.o.trans hc7);clear hk7 hc7)
 exact dz.o _ _ HK7.o HC7.o
open Go.RowKit
theorem QE {lo mb:Nat} {tt:TypeId} {X:List Value} (k:aT) (S:gI) (w:World) (j:Nat) (p:Int) (held:List Int) (ah:Option Addr) (ch:Nat) (h:bK lo mb tt X w S k) (hR:aZ k) (hj:j<k.aj.length) (hp:ez k j p) (hX:KH X k.aM) (hl:held.length<=2) (hH:nj w S ah held) :
  Calls Tryz.prog 290 #[.pointer (some (Ad mb 0)),I (j:Int),I p,.slice ah held.length ch] w (fU lo mb tt X w S (I ((dA k j p held).1:Int)) (dA k j p held).2):=by
 cases he:bu (ak k.aj j).bc p with
 | none=>exact Ou k S w j p held ah ch h hR hj he hp hX hl hH
 | some e =>
  by_cases hk:e.kind=1
  · exact Ov k S w j p held ah ch e h hR hj he hk
  · exact Ji k S w j p held ah ch e h hR hj he hk hl hH
theorem YX:∀l:List Int,∀u∈l.flatMap iE,u.oneCell'=true:=fun l u hu=>by
 obtain⟨y,_,hy⟩:=vJ.1 hu;simp[iE] at hy;rw[hy];rfl
theorem VN {w:World} {ah:Option Addr} {l:List Int} (h:dW iE 1 0 w ah l):mR w ah l.length (l.flatMap iE):=fun hm=>by
 obtain⟨b,off,rfl,hb,hl⟩:=h hm;exact zl (w:=w) iE 1 (fun _=>rfl) 0 l b off (fun i hi j hj=>hl i hi j hj) hm
theorem FC {w:World} {base:Nat} {S:gI} {ao:Option Addr} {n c:Nat} {l:List Int} (hr:w.ownsRow base 3 1 (.slice ao n c) l.length (l.flatMap iE)) (hno:∀b,bZ (.slice ao n c) b->S.lab b=.no):n=l.length/\nj w S ao l:=by
 obtain⟨a,cap,e,_,hrow⟩:=oI iE (fun _=>rfl) 0 hr;injection e with e1 e2 e3;subst e1 e2;refine⟨rfl,hrow,fun b off e=>?_,fun b off e=>?_⟩
 · subst e;refine hno b ?_;rfl
 · subst e;rcases hr.2 with⟨h0,_⟩ | ⟨g,cap',cur,hv,_,hg,_⟩
   · cases h0
   grind
theorem VQ {lo mb:Nat} {tt:TypeId} {X:List Value} (k:aT) (S:gI) (w:World) (j:Nat) (p:Int) (a:Nat) (held:List Int) (ah:Option Addr) (ch:Nat) (h:bK lo mb tt X w S k) (hR:aZ k) (hj:j<k.aj.length) (ha:bu (ak k.aj j).bc p=some ⟨p,1,a⟩) (hl:held.length<=1) (hH:nj w S ah held) :
  Calls Tryz.prog 291 #[.pointer (some (Ad mb 0)),I (j:Int),I p,I (a:Int),.slice ah held.length ch] w (fU lo mb tt X w S (I ((kM k j p a held).1:Int)) (kM k j p a held).2):=by
 have hcc:=hR.c;have hne:=D7 hR hj ha;obtain⟨fb,cF,A⟩:=h.toKr.fr (by omega);have c1:=h.c1;rw[A.v] at c1;have x1:=A.x1 a hne.1;have hai:(a:Int)<(k.frames.length:Int):=by omega
 by_cases c:(aH k.frames a).refs=1
 · have hP:kM k j p a held=(a,k):=by grind [kM]
   rw[hP];have dz:Hid (fU lo mb tt X w S (I (a:Int)) k (.returned (I (a:Int))) w):=⟨rfl,S,h,cM.refl _ _⟩;obtain⟨P,Vf⟩:=ex (fU lo mb tt X w S (I (a:Int)) k);rw[<- Vf] at dz ⊢;rw[c] at x1;obtain⟨nf,B6⟩:=ex k.frames.length;rw[<- B6] at c1 hai;clear hP Vf c h hR hj ha hH hl A hne hcc B6;go_enter Tryz.func291,Tryz.ntmps291;go_wp2;exact dz.o
 · have hl2:(held++[(a:Int)]).length<=2:=by grind
   have G:=s8 hR hl2;have hH1:=G.PZ a (lV.2 (.inr (by simp))) hne.2;have hent:bu (ak (bN k (held++[(a:Int)])).2.aj j).bc p=some ⟨p,1,a⟩:=G.stay hR hj ha (fun _=>lV.2 (.inr (by simp)));obtain⟨k1,hk1⟩:=ex ((bN k (held++[(a:Int)])).2);obtain⟨i,hi⟩:=ex ((bN k (held++[(a:Int)])).1);have hP:kM k j p a held=(i,eU k1 j p i (aH k1.frames a).data true):=by
    unfold kM
    grind
   have hGT:∀V S',bK lo mb tt X V S' k->∀ah' ch',nj V S' ah' (held++[(a:Int)])->Calls Tryz.prog 292 #[.pointer (some (Ad mb 0)),.slice ah' (held++[(a:Int)]).length ch'] V (fU lo mb tt X V S' (I (i:Int)) k1):=fun V S' hV ah' ch' hh=>by
    have:=Jj k S' V (held++[(a:Int)]) ah' ch' hV hR hl2 hh;rw[<- hk1,<- hi] at this;exact this
   rw[<- hk1] at hent hH1;rw[<- hi] at hH1;have Vb:j<k1.aj.length:=by have:=G.kept.np;grind
   have akb:k1.frames.length=k.frames.length:=by have:=G.kept.nf;grind
   have hi1:i<k1.frames.length:=by rw[akb,hi];exact G.lt
   have ha1:a<k1.frames.length:=by omega
   have JK:aZ k1:=by have:=G.right;grind
   have aaQ:=og JK Vb;have aqA:=JK.c;have hrf:=(yq JK).1 a ha1;obtain⟨D,hD⟩:=ex ((aH k1.frames a).data);have amV:i≠a:=fun e=>hH1.1 e.symm
   have hfa:aH (iU k1 i D true).frames a=aH k1.frames a:=by
    show aH (k1.frames.set i _) a=_;rw[jQ _ _ _ _ hi1,aA amV]
   have hra:¬(aH k1.frames a).refs-1=0:=by grind
   obtain⟨K2,hK2⟩:∃K2:aT,K2={ iU k1 i D true with frames:=(iU k1 i D true).frames.set a ⟨(aH k1.frames a).data,(aH k1.frames a).refs-1,(aH k1.frames a).jo,(aH k1.frames a).seen⟩ }:=⟨_,rfl⟩;have hmv:eU k1 j p i D true=gp K2 j ⟨p,1,i⟩:=by
    unfold eU;rw[hent];show dM _ _=_;rw[<- FE];congr 1;unfold dM;rw[aC rfl,hK2];show({ iU k1 i D true with frames:=(iU k1 i D true).frames.set (a:Int).toNat (rI (aH (iU k1 i D true).frames (a:Int).toNat)) }:aT)=_;rw[lM,hfa];unfold rI
    grind
   rw[hP,<- hD,hmv];have Hw:Hid (∀V S',bK lo mb tt X V S' k1->∃fb cF,V.cell? (Ad mb 1)=some (.slice (some (Ad fb 0)) k1.frames.length cF)/\¬mb=fb/\V.cell? (Ad fb (a*4))=some (.string D)/\V.cell? (Ad fb (i*4))=some (.string (aH k1.frames i).data)/\V.cell? (Ad fb (i*4+1))=some (I (aH k1.frames i).refs)/\V.cell? (Ad fb (i*4+2))=some (.bool (aH k1.frames i).jo)/\V.cell? (Ad fb (i*4+3))=some (.bool (aH k1.frames i).seen)/\V.frozen? (Ad fb (i*4))=false/\V.frozen? (Ad fb (i*4+1))=false/\V.frozen? (Ad fb (i*4+2))=false/\V.frozen? (Ad fb (i*4+3))=false /\
     (∀U,U=((((V.setCell (Ad fb (i*4)) (.string D)).setCell (Ad fb (i*4+1)) (I 1)).setCell (Ad fb (i*4+2)) (.bool true)).setCell (Ad fb (i*4+3)) (.bool false)).drew->U.cell? (Ad mb 1)=some (.slice (some (Ad fb 0)) k1.frames.length cF)/\U.cell? (Ad fb (a*4+1))=some (I (aH k1.frames a).refs)/\U.frozen? (Ad fb (a*4+1))=false/\bK lo mb tt X (U.setCell (Ad fb (a*4+1)) (I ((aH k1.frames a).refs-1))) S' K2/\cM S' V S' (U.setCell (Ad fb (a*4+1)) (I ((aH k1.frames a).refs-1))))):=fun V S' hV=>by
    obtain⟨fb,cF,A⟩:=hV.toKr.fr (by omega);have c1:=hV.c1;rw[A.v] at c1;refine⟨fb,cF,c1,fun e=>by have:=A.lab;rw[<- e,hV.lH] at this;simp at this,by rw[hD];exact A.x0 a ha1,A.x0 i hi1,A.x1 i hi1,A.x2 i hi1,A.x3 i hi1,A.fz _,A.fz _,A.fz _,A.fz _,fun U hU=>?_⟩;have m:=hV.afk A.v hi1 ⟨D,1,true,false⟩;have m1:bK lo mb tt X U S' (iU k1 i D true):=by subst hU;exact m.1.below (aK _ _).drew
    have ch1:cM S' V S' U:=by subst hU;exact m.2.trans (cM.below (aK _ _).drew)
    have hln:(iU k1 i D true).frames.length=k1.frames.length:=fJ;obtain⟨fb',cF',A'⟩:=m1.toKr.fr (by omega);have e:fb'=fb:=by
     have:=A'.v;rw[A.v] at this;injection this with e1 _ _;injection e1 with e1;injection e1 with e1 _ _;omega
    subst e;have c1':=m1.c1;rw[A.v] at c1';have y1:=A'.x1 a (by omega);rw[hfa] at y1;refine⟨c1',y1,A'.fz _,?_,ch1.trans (zX m1.toKr A'.v)⟩;rw[hK2];exact m1.L6 A'.v (i:=a) (by omega) (j:=1) (by omega) (by rw[hfa];rfl)
   have HET:Hid (∀V S',bK lo mb tt X V S' K2->Calls Tryz.prog 293 #[.pointer (some (Ad mb 0)),I (j:Int),.agg #[I p,I 1,I (i:Int)]] V (fU lo mb tt X V S' (.tuple #[]) (gp K2 j ⟨p,1,i⟩))):=fun V S' hV=>by
    have hsp:K2.aj=k1.aj:=by rw[hK2];rfl
    exact DR _ S' V j ⟨p,1,i⟩ hV (by grind) (by grind) (by grind)
   have dz:Hid (∀V S',bK lo mb tt X V S' (gp K2 j ⟨p,1,i⟩)->cM S w S' V->fU lo mb tt X w S (I (i:Int)) (gp K2 j ⟨p,1,i⟩) (.returned (I (i:Int))) V):=fun V S' h1 h2=>⟨rfl,S',h1,h2⟩
   obtain⟨K3,hK3⟩:=ex (gp K2 j ⟨p,1,i⟩);rw[<- hK3] at HET dz ⊢;obtain⟨P,Vf⟩:=ex (fU lo mb tt X w S (I (i:Int)) K3);rw[<- Vf] at dz ⊢;have OH:Hid (Calls Tryz.prog 294 #[.slice ah held.length ch] w fun e w'=>∃av cv,e=.returned (.slice av held.length cv)/\w'.ownsRow w.heap.size 3 1 (.slice av held.length cv) held.length (held.flatMap iE)/\Below w.heap.size w w'):=(acu ah held.length ch (held.flatMap iE) w (fY iE 1 (fun _=>rfl) held) (VN hH.has) (YX held) (by omega)).mono fun e w' ⟨v,h1,h2,h3⟩=>by
    obtain⟨av,cv,rfl,_⟩:=bj h2;exact⟨av,cv,h1,h2,h3⟩
   have HGT:Hid (∀V U av nv cv,Below w.heap.size w V->U=V->V.ownsRow w.heap.size 3 1 (.slice av nv cv) (held.length+1) (held.flatMap iE++[I (a:Int)])->Calls Tryz.prog 292 #[.pointer (some (Ad mb 0)),.slice av nv cv] V (fU lo mb tt X V S (I (i:Int)) k1)):=fun V U av nv cv hb _ hr=>by
    have e1:(held++[(a:Int)]).length=held.length+1:=by simp
    have e2:(held++[(a:Int)]).flatMap iE=held.flatMap iE++[I (a:Int)]:=by simp[iE]
    rw[<- e1,<- e2] at hr;obtain⟨q1,q2⟩:=FC (S:=S) hr (fun b hb2=>h.toKr.new (hr.lt b hb2).1);rw[q1];exact hGT V S (h.below hb) av cv q2
   obtain⟨i0,hin,hz0,hz1,hz2⟩:=ju MK;have Eo:=ai hin;have Hu:=ai hz0;have Gf:=ai hz1;have yV:=ai hz2;have xb:((aH k.frames a).refs==1)=false:=by simpa using c
   obtain⟨R0,hR0⟩:=ex ((aH k.frames a).refs);rw[<- hR0] at x1 xb;obtain⟨R1,am2⟩:=ex ((aH k1.frames a).refs);rw[<- am2] at Hw hrf;have hw1:IntKind.i64.wrap (R1-1)=R1-1:=vI _ (by omega);obtain⟨FR,T7⟩:=ex (aH k1.frames i);rw[<- T7] at Hw;obtain⟨nf,B6⟩:=ex k.frames.length;rw[akb,<- B6] at Hw;rw[<- B6] at c1 hai;have hii:(i:Int)<(nf:Int):=by omega
   have hhl:held.length<=1:=hl;clear hP Vf c h hR hj ha hH hl A hne hcc B6 hin hz0 hz1 hz2 T7 am2 hR0 hK3 hGT hmv hK2 hra hfa amV hD hrf aqA aaQ JK ha1 hi1 akb Vb hH1 hent hi G hl2 hk1;go_enter Tryz.func291,Tryz.ntmps291;go_upto_region 4 with(first
    | (at_builtin;refine fB (P:=Tryz.prog) rfl _ _ 48 rfl w.heap.size 3 i0 (I 0) 1 8 Tryz.underlying48 Eo.o Hu.o Gf.o yV.o rfl (by decide) _ held.length (held.flatMap iE) rfl HO1.o (some (Ad w1.heap.size 0)) 1 1 [I (a:Int)] rfl rfl (fun _=>⟨_,rfl,GJ (bE w1 _ _)⟩) (by intro u hu;simp at hu;rw[hu];rfl) (by unfold maxLen;omega) (by omega) (by have:=cN.o.size;simp;omega) ?_;intro v' w' hown hgr hat;obtain⟨aG,cG,hvG,_,_⟩:=bj hown;subst hvG;have Hx:=ai hown;have gQ:=ai ((cN.o.alloc cN.o.size (.cells #[I (a:Int)] 3)).grown hgr (by have:=cN.o.size;simp;omega) (fun q hq=>(HO1.o.lt q hq).1));clear hown hgr hat)
    | (go_at_call 294;refine OH.o.mono ?_;rintro e w1 ⟨av,cv,rfl,hr1,hb1⟩;have cN:=ai hb1;have HO1:=ai (hr1.alloc (.cells #[I (a:Int)] 3));clear hr1 hb1)
    | (go_at_call 292;refine(HGT.o _ _ _ _ _ gQ.o rfl Hx.o).mono ?_;rintro e w3 ⟨rfl,S3,hk3,hc3⟩;have Bw:=ai hk3;have W7:=ai ((cM.below gQ.o).trans hc3);clear hk3 hc3))
   obtain⟨fb3,cF3,g1,gne,g2,g3,g4,g5,g6,g7,g8,g9,g10,hfin⟩:=Hw.o w3 S3 Bw.o;obtain⟨U,hU⟩:=ex (((((w3.setCell (Ad fb3 (i*4)) (.string D)).setCell (Ad fb3 (i*4+1)) (I 1)).setCell (Ad fb3 (i*4+2)) (.bool true)).setCell (Ad fb3 (i*4+3)) (.bool false)).drew);obtain⟨y1,y2,y3,hk4,hc4⟩:=hfin U hU;have HU:=ai hU;have HK4:=ai hk4;have HC4:=ai (W7.o.trans hc4);clear hfin hU hk4 hc4;go_region;rw[<- HU.o];clear g1 g2 g3 g4 g5 g6 g7 g8 g9 g10 HU;go_wp2_with (go_at_call 293;refine(HET.o _ _ HK4.o).mono ?_;rintro r w5 ⟨rfl,S5,hk5,hc5⟩;have HK5:=ai hk5;have HC5:=ai (HC4.o.trans hc5);clear hk5 hc5)
   exact dz.o _ _ HK5.o HC5.o
open Go.RowKit
theorem VP {lo mb:Nat} {tt:TypeId} {X:List Value} (k:aT) (S:gI) (w:World) (j:Nat) (p way:Int) (held:List Int) (ah:Option Addr) (ch:Nat) (h:bK lo mb tt X w S k) (hR:aZ k) (hj:j<k.aj.length) (hp:ez k j p) (hX:KH X k.aM) (hl:held.length<=1) (hH:nj w S ah held) :
  Calls Tryz.prog 284 #[.pointer (some (Ad mb 0)),I (j:Int),I p,I way,.slice ah held.length ch] w (fU lo mb tt X w S (I ((dN k j p way held).1:Int)) (dN k j p way held).2):=by
 have PF:=ai (QE k S w j p held ah ch h hR hj hp hX (by omega) hH);have hB:=(qW hR hj hp way hl).1;have hPB:=Ab hR hj hp (held:=held) (by omega);have hcc:=hR.c;have Rl:Hid (∀V S' K i,iz k j p way held=(i,K)->bK lo mb tt X V S' K->∃fb cF,V.cell? (Ad mb 1)=some (.slice (some (Ad fb 0)) k.frames.length cF)/\¬mb=fb/\i<k.frames.length/\V.cell? (Ad fb (i*4+2))=some (.bool (aH K.frames i).jo)/\V.cell? (Ad fb (i*4+3))=some (.bool (aH K.frames i).seen)/\V.frozen? (Ad fb (i*4+2))=false/\V.frozen? (Ad fb (i*4+3))=false /\
   (way≠1->bK lo mb tt X (V.setCell (Ad fb (i*4+3)) (.bool true)) S' (dN k j p way held).2/\cM S' V S' (V.setCell (Ad fb (i*4+3)) (.bool true))) /\
   (way=1->bK lo mb tt X ((V.setCell (Ad fb (i*4+2)) (.bool true)).setCell (Ad fb (i*4+3)) (.bool true)) S' (dN k j p way held).2/\cM S' V S' ((V.setCell (Ad fb (i*4+2)) (.bool true)).setCell (Ad fb (i*4+3)) (.bool true)))):=fun V S' K i e hV=>by
  have B6:K.frames.length=k.frames.length:=by
   have:=hB.kept.nf;unfold dN at this;rw[e] at this;have this:(K.frames.set i _).length=_:=this
   grind
  have hi:i<k.frames.length:=by
   have:=hB.lt
   grind [dN]
  have hbr:(dN k j p way held).2={ K with frames:=K.frames.set i (zt way (aH K.frames i)) }:=by
   unfold dN;rw[e];rfl
  obtain⟨fb,cF,A⟩:=hV.toKr.fr (by omega);have c1:=hV.c1;rw[A.v,B6] at c1;have hiK:i<K.frames.length:=by omega
  refine⟨fb,cF,c1,fun e=>by have:=A.lab;rw[<- e,hV.lH] at this;grind,hi,A.x2 i hiK,A.x3 i hiK,A.fz _,A.fz _,fun hw=>?_,fun hw=>?_⟩
  · refine⟨?_,zX hV.toKr A.v⟩;rw[hbr];refine hV.L6 A.v hiK (j:=3) (by omega) ?_;unfold zt;rw[jl hw,Bool.or_false];rfl
  · have m1:=hV.L6 A.v hiK (j:=2) (by omega) (f:=⟨(aH K.frames i).data,(aH K.frames i).refs,true,(aH K.frames i).seen⟩) (u:=.bool true) rfl;have m2:=m1.L6 A.v (i:=i) (by grind) (j:=3) (by omega) (f:=zt way (aH K.frames i)) (u:=.bool true) (by
     simp only[aH,eV _ _ _ _ hiK];unfold zt;rw[gZ hw,Bool.or_true];rfl)
    simp only[pY] at m2;rw[hbr];exact⟨m2,(zX hV.toKr A.v).trans (zX hV.toKr A.v)⟩
 have hb1:(dN k j p way held).1=(iz k j p way held).1:=rfl;rw[hb1];have dz:Hid (∀V S' i,i=(iz k j p way held).1->bK lo mb tt X V S' (dN k j p way held).2->cM S w S' V->fU lo mb tt X w S (I ((iz k j p way held).1:Int)) (dN k j p way held).2 (.returned (I (i:Int))) V):=fun V S' i hi h1 h2=>⟨by rw[hi],S',h1,h2⟩
 obtain⟨P,hP⟩:=ex (fU lo mb tt X w S (I ((iz k j p way held).1:Int)) (dN k j p way held).2);rw[<- hP] at dz ⊢;obtain⟨KB,hKB⟩:=ex ((dN k j p way held).2);rw[<- hKB] at dz Rl;by_cases c:way=1
 · have e2:iz k j p way held=kM (dA k j p held).2 j p (dA k j p held).1 held:=by grind [iz]
   have XX:Hid (∀V S',bK lo mb tt X V S' (dA k j p held).2->cM S w S' V->Calls Tryz.prog 291 #[.pointer (some (Ad mb 0)),I (j:Int),I p,I ((dA k j p held).1:Int),.slice ah held.length ch] V (fU lo mb tt X V S' (I ((iz k j p way held).1:Int)) (iz k j p way held).2)):=fun V S' hV hc=>by
    rw[e2];exact VQ (dA k j p held).2 S' V j p (dA k j p held).1 held ah ch hV hPB.right (by rw[hPB.kept.np];exact hj) hPB.here hl (hH.ch hc)
   obtain⟨TK,hTK⟩:=ex (iz k j p way held);rw[<- hTK] at XX dz Rl;obtain⟨PR,hPR⟩:=ex (dA k j p held);rw[<- hPR] at PF XX;obtain⟨i,K⟩:=TK;obtain⟨ip,aD⟩:=PR;have HLA:=ai (fun V S' hV=>Rl.o V S' K i rfl hV);have Ay:=ai (fun V S'=>dz.o V S' i rfl);simp only at PF XX;have HW:=ai c;have wb:(way==1)=true:=by grind
   obtain⟨FR,T7⟩:=ex (aH K.frames i);rw[<- T7] at HLA;obtain⟨nf,B6⟩:=ex k.frames.length;rw[<- B6] at HLA;clear Rl dz hP h hR hj hp hX hl hH hB hPB hcc hKB hTK hPR e2 hb1 T7 B6 c;go_enter Tryz.func284,Tryz.ntmps284;go_upto_region 4 with(first
    | (go_at_call 290;refine PF.o.mono ?_;rintro e w1 ⟨rfl,S1,hk1,hc1⟩;have vD:=ai hk1;have HC1:=ai hc1;clear hk1 hc1)
    | (go_at_call 291;refine(XX.o _ _ vD.o HC1.o).mono ?_;rintro e w2 ⟨rfl,S2,hk2,hc2⟩;have pU:=ai hk2;have yP:=ai (HC1.o.trans hc2);clear hk2 hc2))
   obtain⟨fb,cF,g1,gne,gi,g2,g3,g4,g5,_,hfin⟩:=HLA.o w2 S2 pU.o;obtain⟨hk3,hc3⟩:=hfin HW.o;have Bw:=ai hk3;have W7:=ai (yP.o.trans hc3);have hii:(i:Int)<(nf:Int):=by omega
   clear hfin hk3 hc3;go_wp2;exact Ay.o _ _ Bw.o W7.o
 · have e2:iz k j p way held=dA k j p held:=by grind [iz]
   rw[<- e2] at PF;obtain⟨TK,hTK⟩:=ex (iz k j p way held);rw[<- hTK] at PF dz Rl;obtain⟨i,K⟩:=TK;have HLA:=ai (fun V S' hV=>Rl.o V S' K i rfl hV);have Ay:=ai (fun V S'=>dz.o V S' i rfl);simp only at PF;have HW:=ai c;have wb:(way==1)=false:=by grind
   obtain⟨FR,T7⟩:=ex (aH K.frames i);rw[<- T7] at HLA;obtain⟨nf,B6⟩:=ex k.frames.length;rw[<- B6] at HLA;clear Rl dz hP h hR hj hp hX hl hH hB hPB hcc hKB hTK e2 hb1 T7 B6 c;go_enter Tryz.func284,Tryz.ntmps284;go_upto_region 5 with(go_at_call 290;refine PF.o.mono ?_;rintro e w1 ⟨rfl,S1,hk1,hc1⟩;have vD:=ai hk1;have HC1:=ai hc1;clear hk1 hc1)
   obtain⟨fb,cF,g1,gne,gi,g2,g3,g4,g5,hfin,_⟩:=HLA.o w1 S1 vD.o;obtain⟨hk3,hc3⟩:=hfin HW.o;have Bw:=ai hk3;have W7:=ai (HC1.o.trans hc3);have hii:(i:Int)<(nf:Int):=by omega
   clear hfin hk3 hc3;go_wp2;exact Ay.o _ _ Bw.o W7.o
open Go.RowKit
def gU (x:Int×Int):Array Value:=#[I x.1,I x.2]
theorem om {N g:Nat} {w W:World} (h:Below N w W) (hg:N<=g) (v0 v1:Value):Below N w ((W.setCell (Ad g 0) v0).setCell (Ad g 1) v1):=(h.setCell (p:=(Ad g 0)) hg v0).setCell (p:=(Ad g 1)) hg v1
theorem UE (l:List aX) (v:Value) (a size way:Int) (w:World) (h:fZ w v l) (hf:dO l) (ha:-9223372036854775808<=a/\a<=9223372036854775807) (hz:size<=9223372036854775807) :
  Calls Tryz.prog 283 #[v,I a,I size,I way] w fun e w'=>e=.returned (.agg (gU (bR l a size way)))/\Below w.heap.size w w':=by
 have Rn:=ai (fun p V (hV:fZ V v l)=>yI l v p V hV hf);have HH:=ai h;have gK:=ai ((aK w.heap.size w).alloc (aI _) (.cells #[I 0,I 0] 75));have X0:=ai (bE w #[I 0,I 0] 75);have HF:Hid (bR l a size way=if way=2/\¬a%8=0 then (3,a) else cj l a way size.toNat):=rfl;obtain⟨⟨R1,R2⟩,hR⟩:∃R,R=bR l a size way:=⟨_,rfl⟩;rw[<- hR] at HF ⊢;clear hR h hf;unfold gU;simp only;obtain⟨ao,vn,cap,rfl⟩:∃ao n cap,v=.slice ao n cap:=by
  obtain⟨ao,cap,h,_⟩:=HH.o
  grind
 have htm:a.tmod 8=0↔a%8=0:=by grind
 by_cases hal:way=2/\¬a%8=0
 · have HR:Hid ((R1,R2)=(3,a)):=by grind
   obtain⟨rfl,hal⟩:=hal;have h8:(a.tmod 8==0)=false:=by grind
   clear htm hal;go_enter Tryz.func283,Tryz.ntmps283;go_wp2;exact bO (v:=.agg #[I 3,I a]) (by simp[results,Tryz.results283,go_sem]) rfl ⟨by grind [Hid.o],(aK w.heap.size w).alloc (aI _) _⟩
 · have HR:Hid ((R1,R2)=cj l a way size.toNat):=by grind
   clear HF;by_cases c:way=2
   · subst c;have h8:a.tmod 8=0:=htm.2 (y7.1 (fun g=>hal ⟨rfl,g⟩));clear htm hal;go_enter Tryz.func283,Tryz.ntmps283;go_wp2_with fail
     go_loopw [23] (fun iv wr=>∃k:Nat,k<=size.toNat/\iv=I (k:Int)/\cj l a 2 k=(0,0)/\wr.heap[w.heap.size]?=some (.cells #[I 0,I 0] 75 (0,0))/\Below w.heap.size w wr) (fun iv _=>size.toNat-(intOf iv).toNat)
     case atStart=>exact⟨0,by omega,rfl,rfl,X0.o,gK.o⟩
     case round =>
      obtain⟨k,hk,rfl,B6,hx,hb⟩:=hrel;have HN:=ai B6;have HX:=ai hx;have HB:=ai hb;clear B6 hx hb X0 gK;by_cases hlt:(k:Int)<size
      · have hsm:-9223372036854775808<=a+k/\a+k<=9223372036854775807:=by
         cases k with
         | zero=>omega
         | succ j =>
          have:=wK HN.o;omega
        have HST:=ai (uE HN.o);have OG:Hid (∀f:Int×Int,cj l a 2 (k+1)=f->¬f.1=0->(R1,R2)=f):=fun f h1 h2=>HR.o.trans (Cz h1 h2 _ (by omega))
        have Hn:=ai (fun V hV=>Rn.o ((a+k).tdiv 16) V hV);have HQ:Hid (0<=a+k->(a+k).tdiv 16=(a+k)/16):=fun h=>Pt h
        obtain⟨⟨⟨pp,pn,pt,pz⟩,ok⟩,hF⟩:∃F,F=aY l ((a+k).tdiv 16):=⟨_,rfl⟩;have LF:=ai hF;rw[<- hF] at Hn;have acf:Hid (∀V,fZ V (.slice ao vn cap) l->Calls Tryz.prog 77 #[.slice ao vn cap,I ((a+k).tdiv 16)] V fun e w'=>e=.returned (.tuple #[.agg #[I pp,I pn,I pt,.bool pz],.bool ok])/\Below V.heap.size V w'):=Hn;clear hF Hn;have HBT:Hid ((a+k<0->iW l (a+k) 2=(1,a+k))/\(0<=a+k->ok=false->iW l (a+k) 2=(1,a+k))/\(0<=a+k->ok=true->0<=pt/\pt<=3/\(nM pt 2=true->iW l (a+k) 2=(2,a+k))/\(nM pt 2=false->iW l (a+k) 2=(0,0)))):=by
         refine⟨fun h=>BV (.inl h),fun h h2=>?_,fun h h2=>?_⟩
         · grind [BV,Hid.o]
         · have e1:=LF.o;rw[HQ.o h] at e1;have h3:(aY l ((a+k)/16)).2=true:=by grind
           have h4:=iu (tF h3) h3
           grind [I7,RA]
        clear LF;by_cases hneg:a+k<0
        · have Ra:=ai (OG.o _ (HST.o.trans (HBT.o.1 hneg)) (by simp));clear HBT OG HST;go_wp2_with (go_at_call 77;refine(acf.o _ (HH.o.below HB.o)).mono ?_;rintro e w1 ⟨rfl,hb1⟩;have cN:=ai (bX HB.o hb1);have X1:=ai (aO HX.o hb1 (aJ HX.o));clear hb1;have PW:=aJ X1.o;obtain⟨x0,x1⟩:=rq X1.o;have f0:∀k,w1.frozen? (Ad w.heap.size k)=false:=fun k=>aR X1.o k)
          exact bO (v:=.agg #[I 1,I (a+k)]) (by simp[results,Tryz.results283,go_sem,x0,x1,PW]) rfl ⟨by rw[(pX Ra.o).1,(pX Ra.o).2],(om cN.o (aI _) _ _).alloc (by simp;omega) _⟩
        · have hnn:0<=a+k:=by omega
          have ace:=acf;rw[HQ.o hnn] at ace;clear hneg acf HQ;cases ok with
          | false =>
           have Ra:=ai (OG.o _ (HST.o.trans (HBT.o.2.1 (by omega) rfl)) (by simp));clear HBT OG HST;go_wp2_with (go_at_call 77;refine(ace.o _ (HH.o.below HB.o)).mono ?_;rintro e w1 ⟨rfl,hb1⟩;have cN:=ai (bX HB.o hb1);have X1:=ai (aO HX.o hb1 (aJ HX.o));clear hb1;have PW:=aJ X1.o;obtain⟨x0,x1⟩:=rq X1.o;have f0:∀k,w1.frozen? (Ad w.heap.size k)=false:=fun k=>aR X1.o k)
           exact bO (v:=.agg #[I 1,I (a+k)]) (by simp[results,Tryz.results283,go_sem,x0,x1,PW]) rfl ⟨by rw[(pX Ra.o).1,(pX Ra.o).2],(om cN.o (aI _) _ _).alloc (by simp;omega) _⟩
          | true =>
           have hpt:=HBT.o.2.2 hnn rfl;have hbt:=I4 pt 2 hpt.1 hpt.2.1;have Xb:=ai hpt.2.2;have Js:Hid (∀V,Calls Tryz.prog 289 #[I 2] V fun e w'=>e=.returned (I (ua 2))/\Below V.heap.size V w'):=fun V=>(LN 2 V).mono fun e w' ⟨h1,h2⟩=>⟨h1,by grind [Below.refl]⟩
           clear hpt HBT;obtain⟨RN,hRN⟩:=ex (ua 2);rw[<- hRN] at hbt Js;clear hRN;go_wp2_with (go_at_call 77;refine(ace.o _ (HH.o.below HB.o)).mono ?_;rintro e w1 ⟨rfl,hb1⟩;have cN:=ai (bX HB.o hb1);have X1:=ai (aO HX.o hb1 (aJ HX.o));clear hb1;have PW:=aJ X1.o)
           obtain⟨W,hW⟩:=ex (w1.alloc (.cells #[I pp,I pn,I pt,.bool pz] 139));have HW:=ai hW;have hs:W.heap.size=w1.heap.size+1:=by simp_all
           have CL:=jq W;have hkc:=@fO W;have c2:∀x:dV W.heap.size W,x.world.cell? (Ad w1.heap.size 2)=some (I pt):=fun x=>by simp_all
           have Jw:Hid (Below w.heap.size w W):=by show Below _ _ _;rw[hW];exact cN.o.alloc cN.o.size _
           have XW:Hid (W.heap[w.heap.size]?=some (.cells #[I 0,I 0] 75 (0,0))):=by show _=_;rw[hW];exact br X1.o _
           clear hW hs hkc;rw[<- HW.o];cases TZ:nM pt 2 with
           | true =>
            rw[TZ] at hbt;have ako:(bits BinOp.and IntKind.i64 pt RN==RN)=false:=hbt;have Ra:=ai (OG.o _ (HST.o.trans (Xb.o.1 TZ)) (by simp));clear OG HST Xb hbt TZ;refine dx (by rfl) (by kernel_rfl) ?_
            repeat (first | go_big_quiet_step ((go_at_call 289;exact fV Js.o _)) | quiet_step ((go_at_call 289;exact fV Js.o _)))
            refine jk ?_;intro _ hw';obtain⟨x,hw''⟩:=hw';subst hw'';have gQ:=ai (bX Jw.o x.keeps);have X2:=ai (aO XW.o x.keeps (aJ XW.o));obtain⟨w2,PM⟩:=ex x.world;rw[<- PM] at gQ X2 ⊢;clear PM c2;obtain⟨x0,x1⟩:=rq X2.o;have f0:∀k,w2.frozen? (Ad w.heap.size k)=false:=fun k=>aR X2.o k
            go_wp2;exact bO (v:=.agg #[I 2,I (a+k)]) (by simp[results,Tryz.results283,go_sem,x0,x1]) rfl ⟨by rw[(pX Ra.o).1,(pX Ra.o).2],om gQ.o (aI _) _ _⟩
           | false =>
            rw[TZ] at hbt;have ako:(bits BinOp.and IntKind.i64 pt RN==RN)=true:=hbt;have wS:=ai (HST.o.trans (Xb.o.2 TZ));clear OG HST Xb hbt TZ;refine dx (by rfl) (by kernel_rfl) ?_
            repeat (first | go_big_quiet_step ((go_at_call 289;exact fV Js.o _)) | quiet_step ((go_at_call 289;exact fV Js.o _)))
            refine jk ?_;intro _ hw';obtain⟨x,hw''⟩:=hw';subst hw'';have gQ:=ai (bX Jw.o x.keeps);have X2:=ai (aO XW.o x.keeps (aJ XW.o));obtain⟨w2,PM⟩:=ex x.world;rw[<- PM] at gQ X2 ⊢;clear PM c2;go_wp2
            grind [intOf,Hid.o]
      · have hke:k=size.toNat:=by omega
        have Ra:Hid ((R1,R2)=(0,0)):=by grind [Hid.o]
        obtain⟨x0,x1⟩:=rq HX.o;have f0:∀k,wr.frozen? (Ad w.heap.size k)=false:=fun k=>aR HX.o k
        clear hke;go_wp2;exact bO (v:=.agg #[I 0,I 0]) (by simp[results,Tryz.results283,go_sem,x0,x1]) rfl ⟨by rw[(pX Ra.o).1,(pX Ra.o).2],om HB.o (aI _) _ _⟩
   · have hw2:(way==2)=false:=by grind
     clear htm hal c;go_enter Tryz.func283,Tryz.ntmps283;go_wp2_with fail
     go_loopw [23] (fun iv wr=>∃k:Nat,k<=size.toNat/\iv=I (k:Int)/\cj l a way k=(0,0)/\wr.heap[w.heap.size]?=some (.cells #[I 0,I 0] 75 (0,0))/\Below w.heap.size w wr) (fun iv _=>size.toNat-(intOf iv).toNat)
     case atStart=>exact⟨0,by omega,rfl,rfl,X0.o,gK.o⟩
     case round =>
      obtain⟨k,hk,rfl,B6,hx,hb⟩:=hrel;have HN:=ai B6;have HX:=ai hx;have HB:=ai hb;clear B6 hx hb X0 gK;by_cases hlt:(k:Int)<size
      · have hsm:-9223372036854775808<=a+k/\a+k<=9223372036854775807:=by
         cases k with
         | zero=>omega
         | succ j =>
          have:=wK HN.o;omega
        have HST:=ai (uE HN.o);have OG:Hid (∀f:Int×Int,cj l a way (k+1)=f->¬f.1=0->(R1,R2)=f):=fun f h1 h2=>HR.o.trans (Cz h1 h2 _ (by omega))
        have Hn:=ai (fun V hV=>Rn.o ((a+k).tdiv 16) V hV);have HQ:Hid (0<=a+k->(a+k).tdiv 16=(a+k)/16):=fun h=>Pt h
        obtain⟨⟨⟨pp,pn,pt,pz⟩,ok⟩,hF⟩:∃F,F=aY l ((a+k).tdiv 16):=⟨_,rfl⟩;have LF:=ai hF;rw[<- hF] at Hn;have acf:Hid (∀V,fZ V (.slice ao vn cap) l->Calls Tryz.prog 77 #[.slice ao vn cap,I ((a+k).tdiv 16)] V fun e w'=>e=.returned (.tuple #[.agg #[I pp,I pn,I pt,.bool pz],.bool ok])/\Below V.heap.size V w'):=Hn;clear hF Hn;have HBT:Hid ((a+k<0->iW l (a+k) way=(1,a+k))/\(0<=a+k->ok=false->iW l (a+k) way=(1,a+k))/\(0<=a+k->ok=true->0<=pt/\pt<=3/\(nM pt way=true->iW l (a+k) way=(2,a+k))/\(nM pt way=false->iW l (a+k) way=(0,0)))):=by
         refine⟨fun h=>BV (.inl h),fun h h2=>?_,fun h h2=>?_⟩
         · grind [BV,Hid.o]
         · have e1:=LF.o;rw[HQ.o h] at e1;have h3:(aY l ((a+k)/16)).2=true:=by grind
           have h4:=iu (tF h3) h3
           grind [I7,RA]
        clear LF;by_cases hneg:a+k<0
        · have Ra:=ai (OG.o _ (HST.o.trans (HBT.o.1 hneg)) (by simp));clear HBT OG HST;go_wp2_with (go_at_call 77;refine(acf.o _ (HH.o.below HB.o)).mono ?_;rintro e w1 ⟨rfl,hb1⟩;have cN:=ai (bX HB.o hb1);have X1:=ai (aO HX.o hb1 (aJ HX.o));clear hb1;have PW:=aJ X1.o;obtain⟨x0,x1⟩:=rq X1.o;have f0:∀k,w1.frozen? (Ad w.heap.size k)=false:=fun k=>aR X1.o k)
          exact bO (v:=.agg #[I 1,I (a+k)]) (by simp[results,Tryz.results283,go_sem,x0,x1,PW]) rfl ⟨by rw[(pX Ra.o).1,(pX Ra.o).2],(om cN.o (aI _) _ _).alloc (by simp;omega) _⟩
        · have hnn:0<=a+k:=by omega
          have ace:=acf;rw[HQ.o hnn] at ace;clear hneg acf HQ;cases ok with
          | false =>
           have Ra:=ai (OG.o _ (HST.o.trans (HBT.o.2.1 (by omega) rfl)) (by simp));clear HBT OG HST;go_wp2_with (go_at_call 77;refine(ace.o _ (HH.o.below HB.o)).mono ?_;rintro e w1 ⟨rfl,hb1⟩;have cN:=ai (bX HB.o hb1);have X1:=ai (aO HX.o hb1 (aJ HX.o));clear hb1;have PW:=aJ X1.o;obtain⟨x0,x1⟩:=rq X1.o;have f0:∀k,w1.frozen? (Ad w.heap.size k)=false:=fun k=>aR X1.o k)
           exact bO (v:=.agg #[I 1,I (a+k)]) (by simp[results,Tryz.results283,go_sem,x0,x1,PW]) rfl ⟨by rw[(pX Ra.o).1,(pX Ra.o).2],(om cN.o (aI _) _ _).alloc (by simp;omega) _⟩
          | true =>
           have hpt:=HBT.o.2.2 hnn rfl;have hbt:=I4 pt way hpt.1 hpt.2.1;have Xb:=ai hpt.2.2;have Js:Hid (∀V,Calls Tryz.prog 289 #[I way] V fun e w'=>e=.returned (I (ua way))/\Below V.heap.size V w'):=fun V=>(LN way V).mono fun e w' ⟨h1,h2⟩=>⟨h1,by grind [Below.refl]⟩
           clear hpt HBT;obtain⟨RN,hRN⟩:=ex (ua way);rw[<- hRN] at hbt Js;clear hRN;go_wp2_with (go_at_call 77;refine(ace.o _ (HH.o.below HB.o)).mono ?_;rintro e w1 ⟨rfl,hb1⟩;have cN:=ai (bX HB.o hb1);have X1:=ai (aO HX.o hb1 (aJ HX.o));clear hb1;have PW:=aJ X1.o)
           obtain⟨W,hW⟩:=ex (w1.alloc (.cells #[I pp,I pn,I pt,.bool pz] 139));have HW:=ai hW;have hs:W.heap.size=w1.heap.size+1:=by simp_all
           have CL:=jq W;have hkc:=@fO W;have c2:∀x:dV W.heap.size W,x.world.cell? (Ad w1.heap.size 2)=some (I pt):=fun x=>by simp_all
           have Jw:Hid (Below w.heap.size w W):=by show Below _ _ _;rw[hW];exact cN.o.alloc cN.o.size _
           have XW:Hid (W.heap[w.heap.size]?=some (.cells #[I 0,I 0] 75 (0,0))):=by show _=_;rw[hW];exact br X1.o _
           clear hW hs hkc;rw[<- HW.o];cases TZ:nM pt way with
           | true =>
            rw[TZ] at hbt;have ako:(bits BinOp.and IntKind.i64 pt RN==RN)=false:=hbt;have Ra:=ai (OG.o _ (HST.o.trans (Xb.o.1 TZ)) (by simp));clear OG HST Xb hbt TZ;refine dx (by rfl) (by kernel_rfl) ?_
            repeat (first | go_big_quiet_step ((go_at_call 289;exact fV Js.o _)) | quiet_step ((go_at_call 289;exact fV Js.o _)))
            refine jk ?_;intro _ hw';obtain⟨x,hw''⟩:=hw';subst hw'';have gQ:=ai (bX Jw.o x.keeps);have X2:=ai (aO XW.o x.keeps (aJ XW.o));obtain⟨w2,PM⟩:=ex x.world;rw[<- PM] at gQ X2 ⊢;clear PM c2;obtain⟨x0,x1⟩:=rq X2.o;have f0:∀k,w2.frozen? (Ad w.heap.size k)=false:=fun k=>aR X2.o k
            go_wp2;exact bO (v:=.agg #[I 2,I (a+k)]) (by simp[results,Tryz.results283,go_sem,x0,x1]) rfl ⟨by rw[(pX Ra.o).1,(pX Ra.o).2],om gQ.o (aI _) _ _⟩
           | false =>
            rw[TZ] at hbt;have ako:(bits BinOp.and IntKind.i64 pt RN==RN)=true:=hbt;have wS:=ai (HST.o.trans (Xb.o.2 TZ));clear OG HST Xb hbt TZ;refine dx (by rfl) (by kernel_rfl) ?_
            repeat (first | go_big_quiet_step ((go_at_call 289;exact fV Js.o _)) | quiet_step ((go_at_call 289;exact fV Js.o _)))
            refine jk ?_;intro _ hw';obtain⟨x,hw''⟩:=hw';subst hw'';have gQ:=ai (bX Jw.o x.keeps);have X2:=ai (aO XW.o x.keeps (aJ XW.o));obtain⟨w2,PM⟩:=ex x.world;rw[<- PM] at gQ X2 ⊢;clear PM c2;go_wp2
            grind [intOf,Hid.o]
      · have hke:k=size.toNat:=by omega
        have Ra:Hid ((R1,R2)=(0,0)):=by grind [Hid.o]
        obtain⟨x0,x1⟩:=rq HX.o;have f0:∀k,wr.frozen? (Ad w.heap.size k)=false:=fun k=>aR HX.o k
        clear hke;go_wp2;exact bO (v:=.agg #[I 0,I 0]) (by simp[results,Tryz.results283,go_sem,x0,x1]) rfl ⟨by rw[(pX Ra.o).1,(pX Ra.o).2],om HB.o (aI _) _ _⟩
end Go.Proofs.YtlgoihmkgaaemaaGreat
