import Derived.Test.YtpgifpeohlllfaaGreatGT24
set_option maxHeartbeats 20000000
set_option linter.unusedVariables false
set_option maxRecDepth 100000
set_option linter.unusedSimpArgs false
namespace Go.Proofs.YtpgifpeohlllfaaGreat
namespace KX
open Go.RowKit GK KO
open FW (ai aD)
open KW (bJ bI aK aZ fh cK aI dA bU dX)
open KS (Lc bw kM cD blk cJ)
theorem VR {lo mb:Nat} {tt:TypeId} {X:List Value} {U:World} {S:St} {k:KM.Kn} (h:Km lo mb tt X U.drew S k):Km lo mb tt X U S k:=h.kp (E:=fun _=>False) ⟨rfl,rfl,rfl,Nat.le_refl _,fun _ _ _=>rfl⟩ (fun _ _ g=>g)
theorem Mr {S S':St} {w U:World} (h:Ch S w S' U.drew):Ch S w S' U:=⟨⟨h.kp.os,h.kp.tape,h.kp.output,h.kp.size,h.kp.block⟩,h.no,h.eS,h.eF,h.eL,h.eP⟩
theorem CP {lo mb:Nat} {tt:TypeId} {X:List Value} (k:KM.Kn) (S:St) (w:World) (j:Nat) (p:Int) (held:List Int) (ah:Option Addr) (ch:Nat) (h:Km lo mb tt X w S k) (hR:KM.aQ k) (hj:j<k.aj.length) (he:KM.bf (KM.au k.aj j).aA p=none) (hp:KM.mapped k j p) (hX:vB X k.ak) (hl:held.length<=2) (hH:Held w S ah held) :
  Calls Tryz.prog 141 #[.pointer (some (Ad mb 0)),I (j:Int),I p,.slice ah held.length ch] w (gq lo mb tt X w S (I ((KM.cm k j p held).1:Int)) (KM.cm k j p held).2):=by
 have iy:=ai (Dm k S w j p h hR hj);have e1:dX (KM.au k.aj j).aA p=(KM.js,false):=by unfold KW.dX;rw[he]
 rw[e1] at iy;have G:=KM.nK hR hl;have hP:KM.cm k j p held=((KM.bT k held).1,KM.cZ (KM.bT k held).2 j p (KM.bT k held).1 (KM.dY (KM.bT k held).2.ak p (KM.zeroAt (KM.bT k held).2 j p)) false):=by
  unfold KM.cm;rw[he]
 have hent:KM.bf (KM.au (KM.bT k held).2.aj j).aA p=none:=by rw[G.u9 j hj p (fun x hx=>by rw[he] at hx;cases hx),he]
 have hmv:KM.cZ (KM.bT k held).2 j p (KM.bT k held).1 (KM.dY (KM.bT k held).2.ak p (KM.zeroAt (KM.bT k held).2 j p)) false=KM.dZ (KM.jm (KM.bT k held).2 (KM.bT k held).1 (KM.dY (KM.bT k held).2.ak p (KM.zeroAt (KM.bT k held).2 j p)) false) j ⟨p,1,(KM.bT k held).1⟩:=by
  unfold KM.cZ;rw[hent]
 rw[hP,hmv];have xw:=KM.iG hp;have hsh:=G.kept.ak;have Pq:AW.ft (KM.au (KM.bT k held).2.aj j).aB:=by
  have:=(G.right.sp (by rw[G.kept.np];exact hj)).aB;exact AM.gU _ this
 have hcc:=hR.c;have BJ:j<(KM.bT k held).2.aj.length:=by rw[G.kept.np];exact hj
 have hi1:(KM.bT k held).1<(KM.bT k held).2.frames.length:=by rw[G.kept.nf];exact G.lt
 have H8:=jq G.right BJ;have Pd:=G.kept.np;have Yd:Hid (∀V,Below w.heap.size w V->Calls Tryz.prog 165 #[.pointer (some (Ad mb 0)),.slice ah held.length ch] V (gq lo mb tt X V S (I ((KM.bT k held).1:Int)) (KM.bT k held).2)):=fun V hV=>Dh k S V held ah ch (h.below hV) hR hl (hH.ch (Ch.below hV))
 obtain⟨k1,hk1⟩:=ex ((KM.bT k held).2);obtain⟨i,hi⟩:=ex ((KM.bT k held).1);rw[<- hk1,<- hi] at Yd hi1;rw[<- hk1] at BJ H8 Pd hsh Pq;rw[<- hk1,<- hi];obtain⟨D,hD⟩:=ex (KM.dY k1.ak p (KM.zeroAt k1 j p));rw[<- hD];have xG:Hid (∀V S',Km lo mb tt X V S' k1->∃fb cF pb cP va,¬mb=fb/\V.cell? (Ad mb 1)=some (.slice (some (Ad fb 0)) k1.frames.length cF)/\V.cell? (Ad mb 3)=some (.slice (some (Ad pb 0)) k1.aj.length cP)/\V.cell? (Ad pb (j*3+1))=some va/\(∃ax nx cx,va=.slice ax nx cx)/\(∀V',Below V.heap.size V V'->Calls Tryz.prog 70 #[va,I p] V' fun e w'=>e=.returned (.tuple #[.agg (AW.cellsOf (AM.aR (KM.au k1.aj j).aB p).1),.bool (AM.aR (KM.au k1.aj j).aB p).2])/\Below V'.heap.size V' w')/\(∀V',Below V.heap.size V V'->Calls Tryz.prog 119 #[.pointer (some (Ad mb 0)),I p,.bool (AM.aR (KM.au k1.aj j).aB p).1.zero] V' fun e w'=>e=.returned (.string D)/\Below V'.heap.size V' w')/\V.cell? (Ad fb (i*4))=some (.string (KM.aH k1.frames i).data)/\V.cell? (Ad fb (i*4+1))=some (I (KM.aH k1.frames i).refs)/\V.cell? (Ad fb (i*4+2))=some (.bool (KM.aH k1.frames i).cj)/\V.cell? (Ad fb (i*4+3))=some (.bool (KM.aH k1.frames i).seen)/\V.frozen? (Ad fb (i*4))=false/\V.frozen? (Ad fb (i*4+1))=false/\V.frozen? (Ad fb (i*4+2))=false/\V.frozen? (Ad fb (i*4+3))=false /\
   (∀U,U=((((V.setCell (Ad fb (i*4)) (.string D)).setCell (Ad fb (i*4+1)) (I 1)).setCell (Ad fb (i*4+2)) (.bool false)).setCell (Ad fb (i*4+3)) (.bool false)).drew->Km lo mb tt X U S' (KM.jm k1 i D false)/\Ch S' V S' U)):=fun V S' hV=>by
  obtain⟨fb,cF,A⟩:=hV.toKr.fr (by omega);obtain⟨pb,cP,AL⟩:=hV.toKr.sp (by omega);have c1:=hV.c1;have c2:=hV.c3;rw[A.v] at c1;rw[AL.v] at c2;refine⟨fb,cF,pb,cP,(cD S'.L j).va,fun e=>by have:=A.lab;rw[<- e,hV.lH] at this;simp at this,c1,c2,AL.x1 j BJ,?_,fun V' hb=>AW.qm _ _ p V' (AW.Has.below (hV.toKr.aB BJ) hb) Pq,fun V' hb=>?_,A.x0 i hi1,A.x1 i hi1,A.x2 i hi1,A.x3 i hi1,A.fz _,A.fz _,A.fz _,A.fz _,fun U hU=>?_⟩
  · obtain⟨ax,cx,sI,_,_⟩:=aN (hV.each j BJ).aB;exact⟨_,_,_,sI⟩
  · rw[hD,hsh];have hm':=hV.below hb;exact KW.qp k.ak p _ mb V' (fun n hn=>hm'.cx n (hX n hn)) (by omega)
  have m:=hV.Lv A.v hi1 ⟨D,1,false,false⟩;subst hU;exact⟨m.1.below (Below.refl _ _).drew,m.2.trans (Ch.below (Below.refl _ _).drew)⟩
 have Sc:Hid (∀V S',Km lo mb tt X V S' (KM.jm k1 i D false)->Calls Tryz.prog 166 #[.pointer (some (Ad mb 0)),I (j:Int),.agg #[I p,I 1,I (i:Int)]] V (gq lo mb tt X V S' (.tuple #[]) (KM.dZ (KM.jm k1 i D false) j ⟨p,1,i⟩))):=fun V S' hV=>by
  have hsp:(KM.jm k1 i D false).aj=k1.aj:=rfl;exact u7 _ S' V j ⟨p,1,i⟩ hV (by rw[hsp];exact BJ) (by rw[hsp];omega) (by rw[hsp];omega)
 have bB:Hid (∀V S',Km lo mb tt X V S' (KM.dZ (KM.jm k1 i D false) j ⟨p,1,i⟩)->Ch S w S' V->gq lo mb tt X w S (I (i:Int)) (KM.dZ (KM.jm k1 i D false) j ⟨p,1,i⟩) (.returned (I (i:Int))) V):=fun V S' h1 h2=>⟨rfl,S',h1,h2⟩
 obtain⟨K3,hK3⟩:=ex (KM.dZ (KM.jm k1 i D false) j ⟨p,1,i⟩);rw[<- hK3] at Sc bB ⊢;obtain⟨K1,Gl⟩:=ex (KM.jm k1 i D false);rw[<- Gl] at xG Sc;obtain⟨P,JU⟩:=ex (gq lo mb tt X w S (I (i:Int)) K3);rw[<- JU] at bB ⊢;have jc:Hid (∀V:World,w.heap.size<=V.heap.size->S.lab V.heap.size=.no):=fun V hV=>h.toKr.new hV
 obtain⟨FR,BW⟩:=ex (KM.aH k1.frames i);rw[<- BW] at xG;obtain⟨nf,lj⟩:=ex k1.frames.length;obtain⟨np,rH⟩:=ex k1.aj.length;rw[<- lj,<- rH] at xG;have DJ:(j:Int)<(np:Int):=by omega
 have H6:(i:Int)<(nf:Int):=by omega
 obtain⟨AR,hAR⟩:=ex (AM.aR (KM.au k1.aj j).aB p);rw[<- hAR] at xG;obtain⟨⟨q0,q1,q2,q3⟩,q4⟩:=AR;unfold dA at iy;unfold AW.cellsOf at xG;simp only[KM.js] at iy xG;clear hP JU e1 he h hR hj G hent hmv hcc BJ hi1 H8 Pd hk1 hi hD hK3 Gl hH hl BW lj rH hAR hX hsh Pq;go_enter Tryz.func141,Tryz.ntmps141;go_upto_region 8 with(first
  | (go_at_call 118;refine iy.o.mono ?_;rintro r w1 ⟨rfl,hb1⟩;have bE:=ai hb1;have cQ:=ai (bE.o.alloc bE.o.size (.cells #[I 0,I 0,I 0] 45));have BX:=ai (B.new w1 #[I 0,I 0,I 0] 45);obtain⟨d0,d1,d2⟩:=B.c3 BX.o;clear hb1)
  | (go_at_call 165;refine(Yd.o _ cQ.o).mono ?_;rintro r w2 ⟨rfl,S2,hk2,hc2⟩;have jd:=ai hk2;have lR:=ai ((Ch.below cQ.o).trans hc2);clear hk2 hc2 d0 d1 d2))
 obtain⟨fb,cF,pb,cP,va,Yw,g1,g2,g3,⟨ax,nx,cx,sI⟩,Vl,Vm,g4,g5,g6,g7,g8,g9,g10,g11,hfin⟩:=xG.o w2 S2 jd.o;subst sI;have um:=ai (Vl w2 (Below.refl _ _));have Nh:=ai Vm;have vq:=ai (fun V (hb:Below w2.heap.size w2 V)=>xG.o V S2 (jd.o.below hb));have pN:=World.block_lt_of_cell? w2 _ g4;have oJ:=World.block_lt_of_cell? w2 _ g1;have pN:fb<w2.heap.size:=pN;have oJ:mb<w2.heap.size:=oJ;clear Vl Vm g4 g5 g6 g7 g8 g9 g10 g11 hfin;have abq:Hid (∀V,Below w2.heap.size w2 V->V.cell? (Ad fb (i*4))=some (.string FR.data)/\V.cell? (Ad fb (i*4+1))=some (I FR.refs)/\V.cell? (Ad fb (i*4+2))=some (.bool FR.cj)/\V.cell? (Ad fb (i*4+3))=some (.bool FR.seen)/\V.frozen? (Ad fb (i*4))=false/\V.frozen? (Ad fb (i*4+1))=false/\V.frozen? (Ad fb (i*4+2))=false/\V.frozen? (Ad fb (i*4+3))=false/\(∀U,U=((((V.setCell (Ad fb (i*4)) (.string D)).setCell (Ad fb (i*4+1)) (I 1)).setCell (Ad fb (i*4+2)) (.bool false)).setCell (Ad fb (i*4+3)) (.bool false))->Km lo mb tt X U S2 K1/\Ch S w S2 U)):=fun V hb=>by
  obtain⟨P7,YC,SL,cP',va',_,z1,_,_,_,_,_,z4,z5,z6,z7,z8,z9,z10,z11,ac0⟩:=vq.o V hb;have e:P7=fb:=by
   rw[(hb.cell (p:=(Ad mb 1)) oJ).trans g1] at z1;injection z1 with z1;injection z1 with e1 _ _;injection e1 with e1;injection e1 with e1 _ _;exact e1.symm
  subst e;refine⟨z4,z5,z6,z7,z8,z9,z10,z11,fun U hU=>?_⟩;obtain⟨q1,q2⟩:=ac0 U.drew (by rw[hU]);have dr:Below U.heap.size U U.drew:=(Below.refl _ _).drew;exact⟨VR q1,(lR.o.trans (Ch.below hb)).trans (Mr q2)⟩
 clear vq xG;go_upto_region 9 with(go_at_call 70;refine um.o.mono ?_;rintro r w3 ⟨rfl,hb3⟩;have ed:=ai hb3;clear hb3)
 have DC:=ai (ed.o.alloc ed.o.size (.cells #[I q0,I q1,I q2,.bool q3] 47));have AX:=ai (B.new w3 #[I q0,I q1,I q2,.bool q3] 47);have hl3:=ed.o.size;obtain⟨W,hW⟩:=ex (w3.alloc (.cells #[I q0,I q1,I q2,.bool q3] 47));obtain⟨xb,DG⟩:=ex w3.heap.size;rw[<- hW] at DC AX ⊢;rw[<- DG] at AX ⊢;have hxf:¬xb=fb:=by omega
 clear hW DG;have HS:Hid (∀V,Below W.heap.size W V->V.cell? (Ad mb 1)=some (.slice (some (Ad fb 0)) nf cF)/\V.cell? (Ad xb 3)=some (.bool q3)):=fun V hb=>⟨((DC.o.trans (hb.mono DC.o.size)).cell (p:=(Ad mb 1)) oJ).trans g1,B.cell (B.below AX.o hb (B.isLt AX.o)) 3 rfl⟩
 have je:=ai (Below.refl W.heap.size W).drew;have gG:=ai (HS.o _ je.o);have Jc:Hid (∀V,Below W.heap.size W V->Calls Tryz.prog 119 #[.pointer (some (Ad mb 0)),I p,.bool q3] V fun e w'=>e=.returned (.string D)/\Below V.heap.size V w'):=fun V hb=>Nh.o V (DC.o.trans (hb.mono DC.o.size))
 have VD:Hid (∀V:World,(V.cell? (Ad mb 1)=some (.slice (some (Ad fb 0)) nf cF)/\V.cell? (Ad xb 3)=some (.bool q3))->∀v0 v1 v2 v3,((((V.setCell (Ad fb (i*4)) v0).setCell (Ad fb (i*4+1)) v1).setCell (Ad fb (i*4+2)) v2).setCell (Ad fb (i*4+3)) v3).cell? (Ad mb 1)=some (.slice (some (Ad fb 0)) nf cF)/\((((V.setCell (Ad fb (i*4)) v0).setCell (Ad fb (i*4+1)) v1).setCell (Ad fb (i*4+2)) v2).setCell (Ad fb (i*4+3)) v3).cell? (Ad xb 3)=some (.bool q3)):=fun V ⟨h0,h1⟩ v0 v1 v2 v3=>by
  rw[cB _ _ _ _ _ _ Yw,cB _ _ _ _ _ _ Yw,cB _ _ _ _ _ _ Yw,cB _ _ _ _ _ _ Yw,cB _ _ _ _ _ _ hxf,cB _ _ _ _ _ _ hxf,cB _ _ _ _ _ _ hxf,cB _ _ _ _ _ _ hxf];exact⟨h0,h1⟩
 go_region_held3 (fun V=>V.cell? (Ad mb 1)=some (.slice (some (Ad fb 0)) nf cF)/\V.cell? (Ad xb 3)=some (.bool q3)) (first | exact ky.o | exact gG.o | exact Xr.o _ _ _ _)
  ((go_at_call 119;refine(Jc.o _ je.o).mono ?_;rintro r w5 ⟨rfl,wy⟩;have pQ:=ai (je.o.trans (wy.mono je.o.size));have ky:=ai (HS.o _ pQ.o);have Xr:=ai (fun v0 v1 v2 v3=>VD.o w5 ky.o v0 v1 v2 v3);have HZZ:=ai (abq.o w5 (DC.o.trans (pQ.o.mono DC.o.size)));obtain⟨z4,z5,z6,z7,z8,z9,z10,z11⟩:w5.cell? (Ad fb (i*4))=some (.string FR.data)/\w5.cell? (Ad fb (i*4+1))=some (I FR.refs)/\w5.cell? (Ad fb (i*4+2))=some (.bool FR.cj)/\w5.cell? (Ad fb (i*4+3))=some (.bool FR.seen)/\w5.frozen? (Ad fb (i*4))=false/\w5.frozen? (Ad fb (i*4+1))=false/\w5.frozen? (Ad fb (i*4+2))=false/\w5.frozen? (Ad fb (i*4+3))=false:=(by obtain⟨a1,a2,a3,a4,a5,a6,a7,a8,_⟩:=HZZ.o;exact⟨a1,a2,a3,a4,a5,a6,a7,a8⟩);clear wy))
 all_goals clear Xr VD HS gG ky Nh Jc
 obtain⟨U,hU⟩:=ex (((((w5.setCell (Ad fb (i*4)) (.string D)).setCell (Ad fb (i*4+1)) (I 1)).setCell (Ad fb (i*4+2)) (.bool false)).setCell (Ad fb (i*4+3)) (.bool false)));obtain⟨_,_,_,_,_,_,_,_,zf⟩:=HZZ.o;obtain⟨hk6,hc6⟩:=zf U hU;have HK6:=ai hk6;have HC6:=ai hc6;rw[<- hU];clear hU hk6 hc6 zf HZZ z4 z5 z6 z7 z8 z9 z10 z11 abq;go_wp2_with (go_at_call 166;refine(Sc.o _ _ HK6.o).mono ?_;rintro r w7 ⟨rfl,S7,hk7,hc7⟩;have YL:=ai hk7;have HC7:=ai (HC6.o.trans hc7);clear hk7 hc7)
 exact bB.o _ _ YL.o HC7.o
theorem EG {lo mb:Nat} {tt:TypeId} {X:List Value} (k:KM.Kn) (S:St) (w:World) (j:Nat) (p:Int) (held:List Int) (ah:Option Addr) (ch:Nat) (h:Km lo mb tt X w S k) (hR:KM.aQ k) (hj:j<k.aj.length) (hp:KM.mapped k j p) (hX:vB X k.ak) (hl:held.length<=2) (hH:Held w S ah held) :
  Calls Tryz.prog 141 #[.pointer (some (Ad mb 0)),I (j:Int),I p,.slice ah held.length ch] w (gq lo mb tt X w S (I ((KM.cm k j p held).1:Int)) (KM.cm k j p held).2):=by
 cases he:KM.bf (KM.au k.aj j).aA p with
 | none=>exact CP k S w j p held ah ch h hR hj he hp hX hl hH
 | some e =>
  by_cases hk:e.kind=1
  · exact CQ k S w j p held ah ch e h hR hj he hk
  · exact xo k S w j p held ah ch e h hR hj he hk hl hH
theorem OV:∀l:List Int,∀u∈l.flatMap bU,u.oneCell'=true:=fun l u hu=>by
 obtain⟨y,_,hy⟩:=List.mem_flatMap.1 hu;simp[bU] at hy;rw[hy];rfl
theorem LQ {w:World} {ah:Option Addr} {l:List Int} (h:aZ bU 1 0 w ah l):From w ah l.length (l.flatMap bU):=fun hm=>by
 obtain⟨b,off,rfl,hb,hl⟩:=h hm;exact KS.qV (w:=w) bU 1 (fun _=>rfl) 0 l b off (fun i hi j hj=>hl i hi j hj) hm
theorem zj {w:World} {base:Nat} {S:St} {ao:Option Addr} {n c:Nat} {l:List Int} (hr:w.ownsRow base 3 1 (.slice ao n c) l.length (l.flatMap bU)) (hno:∀b,blk (.slice ao n c) b->S.lab b=.no):n=l.length/\Held w S ao l:=by
 obtain⟨a,cap,e,_,hrow⟩:=jy bU (fun _=>rfl) 0 hr;injection e with e1 e2 e3;subst e1 e2;refine⟨rfl,hrow,fun b off e=>?_,fun b off e=>?_⟩
 · subst e;refine hno b ?_;rcases hr.2 with⟨h0,_⟩ | ⟨g,cap',cur,hv,_⟩
   · cases h0
   · injection hv with e1 _ _;injection e1 with e1;injection e1 with e1 e2 _;subst e1 e2;rfl
 · subst e;rcases hr.2 with⟨h0,_⟩ | ⟨g,cap',cur,hv,_,hg,_⟩
   · cases h0
   · injection hv with e1 _ _;injection e1 with e1;injection e1 with e1 _ _;subst e1;exact B.isLt hg
theorem Mz {lo mb:Nat} {tt:TypeId} {X:List Value} (k:KM.Kn) (S:St) (w:World) (j:Nat) (p:Int) (a:Nat) (held:List Int) (ah:Option Addr) (ch:Nat) (h:Km lo mb tt X w S k) (hR:KM.aQ k) (hj:j<k.aj.length) (ha:KM.bf (KM.au k.aj j).aA p=some ⟨p,1,a⟩) (hl:held.length<=1) (hH:Held w S ah held) :
  Calls Tryz.prog 142 #[.pointer (some (Ad mb 0)),I (j:Int),I p,I (a:Int),.slice ah held.length ch] w (gq lo mb tt X w S (I ((KM.ic k j p a held).1:Int)) (KM.ic k j p a held).2):=by
 have hcc:=hR.c;have hne:=KM.xO hR hj ha;obtain⟨fb,cF,A⟩:=h.toKr.fr (by omega);have c1:=h.c1;rw[A.v] at c1;have x1:=A.x1 a hne.1;have hai:(a:Int)<(k.frames.length:Int):=by omega
 by_cases c:(KM.aH k.frames a).refs=1
 · have hP:KM.ic k j p a held=(a,k):=by unfold KM.ic;rw[if_pos c]
   rw[hP];have bB:Hid (gq lo mb tt X w S (I (a:Int)) k (.returned (I (a:Int))) w):=⟨rfl,S,h,Ch.refl _ _⟩;obtain⟨P,JU⟩:=ex (gq lo mb tt X w S (I (a:Int)) k);rw[<- JU] at bB ⊢;rw[c] at x1;obtain⟨nf,lj⟩:=ex k.frames.length;rw[<- lj] at c1 hai;clear hP JU c h hR hj ha hH hl A hne hcc lj;go_enter Tryz.func142,Tryz.ntmps142;go_wp2;exact bB.o
 · have hl2:(held++[(a:Int)]).length<=2:=by rw[List.length_append,List.length_singleton];omega
   have G:=KM.nK hR hl2;have hH1:=G.zk a (List.mem_append.2 (.inr (by simp))) hne.2;have hent:KM.bf (KM.au (KM.bT k (held++[(a:Int)])).2.aj j).aA p=some ⟨p,1,a⟩:=G.stay hR hj ha (fun _=>List.mem_append.2 (.inr (by simp)));obtain⟨k1,hk1⟩:=ex ((KM.bT k (held++[(a:Int)])).2);obtain⟨i,hi⟩:=ex ((KM.bT k (held++[(a:Int)])).1);have hP:KM.ic k j p a held=(i,KM.cZ k1 j p i (KM.aH k1.frames a).data true):=by
    unfold KM.ic;rw[if_neg c,hk1,hi]
   have hGT:∀V S',Km lo mb tt X V S' k->∀ah' ch',Held V S' ah' (held++[(a:Int)])->Calls Tryz.prog 165 #[.pointer (some (Ad mb 0)),.slice ah' (held++[(a:Int)]).length ch'] V (gq lo mb tt X V S' (I (i:Int)) k1):=fun V S' hV ah' ch' hh=>by
    have:=Dh k S' V (held++[(a:Int)]) ah' ch' hV hR hl2 hh;rw[<- hk1,<- hi] at this;exact this
   rw[<- hk1] at hent hH1;rw[<- hi] at hH1;have BJ:j<k1.aj.length:=by have:=G.kept.np;rw[<- hk1] at this;rw[this];exact hj
   have Tw:k1.frames.length=k.frames.length:=by have:=G.kept.nf;rw[<- hk1] at this;exact this
   have hi1:i<k1.frames.length:=by rw[Tw,hi];exact G.lt
   have ha1:a<k1.frames.length:=by rw[Tw];exact hne.1
   have uy:KM.aQ k1:=by have:=G.right;rw[<- hk1] at this;exact this
   have H8:=jq uy BJ;have aed:=uy.c;have hrf:=(lJ uy).1 a ha1;obtain⟨D,hD⟩:=ex ((KM.aH k1.frames a).data);have aal:i≠a:=fun e=>hH1.1 e.symm
   have WI:KM.aH (KM.jm k1 i D true).frames a=KM.aH k1.frames a:=by
    show KM.aH (k1.frames.set i _) a=_;rw[KM.eW _ _ _ _ hi1,if_neg aal]
   have hra:¬(KM.aH k1.frames a).refs-1=0:=by rw[hH1.2];omega
   obtain⟨K2,hK2⟩:∃K2:KM.Kn,K2={ KM.jm k1 i D true with frames:=(KM.jm k1 i D true).frames.set a ⟨(KM.aH k1.frames a).data,(KM.aH k1.frames a).refs-1,(KM.aH k1.frames a).cj,(KM.aH k1.frames a).seen⟩ }:=⟨_,rfl⟩;have hmv:KM.cZ k1 j p i D true=KM.dZ K2 j ⟨p,1,i⟩:=by
    unfold KM.cZ;rw[hent];show KM.b9 _ _=_;rw[<- wQ];congr 1;unfold KM.b9;rw[if_pos rfl,hK2];show({ KM.jm k1 i D true with frames:=(KM.jm k1 i D true).frames.set (a:Int).toNat (KM.jk (KM.aH (KM.jm k1 i D true).frames (a:Int).toNat)) }:KM.Kn)=_;rw[Int.toNat_natCast,WI];unfold KM.jk;rw[if_neg hra]
   rw[hP,<- hD,hmv];have xG:Hid (∀V S',Km lo mb tt X V S' k1->∃fb cF,V.cell? (Ad mb 1)=some (.slice (some (Ad fb 0)) k1.frames.length cF)/\¬mb=fb/\V.cell? (Ad fb (a*4))=some (.string D)/\V.cell? (Ad fb (i*4))=some (.string (KM.aH k1.frames i).data)/\V.cell? (Ad fb (i*4+1))=some (I (KM.aH k1.frames i).refs)/\V.cell? (Ad fb (i*4+2))=some (.bool (KM.aH k1.frames i).cj)/\V.cell? (Ad fb (i*4+3))=some (.bool (KM.aH k1.frames i).seen)/\V.frozen? (Ad fb (i*4))=false/\V.frozen? (Ad fb (i*4+1))=false/\V.frozen? (Ad fb (i*4+2))=false/\V.frozen? (Ad fb (i*4+3))=false /\
     (∀U,U=((((V.setCell (Ad fb (i*4)) (.string D)).setCell (Ad fb (i*4+1)) (I 1)).setCell (Ad fb (i*4+2)) (.bool true)).setCell (Ad fb (i*4+3)) (.bool false)).drew->U.cell? (Ad mb 1)=some (.slice (some (Ad fb 0)) k1.frames.length cF)/\U.cell? (Ad fb (a*4+1))=some (I (KM.aH k1.frames a).refs)/\U.frozen? (Ad fb (a*4+1))=false/\Km lo mb tt X (U.setCell (Ad fb (a*4+1)) (I ((KM.aH k1.frames a).refs-1))) S' K2/\Ch S' V S' (U.setCell (Ad fb (a*4+1)) (I ((KM.aH k1.frames a).refs-1))))):=fun V S' hV=>by
    obtain⟨fb,cF,A⟩:=hV.toKr.fr (by omega);have c1:=hV.c1;rw[A.v] at c1;refine⟨fb,cF,c1,fun e=>by have:=A.lab;rw[<- e,hV.lH] at this;simp at this,by rw[hD];exact A.x0 a ha1,A.x0 i hi1,A.x1 i hi1,A.x2 i hi1,A.x3 i hi1,A.fz _,A.fz _,A.fz _,A.fz _,fun U hU=>?_⟩;have m:=hV.Lv A.v hi1 ⟨D,1,true,false⟩;have m1:Km lo mb tt X U S' (KM.jm k1 i D true):=by subst hU;exact m.1.below (Below.refl _ _).drew
    have Ms:Ch S' V S' U:=by subst hU;exact m.2.trans (Ch.below (Below.refl _ _).drew)
    have Gj:(KM.jm k1 i D true).frames.length=k1.frames.length:=List.length_set;obtain⟨P7,YC,A'⟩:=m1.toKr.fr (by rw[Gj];omega);have e:P7=fb:=by
     have:=A'.v;rw[A.v] at this;injection this with e1 _ _;injection e1 with e1;injection e1 with e1 _ _;exact e1.symm
    subst e;have c1':=m1.c1;rw[A.v] at c1';have y1:=A'.x1 a (by rw[Gj];exact ha1);rw[WI] at y1;refine⟨c1',y1,A'.fz _,?_,Ms.trans (MZ m1.toKr A'.v)⟩;rw[hK2];exact m1.rX A'.v (i:=a) (by rw[Gj];exact ha1) (j:=1) (by omega) (by rw[WI];rfl)
   have Sc:Hid (∀V S',Km lo mb tt X V S' K2->Calls Tryz.prog 166 #[.pointer (some (Ad mb 0)),I (j:Int),.agg #[I p,I 1,I (i:Int)]] V (gq lo mb tt X V S' (.tuple #[]) (KM.dZ K2 j ⟨p,1,i⟩))):=fun V S' hV=>by
    have hsp:K2.aj=k1.aj:=by rw[hK2];rfl
    exact u7 _ S' V j ⟨p,1,i⟩ hV (by rw[hsp];exact BJ) (by rw[hsp];omega) (by rw[hsp];omega)
   have bB:Hid (∀V S',Km lo mb tt X V S' (KM.dZ K2 j ⟨p,1,i⟩)->Ch S w S' V->gq lo mb tt X w S (I (i:Int)) (KM.dZ K2 j ⟨p,1,i⟩) (.returned (I (i:Int))) V):=fun V S' h1 h2=>⟨rfl,S',h1,h2⟩
   obtain⟨K3,hK3⟩:=ex (KM.dZ K2 j ⟨p,1,i⟩);rw[<- hK3] at Sc bB ⊢;obtain⟨P,JU⟩:=ex (gq lo mb tt X w S (I (i:Int)) K3);rw[<- JU] at bB ⊢;have A5:Hid (Calls Tryz.prog 167 #[.slice ah held.length ch] w fun e w'=>∃av cv,e=.returned (.slice av held.length cv)/\w'.ownsRow w.heap.size 3 1 (.slice av held.length cv) held.length (held.flatMap bU)/\Below w.heap.size w w'):=(TY ah held.length ch (held.flatMap bU) w (bK bU 1 (fun _=>rfl) held) (LQ hH.has) (OV held) (by omega)).mono fun e w' ⟨v,h1,h2,h3⟩=>by
    obtain⟨av,cv,rfl,_⟩:=aN h2;exact⟨av,cv,h1,h2,h3⟩
   have Yd:Hid (∀V U av nv cv,Below w.heap.size w V->U=V->V.ownsRow w.heap.size 3 1 (.slice av nv cv) (held.length+1) (held.flatMap bU++[I (a:Int)])->Calls Tryz.prog 165 #[.pointer (some (Ad mb 0)),.slice av nv cv] V (gq lo mb tt X V S (I (i:Int)) k1)):=fun V U av nv cv hb _ hr=>by
    have e1:(held++[(a:Int)]).length=held.length+1:=by simp
    have e2:(held++[(a:Int)]).flatMap bU=held.flatMap bU++[I (a:Int)]:=by simp[bU]
    rw[<- e1,<- e2] at hr;obtain⟨q1,q2⟩:=zj (S:=S) hr (fun b hb2=>h.toKr.new (hr.lt b hb2).1);rw[q1];exact hGT V S (h.below hb) av cv q2
   obtain⟨i0,hin,hz0,hz1,hz2⟩:=info_parts Ht;have ry:=ai hin;have vo:=ai hz0;have vk:=ai hz1;have uj:=ai hz2;have xb:((KM.aH k.frames a).refs==1)=false:=by simpa using c
   obtain⟨R0,hR0⟩:=ex ((KM.aH k.frames a).refs);rw[<- hR0] at x1 xb;obtain⟨R1,aav⟩:=ex ((KM.aH k1.frames a).refs);rw[<- aav] at xG hrf;have hw1:IntKind.i64.wrap (R1-1)=R1-1:=IntWalk.i64_in _ (by omega);obtain⟨FR,BW⟩:=ex (KM.aH k1.frames i);rw[<- BW] at xG;obtain⟨nf,lj⟩:=ex k.frames.length;rw[Tw,<- lj] at xG;rw[<- lj] at c1 hai;have H6:(i:Int)<(nf:Int):=by omega
   have hhl:held.length<=1:=hl;clear hP JU c h hR hj ha hH hl A hne hcc lj hin hz0 hz1 hz2 BW aav hR0 hK3 hGT hmv hK2 hra WI aal hD hrf aed H8 uy ha1 hi1 Tw BJ hH1 hent hi G hl2 hk1;go_enter Tryz.func142,Tryz.ntmps142;go_upto_region 4 with(first
    | (at_builtin;refine bO (P:=Tryz.prog) rfl _ _ 99 rfl w.heap.size 3 i0 (I 0) 1 8 Tryz.underlying99 ry.o vo.o vk.o uj.o rfl (by decide) _ held.length (held.flatMap bU) rfl MF.o (some (Ad w1.heap.size 0)) 1 1 [I (a:Int)] rfl rfl (fun _=>⟨_,rfl,B.news (B.new w1 _ _)⟩) (by intro u hu;simp at hu;rw[hu];rfl) (by unfold maxLen;omega) (by omega) (by have:=bE.o.size;simp;omega) ?_;intro v' w' hown hgr hat;obtain⟨aG,cG,C9,_,_⟩:=aN hown;subst C9;have oh:=ai hown;have cM:=ai ((bE.o.alloc bE.o.size (.cells #[I (a:Int)] 3)).grown hgr (by have:=bE.o.size;simp;omega) (fun q hq=>(MF.o.lt q hq).1));clear hown hgr hat)
    | (go_at_call 167;refine A5.o.mono ?_;rintro e w1 ⟨av,cv,rfl,hr1,hb1⟩;have bE:=ai hb1;have MF:=ai (hr1.alloc (.cells #[I (a:Int)] 3));clear hr1 hb1)
    | (go_at_call 165;refine(Yd.o _ _ _ _ _ cM.o rfl oh.o).mono ?_;rintro e w3 ⟨rfl,S3,hk3,hc3⟩;have mC:=ai hk3;have oN:=ai ((Ch.below cM.o).trans hc3);clear hk3 hc3))
   obtain⟨fb3,cF3,g1,gne,g2,g3,g4,g5,g6,g7,g8,g9,g10,hfin⟩:=xG.o w3 S3 mC.o;obtain⟨U,hU⟩:=ex (((((w3.setCell (Ad fb3 (i*4)) (.string D)).setCell (Ad fb3 (i*4+1)) (I 1)).setCell (Ad fb3 (i*4+2)) (.bool true)).setCell (Ad fb3 (i*4+3)) (.bool false)).drew);obtain⟨y1,y2,y3,hk4,H9⟩:=hfin U hU;have HU:=ai hU;have HK4:=ai hk4;have HC4:=ai (oN.o.trans H9);clear hfin hU hk4 H9;go_region;rw[<- HU.o];clear g1 g2 g3 g4 g5 g6 g7 g8 g9 g10 HU;go_wp2_with (go_at_call 166;refine(Sc.o _ _ HK4.o).mono ?_;rintro r w5 ⟨rfl,S5,Wz,Z7⟩;have pQ:=ai Wz;have HC5:=ai (HC4.o.trans Z7);clear Wz Z7)
   exact bB.o _ _ pQ.o HC5.o
theorem Mv {lo mb:Nat} {tt:TypeId} {X:List Value} (k:KM.Kn) (S:St) (w:World) (j:Nat) (p way:Int) (held:List Int) (ah:Option Addr) (ch:Nat) (h:Km lo mb tt X w S k) (hR:KM.aQ k) (hj:j<k.aj.length) (hp:KM.mapped k j p) (hX:vB X k.ak) (hl:held.length<=1) (hH:Held w S ah held) :
  Calls Tryz.prog 97 #[.pointer (some (Ad mb 0)),I (j:Int),I p,I way,.slice ah held.length ch] w (gq lo mb tt X w S (I ((KM.cI k j p way held).1:Int)) (KM.cI k j p way held).2):=by
 have s7:=ai (EG k S w j p held ah ch h hR hj hp hX (by omega) hH);have hB:=(KM.kT hR hj hp way hl).1;have hPB:=KM.p9 hR hj hp (held:=held) (by omega);have hcc:=hR.c;have Ae:Hid (∀V S' K i,KM.iN k j p way held=(i,K)->Km lo mb tt X V S' K->∃fb cF,V.cell? (Ad mb 1)=some (.slice (some (Ad fb 0)) k.frames.length cF)/\¬mb=fb/\i<k.frames.length/\V.cell? (Ad fb (i*4+2))=some (.bool (KM.aH K.frames i).cj)/\V.cell? (Ad fb (i*4+3))=some (.bool (KM.aH K.frames i).seen)/\V.frozen? (Ad fb (i*4+2))=false/\V.frozen? (Ad fb (i*4+3))=false /\
   (way≠1->Km lo mb tt X (V.setCell (Ad fb (i*4+3)) (.bool true)) S' (KM.cI k j p way held).2/\Ch S' V S' (V.setCell (Ad fb (i*4+3)) (.bool true))) /\
   (way=1->Km lo mb tt X ((V.setCell (Ad fb (i*4+2)) (.bool true)).setCell (Ad fb (i*4+3)) (.bool true)) S' (KM.cI k j p way held).2/\Ch S' V S' ((V.setCell (Ad fb (i*4+2)) (.bool true)).setCell (Ad fb (i*4+3)) (.bool true)))):=fun V S' K i e hV=>by
  have lj:K.frames.length=k.frames.length:=by
   have:=hB.kept.nf;unfold KM.cI at this;rw[e] at this;have this:(K.frames.set i _).length=_:=this;rw[List.length_set] at this;exact this
  have hi:i<k.frames.length:=by
   have:=hB.lt;unfold KM.cI at this;rw[e] at this;exact this
  have hbr:(KM.cI k j p way held).2={ K with frames:=K.frames.set i (KM.mark way (KM.aH K.frames i)) }:=by
   unfold KM.cI;rw[e];rfl
  obtain⟨fb,cF,A⟩:=hV.toKr.fr (by omega);have c1:=hV.c1;rw[A.v,lj] at c1;have Yy:i<K.frames.length:=by omega
  refine⟨fb,cF,c1,fun e=>by have:=A.lab;rw[<- e,hV.lH] at this;simp at this,hi,A.x2 i Yy,A.x3 i Yy,A.fz _,A.fz _,fun hw=>?_,fun hw=>?_⟩
  · refine⟨?_,MZ hV.toKr A.v⟩;rw[hbr];refine hV.rX A.v Yy (j:=3) (by omega) ?_;unfold KM.mark;rw[decide_eq_false hw,Bool.or_false];rfl
  · have m1:=hV.rX A.v Yy (j:=2) (by omega) (f:=⟨(KM.aH K.frames i).data,(KM.aH K.frames i).refs,true,(KM.aH K.frames i).seen⟩) (u:=.bool true) rfl;have m2:=m1.rX A.v (i:=i) (by simpa using Yy) (j:=3) (by omega) (f:=KM.mark way (KM.aH K.frames i)) (u:=.bool true) (by
     simp only[KM.aH,KM.bC _ _ _ _ Yy];unfold KM.mark;rw[decide_eq_true hw,Bool.or_true];rfl)
    simp only[List.set_set] at m2;rw[hbr];exact⟨m2,(MZ hV.toKr A.v).trans (MZ hV.toKr A.v)⟩
 have hb1:(KM.cI k j p way held).1=(KM.iN k j p way held).1:=rfl;rw[hb1];have bB:Hid (∀V S' i,i=(KM.iN k j p way held).1->Km lo mb tt X V S' (KM.cI k j p way held).2->Ch S w S' V->gq lo mb tt X w S (I ((KM.iN k j p way held).1:Int)) (KM.cI k j p way held).2 (.returned (I (i:Int))) V):=fun V S' i hi h1 h2=>⟨by rw[hi],S',h1,h2⟩
 obtain⟨P,hP⟩:=ex (gq lo mb tt X w S (I ((KM.iN k j p way held).1:Int)) (KM.cI k j p way held).2);rw[<- hP] at bB ⊢;obtain⟨KB,hKB⟩:=ex ((KM.cI k j p way held).2);rw[<- hKB] at bB Ae;by_cases c:way=1
 · have e2:KM.iN k j p way held=KM.ic (KM.cm k j p held).2 j p (KM.cm k j p held).1 held:=by unfold KM.iN;rw[if_pos c]
   have VM:Hid (∀V S',Km lo mb tt X V S' (KM.cm k j p held).2->Ch S w S' V->Calls Tryz.prog 142 #[.pointer (some (Ad mb 0)),I (j:Int),I p,I ((KM.cm k j p held).1:Int),.slice ah held.length ch] V (gq lo mb tt X V S' (I ((KM.iN k j p way held).1:Int)) (KM.iN k j p way held).2)):=fun V S' hV hc=>by
    rw[e2];exact Mz (KM.cm k j p held).2 S' V j p (KM.cm k j p held).1 held ah ch hV hPB.right (by rw[hPB.kept.np];exact hj) hPB.here hl (hH.ch hc)
   obtain⟨TK,hTK⟩:=ex (KM.iN k j p way held);rw[<- hTK] at VM bB Ae;obtain⟨PR,PL⟩:=ex (KM.cm k j p held);rw[<- PL] at s7 VM;obtain⟨i,K⟩:=TK;obtain⟨ip,Kp⟩:=PR;have I8:=ai (fun V S' hV=>Ae.o V S' K i rfl hV);have kY:=ai (fun V S'=>bB.o V S' i rfl);simp only at s7 VM;have HW:=ai c;have wb:(way==1)=true:=by simpa using c
   obtain⟨FR,BW⟩:=ex (KM.aH K.frames i);rw[<- BW] at I8;obtain⟨nf,lj⟩:=ex k.frames.length;rw[<- lj] at I8;clear Ae bB hP h hR hj hp hX hl hH hB hPB hcc hKB hTK PL e2 hb1 BW lj c;go_enter Tryz.func97,Tryz.ntmps97;go_upto_region 4 with(first
    | (go_at_call 141;refine s7.o.mono ?_;rintro e w1 ⟨rfl,S1,hk1,hc1⟩;have pL:=ai hk1;have D5:=ai hc1;clear hk1 hc1)
    | (go_at_call 142;refine(VM.o _ _ pL.o D5.o).mono ?_;rintro e w2 ⟨rfl,S2,hk2,hc2⟩;have jd:=ai hk2;have lR:=ai (D5.o.trans hc2);clear hk2 hc2))
   obtain⟨fb,cF,g1,gne,gi,g2,g3,g4,g5,_,hfin⟩:=I8.o w2 S2 jd.o;obtain⟨hk3,hc3⟩:=hfin HW.o;have mC:=ai hk3;have oN:=ai (lR.o.trans hc3);have H6:(i:Int)<(nf:Int):=by omega
   clear hfin hk3 hc3;go_wp2;exact kY.o _ _ mC.o oN.o
 · have e2:KM.iN k j p way held=KM.cm k j p held:=by unfold KM.iN;rw[if_neg c]
   rw[<- e2] at s7;obtain⟨TK,hTK⟩:=ex (KM.iN k j p way held);rw[<- hTK] at s7 bB Ae;obtain⟨i,K⟩:=TK;have I8:=ai (fun V S' hV=>Ae.o V S' K i rfl hV);have kY:=ai (fun V S'=>bB.o V S' i rfl);simp only at s7;have HW:=ai c;have wb:(way==1)=false:=by simpa using c
   obtain⟨FR,BW⟩:=ex (KM.aH K.frames i);rw[<- BW] at I8;obtain⟨nf,lj⟩:=ex k.frames.length;rw[<- lj] at I8;clear Ae bB hP h hR hj hp hX hl hH hB hPB hcc hKB hTK e2 hb1 BW lj c;go_enter Tryz.func97,Tryz.ntmps97;go_upto_region 5 with(go_at_call 141;refine s7.o.mono ?_;rintro e w1 ⟨rfl,S1,hk1,hc1⟩;have pL:=ai hk1;have D5:=ai hc1;clear hk1 hc1)
   obtain⟨fb,cF,g1,gne,gi,g2,g3,g4,g5,hfin,_⟩:=I8.o w1 S1 pL.o;obtain⟨hk3,hc3⟩:=hfin HW.o;have mC:=ai hk3;have oN:=ai (D5.o.trans hc3);have H6:(i:Int)<(nf:Int):=by omega
   clear hfin hk3 hc3;go_wp2;exact kY.o _ _ mC.o oN.o
end KX
end Go.Proofs.YtpgifpeohlllfaaGreat
