import Derived.Test.YtlgoihmkgaaemaaGreatGQ40
set_option maxHeartbeats 20000000
set_option linter.unusedVariables false
set_option maxRecDepth 100000
set_option linter.unusedSimpArgs false
namespace Go.Proofs.YtlgoihmkgaaemaaGreat
open Go.RowKit Tryz
def acv (w:World) (f:ky) (er:Int) (e:Ending) (w':World):Prop:=∃az cs ar cr ao co,e=.returned (.tuple #[.agg #[I f.slots,.slice az f.aj.length cs,.slice ar f.procs.length cr,.slice ao f.out.length co],I er])/\qF w' f az ar ao/\Below w.heap.size w w'
theorem afp {w:World} {r:ky×Int} {e:Ending} {w':World} (h:xh w r e w'):acv w r.1 r.2 e w':=by
 obtain⟨az,cs,ar,cr,ao,co,h1,h2,h3⟩:=h;exact⟨az,cs,ar,cr,ao,co,h1,h2 _ (aH.refl _ _),h3⟩
variable {N:Nat} {m:iT} {f:ky} {U:World} {v0 v1 v2 v3 v4 v5 v6:Value} {az ar' Fl:Option Addr}
theorem YS (h:mG N m #[v0,v1,v2,v3,v4,v5,v6] U) (g:qF U f az ar' Fl) (hB:rJ m f) (c:Nat) :
  Calls prog 25 #[v5,.slice ar' f.procs.length c] U λe w'=>e=.returned (.bool true)/\Below U.heap.size U w':=by
 obtain⟨hs,a,ar,cr,ao,co,h1,h2,h3⟩:=h;obtain⟨_,rfl,_⟩:=SD h2;have p:xK U ar m.procs:=(h3 U (aH.refl _ _)).procs;have p':=g.procs;rw[hB.procs] at p' ⊢;exact Q8 m.procs ar ar' cr c U p p' (eJ (afz hB.gm) Δ)
theorem YR (h:mG N m #[v0,v1,v2,v3,v4,v5,v6] U) (g:qF U f az ar' Fl) (hB:rJ m f) (c:Nat) :
  Calls prog 26 #[v6,.slice Fl f.out.length c] U λe w'=>e=.returned (.bool true)/\Below U.heap.size U w':=by
 obtain⟨hs,a,ar,cr,ao,co,h1,h2,h3⟩:=h;obtain⟨_,_,rfl⟩:=SD h2;have p:zj U ao m.out:=(h3 U (aH.refl _ _)).out;have p':=g.out;rw[hB.out] at p' ⊢;exact Q7 m.out ao Fl co c U p p' (eJ hB.gm.out Δ)
theorem aft (l:List aX) (hs:List bC) (en nf ns:Int) (he:cH en):(¬(mh l hs en nf ns).2=0/\((qL l hs en ns).2=(mh l hs en nf ns).2\/((mh l hs en nf ns).2=9/\¬(qL l hs en ns).2=9)\/((mh l hs en nf ns).2=3/\¬(qL l hs en ns).2=3)))\/((mh l hs en nf ns).2=0/\(qL l hs en ns).2=0/\rJ (mh l hs en nf ns).1 (qL l hs en ns).1):=by
 rcases afq l hs en nf ns he with⟨h1,h2⟩ | h
 . left;grind
 exact .inr h
theorem afr (p:fy) (libs:List fy) (al:Option Addr) (cl:Nat) (nf ns:Int) (picks:List Int) (ap:Option Addr) (cp:Nat) (w:World) (hp:l9 w p.a p.i) (h:Cu w al libs) (hfp:BH p.i) (hfi:Uq libs) (hn:rI w ap picks) (hps:0<picks.length->∀b,ap=some b->b.block<w.heap.size) (hpl:picks.length<=140737488351232)
  (hbg:∀V,Calls prog 13 #[] V λe w'=>e=.returned (.bool true)/\Below V.heap.size V w') :
  Calls prog 6 #[xz p,.slice al libs.length cl,I nf,I ns,.slice ap picks.length cp] w λe w'=>e=.returned (.bool true)/\Below w.heap.size w w':=by
 have q:=ai hbg;have K8:Hid (∀V,Below w.heap.size w V->Calls prog 22 #[xz p,.slice al libs.length cl] V (Un (p::libs) V)):=λV hV=>Ry p libs al cl V (hp.below hV) (h.below hV) hfp hfi
 have Q:Hid (∀(m:iT),ez fO (mQ m)->∀N c V,Below w.heap.size w V->mG N m c V->Calls prog 20 #[.agg c,.slice ap picks.length cp] V (acL V (sL m picks).1 (sL m picks).2)):=λm hm N c V hV hk=>(Su hk hm picks ap cp (Ar hn hV) (λg b hb=>dV (hps g b hb) hV.size) hpl).mono λe w' ho=>afP ho
 have K5:Hid (∀(m:iT) (f:ky),rJ m f->∀V az cs ar cr ao co,Below w.heap.size w V->qF V f az ar ao->Calls prog 24 #[.agg #[I f.slots,.slice az f.aj.length cs,.slice ar f.procs.length cr,.slice ao f.out.length co],.slice ap picks.length cp] V (acv V (CJ f picks).1 (CJ f picks).2)):=λm f hB V az cs ar cr ao co hV hk=>(aiA f picks ap cp az ar ao cs cr co V hk (afs hB) hB.gf.fit (Ar hn hV) (λg b hb=>dV (hps g b hb) hV.size) hpl).mono λe w' ho=>afp ho
 obtain⟨np,C0⟩:=ex picks.length;rw[<- C0] at Q K5 ⊢;clear hp h hfp hfi hn hps hpl hbg C0;unfold xz gI at K8 ⊢;generalize p.i.needs.length=q1 at K8 ⊢;generalize p.i.fA.length=q2 at K8 ⊢;generalize p.i.syms.length=q3 at K8 ⊢;generalize p.i.lV.length=q4 at K8 ⊢;generalize p.i.name=q5 at K8 ⊢;generalize p.i.entry=q6 at K8 ⊢;generalize p.a.an=a1 at K8 ⊢;generalize p.a.ag=a2 at K8 ⊢;generalize p.a.ay=a3 at K8 ⊢;generalize p.a.ar=a4 at K8 ⊢;generalize p.a.cn=k1 at K8 ⊢;generalize p.a.cg=k2 at K8 ⊢;generalize p.a.cy=k3 at K8 ⊢;generalize p.a.cr=k4 at K8 ⊢;generalize libs.length=nl at K8 ⊢;have fU:=ai ((aN w.heap.size w).alloc (aK _) (.cells #[.string q5,.slice a1 q1 k1,.slice a2 q2 k2,.slice a3 q3 k3,.slice a4 q4 k4,I q6] 56));have X0:=ai (bH w #[.string q5,.slice a1 q1 k1,.slice a2 q2 k2,.slice a3 q3 k3,.slice a4 q4 k4,I q6] 56);go_enter func6,ntmps6;go_upto_region 1 with fail;obtain⟨x0,hx⟩:=ex w.heap.size;generalize w.alloc (.cells #[.string q5,.slice a1 q1 k1,.slice a2 q2 k2,.slice a3 q3 k3,.slice a4 q4 k4,I q6] 56)=W0 at fU X0 ⊢;rw[<- hx] at X0 ⊢;clear hx;obtain⟨y0,y1,y2,y3,y4,y5⟩:=at0 X0.o;by_cases hlk:jk (p::libs)=0;rotate_left
 . have HL:Hid (Calls prog 22 #[.agg #[.string q5,.slice a1 q1 k1,.slice a2 q2 k2,.slice a3 q3 k3,.slice a4 q4 k4,I q6],.slice al nl cl] W0 λe w'=>(e=.returned (.tuple #[.agg #[Nl,Nl,I 0],I (jk (p::libs))]))/\Below W0.heap.size W0 w'):=(K8.o _ fU.o).mono λe w' ⟨h1,h2⟩=>by rw[aB hlk] at h2;exact⟨h2,h1⟩
   generalize jk (p::libs)=er at HL hlk;have cb:(er==0)=false:=by rw[gT];exact hlk
   have ae:(er != 0)=true:=by rw[bne_iff_ne];exact hlk
   clear hlk K8 Q K5;go_wp2_with (first
    | (go_at_call 22;refine HL.o.mono ?_;rintro e w1 ⟨rfl,hb⟩;have H1:=ai (fU.o.trans (hb.mono fU.o.size));have H2:=ai (H1.o.alloc H1.o.size (.cells #[Nl,Nl,I 0] 25));clear hb)
    | (go_at_call 13;refine(q.o _).mono ?_;rintro e w3 ⟨rfl,hb⟩;have H3:=ai (H2.o.trans (hb.mono H2.o.size));clear hb))
   go_ret;exact⟨rfl,H3.o⟩
 have HL:Hid (Calls prog 22 #[.agg #[.string q5,.slice a1 q1 k1,.slice a2 q2 k2,.slice a3 q3 k3,.slice a4 q4 k4,I q6],.slice al nl cl] W0 λe w'=>∃ar AL cr ah hs ch EN,e=.returned (.tuple #[.agg #[.slice ar (List.length AL) cr,.slice ah (List.length hs) ch,I EN],I 0])/\gD w' (.slice ar AL.length cr) AL/\dQ AL/\kq w' ah hs/\uh hs/\hs.length<=ch/\cH EN/\Below W0.heap.size W0 w'):=(K8.o _ fU.o).mono λe w' ho=>X6 (all:=p::libs) (Nat.succ_pos _) ho hlk
 clear K8 hlk;go_upto_region 2 with(go_at_call 22;refine HL.o.mono ?_;rintro e wl ⟨ar,AL,cr,ah,hs,ch,EN,rfl,ZK,aP,aG,aS,b1,ab,hb⟩;have H1:=ai (fU.o.trans (hb.mono fU.o.size));clear hb);have O:=aft AL hs EN nf ns ab;have Tv:Hid (∀V,Below wl.heap.size wl V->Calls prog 10 #[.agg #[.slice ar AL.length cr,.slice ah hs.length ch,I EN],I nf,I ns] V (acL V (mh AL hs EN nf ns).1 (mh AL hs EN nf ns).2)):=λV hV=>(Sv AL hs EN nf ns _ ah ch V (ZK.below hV) aP (aG.below hV) aS b1 ab).mono λe w' ho=>afP ho
 have K:Hid (∀V,Below wl.heap.size wl V->Calls prog 23 #[.agg #[.slice ar AL.length cr,.slice ah hs.length ch,I EN],I ns] V (acv V (qL AL hs EN ns).1 (qL AL hs EN ns).2)):=λV hV=>(aiB AL hs EN ns ar ah AL.length cr ch V (ZK.below hV) aP (aG.below hV) aS b1 ab).mono λe w' ho=>afp ho
 clear ZK aP aG aS b1 ab HL y0 y1 y2 y3 y4 y5 X0;generalize mh AL hs EN nf ns=R1 at O Tv;generalize qL AL hs EN ns=R2 at O K;obtain⟨M1,bx⟩:=R1;obtain⟨F1,G⟩:=R2;simp only at Tv K O;have aR:=ai O;clear O;generalize AL.length=na at Tv K ⊢;generalize hs.length=nh at Tv K ⊢;have X0:=ai (bH wl #[.slice ar na cr,.slice ah nh ch,I EN] 25);have M:=ai ((aN wl.heap.size wl).alloc (aK _) (.cells #[.slice ar na cr,.slice ah nh ch,I EN] 25));obtain⟨xl,hx⟩:=ex wl.heap.size;generalize wl.alloc (.cells #[.slice ar na cr,.slice ah nh ch,I EN] 25)=Wl at M X0 ⊢;rw[<- hx] at X0 ⊢;clear hx;obtain⟨y0,y1,y2⟩:=zn X0.o;go_upto_region 5 with(go_at_call 10;refine(Tv.o _ M.o).mono ?_;rintro e wa ⟨bd,bb,b3,bm,bz,b9,b4,bp,b8,bv,bi,b2,ba,b5,b6,bs,bn,rfl,hk,hb⟩;have Ka:=ai hk;have La:=ai hb;clear hk hb);have Va:=ai (WC Ka.o);have Da:=ai (La.o.alloc La.o.size (.cells #[.slice bd bb b3,.slice bm bz b9,.slice b4 bp b8,.slice bv bi b2,I ba,.slice b5 M1.procs.length b6,.slice bs M1.out.length bn] 34));obtain⟨xa,hx⟩:=ex wa.heap.size;generalize wa.alloc (.cells #[.slice bd bb b3,.slice bm bz b9,.slice b4 bp b8,.slice bv bi b2,I ba,.slice b5 M1.procs.length b6,.slice bs M1.out.length bn] 34)=Wa at Va Da ⊢;rw[<- hx] at Va ⊢;clear hx Ka La;have Ba:=ai (M.o.trans (Da.o.mono M.o.size));obtain⟨z0,z1,z2⟩:=zn (aU X0.o Da.o (aQ X0.o));clear y0 y1 y2;go_upto_region 6 with(go_at_call 23;refine(K.o _ Ba.o).mono ?_;rintro e wb ⟨af,au,aw,U,aC,W,rfl,hk,hb⟩;have Kb:=ai hk;have Lb:=ai hb;clear hk hb);have Db:=ai (Lb.o.alloc Lb.o.size (.cells #[I F1.slots,.slice af F1.aj.length au,.slice aw F1.procs.length U,.slice aC F1.out.length W] 62));have XB:=ai (bH wb #[I F1.slots,.slice af F1.aj.length au,.slice aw F1.procs.length U,.slice aC F1.out.length W] 62);have KB:=ai (Kb.o.below ((aN wb.heap.size wb).alloc (aK _) (.cells #[I F1.slots,.slice af F1.aj.length au,.slice aw F1.procs.length U,.slice aC F1.out.length W] 62)));obtain⟨xb,hx⟩:=ex wb.heap.size;generalize wb.alloc (.cells #[I F1.slots,.slice af F1.aj.length au,.slice aw F1.procs.length U,.slice aC F1.out.length W] 62)=Wb at KB Db XB ⊢;rw[<- hx] at XB ⊢;clear hx Kb Lb;have Bb:=ai (H1.o.trans ((Ba.o.trans (Db.o.mono Ba.o.size)).mono H1.o.size));have aL:=ai (Va.o.below Db.o);clear z0 z1 z2 Va Tv K M Ba X0 Da;rcases aR.o with⟨c,d⟩ | ⟨c1,c2,c3⟩
 . have cb:(bx==0)=false:=by rw[gT];exact c
   have ae:(bx != 0)=true:=by rw[bne_iff_ne];exact c
   clear aR Q K5;rcases d with rfl | ⟨rfl,d⟩ | ⟨rfl,d⟩
   . go_wp2_with (go_at_call 13;refine(q.o _).mono ?_;rintro e w3 ⟨rfl,hb⟩;have H3:=ai (Bb.o.trans (hb.mono Bb.o.size));clear hb)
     go_ret;exact⟨ξ,H3.o⟩
   . have db:(G==9)=false:=by rw[gT];exact d
     clear cb ae c d;by_cases d0:G=0
     . subst d0;go_wp2_with (go_at_call 13;refine(q.o _).mono ?_;rintro e w3 ⟨rfl,hb⟩;have H3:=ai (Bb.o.trans (hb.mono Bb.o.size));clear hb);go_ret;exact⟨ξ,H3.o⟩
     have eb:(G==0)=false:=by rw[gT];exact d0
     clear d0;go_wp2_with (go_at_call 13;refine(q.o _).mono ?_;rintro e w3 ⟨rfl,hb⟩;have H3:=ai (Bb.o.trans (hb.mono Bb.o.size));clear hb);go_ret;exact⟨ξ,H3.o⟩
   have db:(G==3)=false:=by rw[gT];exact d
   clear cb ae c d;by_cases d0:G=0
   . subst d0;go_wp2_with (go_at_call 13;refine(q.o _).mono ?_;rintro e w3 ⟨rfl,hb⟩;have H3:=ai (Bb.o.trans (hb.mono Bb.o.size));clear hb);go_ret;exact⟨ξ,H3.o⟩
   have eb:(G==0)=false:=by rw[gT];exact d0
   clear d0;go_wp2_with (go_at_call 13;refine(q.o _).mono ?_;rintro e w3 ⟨rfl,hb⟩;have H3:=ai (Bb.o.trans (hb.mono Bb.o.size));clear hb);go_ret;exact⟨ξ,H3.o⟩
 clear aR;subst c1 c2;have Y:=ai (Q.o M1 c3.gm);have Fm:=ai (K5.o M1 F1 c3);obtain⟨i1,i2⟩:=afo c3 picks;clear Q K5 c3;generalize sL M1 picks=R1 at i1 i2 Y;generalize CJ F1 picks=R2 at i1 i2 Fm;obtain⟨M2,er⟩:=R1;obtain⟨F2,G⟩:=R2;simp only at i1 i2 Y Fm;subst i1;obtain⟨k0,k1,k2,k3,k4,k5,k6⟩:=B0 aL.o.1;obtain⟨Na,ka⟩:=aL.o.2;have KA:=ai ka;go_upto_region 9 with(go_at_call 20;refine(Y.o _ _ _ Bb.o KA.o).mono ?_;rintro e wc ⟨aF,a0,Z,X,ac,aE,av,a8,a6,a9,R,aa,T,a7,am,ad,a5,rfl,hk,hb⟩;have Kc:=ai hk;have Lc:=ai hb;clear hk hb);clear ka k0 k1 k2 k3 k4 k5 k6;have Vc:=ai (WC Kc.o);have Dc:=ai (Lc.o.alloc Lc.o.size (.cells #[.slice aF a0 Z,.slice X ac aE,.slice av a8 a6,.slice a9 R aa,I T,.slice a7 M2.procs.length am,.slice ad M2.out.length a5] 34));obtain⟨xc,hx⟩:=ex wc.heap.size;generalize wc.alloc (.cells #[.slice aF a0 Z,.slice X ac aE,.slice av a8 a6,.slice a9 R aa,I T,.slice a7 M2.procs.length am,.slice ad M2.out.length a5] 34)=Wc at Vc Dc ⊢;rw[<- hx] at Vc ⊢;clear hx Kc Lc Y;have Bc:=ai (Bb.o.trans (Dc.o.mono Bb.o.size));have bt:=ai (KB.o.below Dc.o);obtain⟨k0,k1,k2,k3⟩:=TD (aU XB.o Dc.o (aQ XB.o));go_upto_region 10 with(go_at_call 24;refine(Fm.o _ _ _ _ _ _ _ Bc.o bt.o).mono ?_;rintro e wd ⟨J,L,F,A,B,y,rfl,hk,hb⟩;have Kd:=ai hk;have Ld:=ai hb;clear hk hb);clear k0 k1 k2 k3;have Dd:=ai (Ld.o.alloc Ld.o.size (.cells #[I F2.slots,.slice J F2.aj.length L,.slice F F2.procs.length A,.slice B F2.out.length y] 62));have XD:=ai (bH wd #[I F2.slots,.slice J F2.aj.length L,.slice F F2.procs.length A,.slice B F2.out.length y] 62);have KD:=ai (Kd.o.below ((aN wd.heap.size wd).alloc (aK _) (.cells #[I F2.slots,.slice J F2.aj.length L,.slice F F2.procs.length A,.slice B F2.out.length y] 62)));obtain⟨xd,hx⟩:=ex wd.heap.size;generalize wd.alloc (.cells #[I F2.slots,.slice J F2.aj.length L,.slice F F2.procs.length A,.slice B F2.out.length y] 62)=Wd at KD Dd XD ⊢;rw[<- hx] at XD ⊢;clear hx Kd Ld Fm KB bt XB aL KA;have Bd:=ai (Bc.o.trans (Dd.o.mono Bc.o.size));have Vd:=ai (Vc.o.below Dd.o);clear Vc;by_cases c:er=0;rotate_left
 . have cb:(er==0)=false:=by rw[gT];exact c
   have ae:(er != 0)=true:=by rw[bne_iff_ne];exact c
   clear c i2;go_wp2_with (go_at_call 13;refine(q.o _).mono ?_;rintro e w3 ⟨rfl,hb⟩;have H3:=ai (Bd.o.trans (hb.mono Bd.o.size));clear hb);go_ret;exact⟨ξ,H3.o⟩
 subst c;have hB:=i2 rfl;obtain⟨hX,Nd,hK⟩:=Vd.o;have Ir:Hid (∀V,Below Wd.heap.size Wd V->Calls prog 25 #[.slice a7 M2.procs.length am,.slice F F2.procs.length A] V λe w'=>e=.returned (.bool true)/\Below V.heap.size V w'):=λV hV=>YS (hK.below hV) (KD.o.below hV) hB A
 have b0:Hid (∀V,Below Wd.heap.size Wd V->Calls prog 26 #[.slice ad M2.out.length a5,.slice B F2.out.length y] V λe w'=>e=.returned (.bool true)/\Below V.heap.size V w'):=λV hV=>YR (hK.below hV) (KD.o.below hV) hB y
 have QR:Hid (∀V,Below Wd.heap.size Wd V->Calls prog 27 #[.agg #[.slice aF a0 Z,.slice X ac aE,.slice av a8 a6,.slice a9 R aa,I T],.agg #[I F2.slots,.slice J F2.aj.length L,.slice F F2.procs.length A,.slice B F2.out.length y]] V λe w'=>e=.returned (.bool true)/\Below V.heap.size V w'):=λV hV=>acu hB (hK.below hV) (KD.o.below hV)
 have XC:=ai hX;clear hX hK hB i2 Vd KD;generalize M2.procs.length=n5 at XC Ir ⊢;generalize M2.out.length=n6 at XC b0 ⊢;generalize F2.procs.length=l5 at XD Ir QR ⊢;generalize F2.out.length=l6 at XD b0 QR ⊢;generalize F2.aj.length=l7 at XD QR ⊢;generalize F2.slots=l8 at XD QR ⊢;have HC:Hid (∀V,Below Wd.heap.size Wd V->(V.cell? (Ad xc 0)=some (.slice aF a0 Z)/\V.cell? (Ad xc 1)=some (.slice X ac aE)/\V.cell? (Ad xc 2)=some (.slice av a8 a6)/\V.cell? (Ad xc 3)=some (.slice a9 R aa)/\V.cell? (Ad xc 4)=some (I T)/\V.cell? (Ad xc 5)=some (.slice a7 n5 am)/\V.cell? (Ad xc 6)=some (.slice ad n6 a5))/\(V.cell? (Ad xd 0)=some (I l8)/\V.cell? (Ad xd 1)=some (.slice J l7 L)/\V.cell? (Ad xd 2)=some (.slice F l5 A)/\V.cell? (Ad xd 3)=some (.slice B l6 y))):=λV hV=>⟨B0 (aU XC.o hV (aQ XC.o)),TD (aU XD.o hV (aQ XD.o))⟩
 clear XC XD;go_wp2_with (first
  | (go_at_call 13;refine(q.o _).mono ?_;rintro e w5 ⟨rfl,hb⟩;have H5:=ai hb;obtain⟨⟨k0,k1,k2,k3,k4,k5,k6⟩,j0,j1,j2,j3⟩:=HC.o _ hb;clear hb)
  | (go_at_call 25;refine(Ir.o _ H5.o).mono ?_;rintro e w6 ⟨rfl,hb⟩;have H6:=ai (H5.o.trans (hb.mono H5.o.size));obtain⟨⟨k0,k1,k2,k3,k4,k5,k6⟩,j0,j1,j2,j3⟩:=HC.o _ H6.o;clear hb)
  | (go_at_call 26;refine(b0.o _ H6.o).mono ?_;rintro e w7 ⟨rfl,hb⟩;have H7:=ai (H6.o.trans (hb.mono H6.o.size));obtain⟨⟨k0,k1,k2,k3,k4,k5,k6⟩,j0,j1,j2,j3⟩:=HC.o _ H7.o;clear hb)
  | (go_at_call 27;refine(QR.o _ H7.o).mono ?_;rintro e w8 ⟨rfl,hb⟩;have H8:=ai (H7.o.trans (hb.mono H7.o.size));clear hb))
 go_ret;exact⟨ξ,Bd.o.trans (H8.o.mono Bd.o.size)⟩
open Go.RowKit
def J9:eu:=⟨0,0,0,0,0⟩
def DG:List eu:=[⟨16,0,0,0,5⟩,⟨11,1,0,0,40⟩,⟨10,0,1,8,0⟩,⟨9,0,1,1,0⟩,⟨16,0,0,0,1⟩,⟨16,0,0,0,6⟩]
def zg:Nat->ByteArray
 | 0=>⟨#[]⟩
 | k+1=>zg k++(DG.getD k J9).bytes
theorem Mr:∀k,(zg k).size=k*8
 | 0=>rfl
 | k+1=>by
  show(zg k++(DG.getD k J9).bytes).size=_;rw[Uc,Mr k,Lt];omega
def anG:ByteArray:=⟨#[16,0,0,0,5,0,0,0,11,1,0,0,40,0,0,0]⟩
def anF:ByteArray:=⟨#[10,0,1,8,0,0,0,0,9,0,1,1,0,0,0,0]⟩
def anE:ByteArray:=⟨#[16,0,0,0,1,0,0,0,16,0,0,0,6,0,0,0]⟩
def anD:ByteArray:=⟨#[0,0,0,0,0,0,0,0,0,0,0,0,0,0,0,0]⟩
def Le:ByteArray:=⟨#[16,0,0,0,5,0,0,0,11,1,0,0,40,0,0,0,10,0,1,8,0,0,0,0,9,0,1,1,0,0,0,0,16,0,0,0,1,0,0,0,16,0,0,0,6,0,0,0]⟩
theorem adh:zg 6=Le:=by kernel_rfl
def mP:sO:=⟨⟨#[116]⟩,[],[⟨0,4,Le,true,true⟩],[],[],0⟩
theorem aiK:BH mP:=by
 refine⟨by unfold bD mP;decide,by unfold bD mP;decide,λk hk=>absurd hk (by unfold mP;simp),by unfold bD mP;decide,λk hk=>?_,by unfold bD mP;decide,λk hk=>absurd hk (by unfold mP;simp),by unfold bD mP;decide,λk hk=>absurd hk (by unfold mP;simp),by unfold cH mP;decide⟩;have:k=0:=by unfold mP at hk;simp at hk;omega
 subst this;exact⟨by unfold cH mP cQ;decide,by unfold cH mP cQ;decide,by unfold bD;show(48:Nat)<=_;decide⟩
theorem aiL (a:II):jk [⟨mP,a⟩]=0:=by kernel_rfl
theorem aiJ (a:II):sS [⟨mP,a⟩] [(⟨mP,a⟩:fy)].length 0 [0]=some [0]:=by kernel_rfl
theorem aiI (a:II):bM [⟨mP,a⟩] 1 [0]=[⟨mP,a,1⟩]:=by kernel_rfl
def Uw:List yM:=[⟨1,anG,[]⟩,⟨2,anF,[]⟩,⟨3,anE,[]⟩,⟨4,anD,[]⟩]
theorem Zi (a:II):oD [⟨mP,a,1⟩]=some Uw:=by kernel_rfl
def zh:List aX:=[⟨1,4,3,false⟩]
theorem adj (a:II):qT [⟨mP,a,1⟩]=zh:=by kernel_rfl
theorem adi (a:II):ow (bE [⟨mP,a,1⟩] 0) (bV [⟨mP,a⟩] 0).i.entry=16:=by kernel_rfl
def rT (a1 a2 a3 a4:Option Addr) (c1 c2 c3 c4:Nat):List bC:=[⟨1,anG,[],a1,c1⟩,⟨2,anF,[],a2,c2⟩,⟨3,anE,[],a3,c3⟩,⟨4,anD,[],a4,c4⟩]
theorem aln {hs:List bC} (h:hs.map eZ=Uw):∃a1 a2 a3 a4 c1 c2 c3 c4,hs=rT a1 a2 a3 a4 c1 c2 c3 c4:=by
 match hs,h with
 | [⟨g1,d1,f1,a1,c1⟩,⟨g2,d2,f2,a2,c2⟩,⟨g3,d3,f3,a3,c3⟩,⟨g4,d4,f4,a4,c4⟩],h =>
  simp only[Cf,List.map_nil,eZ,Uw,NI,yM.mk.injEq,and_true] at h;obtain⟨⟨rfl,rfl,rfl⟩,⟨rfl,rfl,rfl⟩,⟨rfl,rfl,rfl⟩,rfl,rfl,rfl⟩:=h;exact⟨a1,a2,a3,a4,c1,c2,c3,c4,rfl⟩
 | [],h=>cases dC List.length h
 | [_],h=>cases dC List.length h
 | [_,_],h=>cases dC List.length h
 | [_,_,_],h=>cases dC List.length h
 | _::_::_::_::_::_,h =>
  have:=dC List.length h;simp[Uw] at this
theorem agf:dQ zh:=gy _ κ
theorem age (a1 a2 a3 a4:Option Addr) (c1 c2 c3 c4:Nat):uh (rT a1 a2 a3 a4 c1 c2 c3 c4):=by
 have one:∀(g:Int) (d:ByteArray) (a:Option Addr) (c:Nat),cH g->d.size<=140737488351232->KR ⟨g,d,[],a,c⟩:=λg d a c h1 h2=>⟨h1,h2,by unfold bD;show 0<=_;exact yt _,λk hk=>absurd hk (iW _)⟩
 refine⟨by unfold bD rT;show(4:Nat)<=_;decide,λk hk=>?_⟩
 match k,hk with
 | 0,_=>exact one 1 anG a1 c1 (by unfold cH;decide) (by show(16:Nat)<=_;decide)
 | 1,_=>exact one 2 anF a2 c2 (by unfold cH;decide) (by show(16:Nat)<=_;decide)
 | 2,_=>exact one 3 anE a3 c3 (by unfold cH;decide) (by show(16:Nat)<=_;decide)
 | 3,_=>exact one 4 anD a4 c4 (by unfold cH;decide) (by show(16:Nat)<=_;decide)
 | k+4,h=>exact absurd h (by unfold rT;simp)
open Go.RowKit
theorem abb (i:eu) (w:World):Calls prog 84 #[.agg i.cells] w λe w'=>e=.returned (.string i.bytes)/\Below w.heap.size w w':=by
 obtain⟨o,a,b,c,m⟩:=i;unfold eu.cells eu.bytes;simp only;have fU:=dn ((aN w.heap.size w).alloc (aK _) (.cells #[I o,I a,I b,I c,I m] 108));have BX:=dn (bH w #[I o,I a,I b,I c,I m] 108);obtain⟨W,hW⟩:=ex (w.alloc (.cells #[I o,I a,I b,I c,I m] 108));have HW:=dn hW;rw[<- hW] at fU BX;have Fs:=kf W;have A:=aQ BX.o;have k0:∀x:ed W.heap.size W,x.world.cell? (Ad w.heap.size 0)=some (I o):=λx=>by grind [fJ,aA,Hid.o]
 have k1:∀x:ed W.heap.size W,x.world.cell? (Ad w.heap.size 1)=some (I a):=λx=>by grind [fJ,aA,Hid.o]
 have k2:∀x:ed W.heap.size W,x.world.cell? (Ad w.heap.size 2)=some (I b):=λx=>by grind [fJ,aA,Hid.o]
 have k3:∀x:ed W.heap.size W,x.world.cell? (Ad w.heap.size 3)=some (I c):=λx=>by grind [fJ,aA,Hid.o]
 have k4:∀x:ed W.heap.size W,x.world.cell? (Ad w.heap.size 4)=some (I m):=λx=>by grind [fJ,aA,Hid.o]
 have HA:Hid (∀n V,Calls prog 58 #[I n,I 1] V λe w'=>e=.returned (.string (zF 1 n))/\Below V.heap.size V w'):=λn U=>P8 n 1 U ω
 have HM:Hid (∀V,Calls prog 58 #[I m,I 4] V λe w'=>e=.returned (.string (zF 4 m))/\Below V.heap.size V w'):=λU=>P8 m 4 U ω
 have s1:=C8 1 o;have s2:=C8 1 a;have s3:=C8 1 b;have s4:=C8 1 c;have s5:=C8 4 m;have t1:(zF 1 o++zF 1 a).size=2:=by rfl
 have t2:(zF 1 o++zF 1 a++zF 1 b).size=3:=by rfl
 have t3:(zF 1 o++zF 1 a++zF 1 b++zF 1 c).size=4:=by rfl
 clear hW;go_enter func84,ntmps84;go_wp2;rw[<- HW.o];refine eT ρ κ ?_
 repeat (first | go_big_quiet_step ((go_at_call 58;first | with_reducible exact iP (HA.o _) _ | with_reducible exact iP HM.o _)) | quiet_step ((go_at_call 58;first | with_reducible exact iP (HA.o _) _ | with_reducible exact iP HM.o _)))
 refine mM ?_;intro _ y;obtain⟨x,q⟩:=y;subst q;go_wp2;go_ret;exact⟨rfl,fU.o.trans (x.keeps.mono fU.o.size)⟩
open Go.RowKit
open Go.RowKit Go.WideMaps Go.Maps
open Go.RowKit
open Go.RowKit Go.WideMaps Go.Maps
open Go.RowKit
open Go.RowKit
def CM:Array Value:=#[I 16,I 0,I 0,I 0,I 5,I 11,I 1,I 0,I 0,I 40,I 10,I 0,I 1,I 8,I 0,I 9,I 0,I 1,I 1,I 0,I 16,I 0,I 0,I 0,I 1,I 16,I 0,I 0,I 0,I 6]
theorem agc {V:World} {rb:Nat} (h:V.heap[rb]?=some (.cells CM 108 (0,0))) (k:Nat) (hk:k<6) :
  V.cell? (Ad rb (k*5))=some (I (DG.getD k J9).op)/\V.cell? (Ad rb (k*5+1))=some (I (DG.getD k J9).a)/\V.cell? (Ad rb (k*5+2))=some (I (DG.getD k J9).b)/\V.cell? (Ad rb (k*5+3))=some (I (DG.getD k J9).c)/\V.cell? (Ad rb (k*5+4))=some (I (DG.getD k J9).m):=by
 match k,hk with
 | 0,_=>exact⟨aA h 0 rfl,aA h 1 rfl,aA h 2 rfl,aA h 3 rfl,aA h 4 rfl⟩
 | 1,_=>exact⟨aA h 5 rfl,aA h 6 rfl,aA h 7 rfl,aA h 8 rfl,aA h 9 rfl⟩
 | 2,_=>exact⟨aA h 10 rfl,aA h 11 rfl,aA h 12 rfl,aA h 13 rfl,aA h 14 rfl⟩
 | 3,_=>exact⟨aA h 15 rfl,aA h 16 rfl,aA h 17 rfl,aA h 18 rfl,aA h 19 rfl⟩
 | 4,_=>exact⟨aA h 20 rfl,aA h 21 rfl,aA h 22 rfl,aA h 23 rfl,aA h 24 rfl⟩
 | 5,_=>exact⟨aA h 25 rfl,aA h 26 rfl,aA h 27 rfl,aA h 28 rfl,aA h 29 rfl⟩
 | k+6,h=>exact absurd h ω
def Ux (w:World) (e:Ending) (w':World):Prop:=∃ar cr ah ch a1 a2 a3 a4 c1 c2 c3 c4,e=.returned (.agg #[.slice ar 1 cr,.slice ah 4 ch,I 16])/\gD w' (.slice ar 1 cr) zh/\kq w' ah (rT a1 a2 a3 a4 c1 c2 c3 c4)/\4<=ch/\Below w.heap.size w w'
theorem alm {a:II} {w w':World} {e:Ending} (h:Un [⟨mP,a⟩] w e w'):∃ar cr ah ch a1 a2 a3 a4 c1 c2 c3 c4,e=.returned (.tuple #[.agg #[.slice ar 1 cr,.slice ah 4 ch,I 16],I 0])/\eB w.heap.size w' (.slice ar 1 cr) zh/\kq w' ah (rT a1 a2 a3 a4 c1 c2 c3 c4)/\4<=ch/\Below w.heap.size w w':=by
 obtain⟨hb,h2⟩:=h;rw[aC (aiL a)] at h2;obtain⟨ix,E,r,hs,ao,cap,h3,h4,h5,h6,h7,h8,h9⟩:=h2;rw[aiJ] at h3;injection h3 with h3;subst h3;rw[aiI] at h4 h6 h7;rw[Zi] at h4;injection h4 with h4;subst h4;rw[adj] at h7;rw[adi] at h6;obtain⟨a1,a2,a3,a4,c1,c2,c3,c4,rfl⟩:=aln h5;obtain⟨ar,cr,hr,_⟩:=Cl h7;subst hr;exact⟨ar,cr,ao,cap,a1,a2,a3,a4,c1,c2,c3,c4,h6,h7,h8,h9,hb⟩
theorem agd {V U:World} {g:Nat} {x y:Value} {n:Int} {ah:Option Addr} {a1 a2 a3 a4:Option Addr} {c1 c2 c3 c4:Nat} (h:kq V ah (rT a1 a2 a3 a4 c1 c2 c3 c4)) (hg:V.heap[g]?=some (.cells #[x,y,I n] 25 (0,0))) (hx:∀k i,x≠.int k i) (hy:∀k i,y≠.int k i) (hk:∀b j v,b≠g->V.cell? (Ad b j)=some v->U.cell? (Ad b j)=some v) (hs:V.heap.size<=U.heap.size):kq U ah (rT a1 a2 a3 a4 c1 c2 c3 c4):=λhl=>by
 obtain⟨b,off,rfl,hb,di⟩:=h hl;have hne:b≠g:=λe=>by
  subst e;obtain⟨d0,d1,_,_⟩:=di 0 (by unfold rT;simp);rw[NC,lB] at d0 d1
  match off,d0,d1 with
  | 0,d0,_ =>
   rw[aA hg 0 (v:=x) rfl] at d0;injection d0 with d0;exact hx _ _ d0
  | 1,d0,_ =>
   rw[aA hg 1 (v:=y) rfl] at d0;injection d0 with d0;exact hy _ _ d0
  | 2,_,d1 =>
   have:V.cell? (Ad b 3)=none:=by simp[World.cell?,hg]
   rw[this] at d1;cases d1
  | k+3,d0,_ =>
   have:V.cell? (Ad b (k+3))=none:=by simp[World.cell?,hg]
   rw[this] at d0;cases d0
 refine⟨b,off,rfl,ω,λi hi=>?_⟩;obtain⟨d0,d1,d2,_⟩:=di i hi;refine⟨hk _ _ _ hne d0,hk _ _ _ hne d1,hk _ _ _ hne d2,λh0=>?_⟩;exfalso
 match i,hi,h0 with
 | 0,_,h0=>exact iW _ h0
 | 1,_,h0=>exact iW _ h0
 | 2,_,h0=>exact iW _ h0
 | 3,_,h0=>exact iW _ h0
 | i+4,h,_=>exact absurd h (by unfold rT;simp)
def anH:Prop:=∀wb V,V.heap[wb]?=some (.cells #[I 0,I 4,.string Le,.bool true,.bool true] 166 (0,0))->Calls prog 22 #[.agg #[.string ⟨#[116]⟩,Nl,.slice (some (Ad wb 0)) 1 1,Nl,Nl,I 0],Nl] V λe w'=>∃ar cr ah ch a1 a2 a3 a4 c1 c2 c3 c4,e=.returned (.tuple #[.agg #[.slice ar 1 cr,.slice ah 4 ch,I 16],I 0])/\eB V.heap.size w' (.slice ar 1 cr) zh/\kq w' ah (rT a1 a2 a3 a4 c1 c2 c3 c4)/\4<=ch/\Below V.heap.size V w'
theorem alo {wb:Nat} {V:World} (hV:V.heap[wb]?=some (.cells #[I 0,I 4,.string Le,.bool true,.bool true] 166 (0,0))):l9 V ⟨none,0,some (Ad wb 0),1,none,0,none,0⟩ mP:=⟨λh=>absurd h (iW _),λ_=>⟨wb,0,rfl,aQ hV,λi hi=>by
  obtain rfl:i=0:=by
   have:i<1:=hi;omega
  exact⟨aA hV 0 rfl,aA hV 1 rfl,aA hV 2 rfl,aA hV 3 rfl,aA hV 4 rfl⟩⟩,λh=>absurd h (iW _),λh=>absurd h (iW _)⟩
theorem Zh (hlk:anH) (w:World):Calls prog 37 #[] w (Ux w):=by
 have fV:Hid (∀ar cr ah ch a1 a2 a3 a4 c1 c2 c3 c4 (w':World),gD w' (.slice ar 1 cr) zh->kq w' ah (rT a1 a2 a3 a4 c1 c2 c3 c4)->4<=ch->Below w.heap.size w w'->Ux w (.returned (.agg #[.slice ar 1 cr,.slice ah 4 ch,I 16])) w'):=λar cr ah ch a1 a2 a3 a4 c1 c2 c3 c4 w' h1 h2 h3 h4=>⟨ar,cr,ah,ch,a1,a2,a3,a4,c1,c2,c3,c4,rfl,h1,h2,h3,h4⟩
 generalize Ux w=P at fV ⊢;have Mk:Hid (∀(i:eu) V,Calls prog 84 #[.agg #[I i.op,I i.a,I i.b,I i.c,I i.m]] V λe w'=>e=.returned (.string i.bytes)/\Below V.heap.size V w'):=λi V=>abb i V
 have K:Hid (∀k,zg (k+1)=zg k++(DG.getD k J9).bytes):=λk=>rfl
 have M:=ai Mr;have K8:=ai hlk;unfold anH at K8;have F:Hid (zg 6=Le):=adh;generalize Le=D at K8 F;have fU:=ai (((aN w.heap.size w).alloc (aK _) (.cells #[Nl,Nl,I 0] 25)).alloc ξ (.cells CM 108));have X0:=ai (bu (bH w #[Nl,Nl,I 0] 25) (.cells CM 108));have R0:Hid (((w.alloc (.cells #[Nl,Nl,I 0] 25)).alloc (.cells CM 108)).heap[w.heap.size+1]?=some (.cells CM 108 (0,0))):=by
  have:=bH (w.alloc (.cells #[Nl,Nl,I 0] 25)) CM 108;rw[fY] at this;exact this
 go_enter func37,ntmps37;go_wp2;obtain⟨WA,pU⟩:=ex ((w.alloc (.cells #[Nl,Nl,I 0] 25)).alloc (.cells CM 108));have G:=pU;unfold CM at G;rw[<- G];rw[<- pU] at fU X0 R0;clear pU G;obtain⟨rb,Lg⟩:=ex (w.heap.size+1);rw[<- Lg] at R0 ⊢;have Pw:=ai Lg;clear Lg;go_loopw [1,3] (λsv iv wr=>∃k:Nat,k<=6/\iv=I (k:Int)/\sv=.string (zg k)/\wr.heap[rb]?=some (.cells CM 108 (0,0))/\wr.heap[w.heap.size]?=some (.cells #[Nl,Nl,I 0] 25 (0,0))/\Below w.heap.size w wr) (λ_ iv _=>6-(intOf iv).toNat)
 case atStart=>exact⟨0,ω,rfl,rfl,R0.o,X0.o,fU.o⟩
 case round =>
  obtain⟨k,hk,rfl,rfl,hr,hx,hb⟩:=hrel;have HR:=ai hr;have HX:=ai hx;have HB:=ai hb;clear R0 X0 fU;by_cases hlt:k<6
  . obtain⟨c0,c1,c2,c3,c4⟩:=agc hr k hlt;have hs:=M.o k;have HS:=ai (K.o k);have hz:(DG.getD k J9).bytes.size=8:=Lt _;have Y2:=ai (Mk.o (DG.getD k J9));generalize DG.getD k J9=i at c0 c1 c2 c3 c4 HS hz Y2;obtain⟨Y,hY⟩:=ex i.bytes;generalize zg k=Z at hs HS ⊢;rw[<- hY] at hz HS Y2;have C2:(k:Int)<6:=by omega
    clear hY hr hx hb;go_wp2_with (go_at_call 84;refine(Y2.o _).mono ?_;rintro e w1 ⟨rfl,A⟩;have cD:=ai (HB.o.trans (A.mono HB.o.size));have Q:=ai (aU HR.o A (aQ HR.o));have R:=ai (aU HX.o A (aQ HX.o));clear A);go_roundw
    case rel=>exact⟨k+1,ω,by go_num,by rw[HS.o],Q.o,R.o,cD.o⟩
    case measure=>simp[intOf];omega
  obtain rfl:k=6:=by omega
  rw[F.o];have T:=aQ hx;clear hr hx hb K M Mk;go_wp2_with fail;have J:=ai (HB.o.alloc HB.o.size (.cells #[I 0,I 4,.string D,.bool true,.bool true] 166));have B:=ai (bu HX.o (.cells #[I 0,I 4,.string D,.bool true,.bool true] 166));have L:=ai (K8.o wr.heap.size _ (bH wr #[I 0,I 4,.string D,.bool true,.bool true] 166))
  go_at_call 22
  refine L.o.mono ?_;rintro e w2 ⟨ar,cr,ah,ch,a1,a2,a3,a4,c1,c2,c3,c4,rfl,h1,h2,h3,h4⟩;have HO:=ai h1;have HH:=ai h2;have N:=ai (aU B.o h4 (aQ B.o));have iJ:=ai (J.o.trans (h4.mono J.o.size));have U:=h4.size;clear h1 h2 h4 L K8 F B;have q:=ai (bu N.o (.cells #[.slice ar 1 cr,.slice ah 4 ch,I 16] 25));have y0:=aA q.o 0 rfl;have y1:=aA q.o 1 rfl;have y2:=aA q.o 2 rfl;have yf:=bG q.o;have O:=aQ q.o;have Nc:Hid (aH (λb=>b=w.heap.size) w2 (w2.alloc (.cells #[.slice ar 1 cr,.slice ah 4 ch,I 16] 25))):=aH.alloc _ w2 _;have y:=ai (Nc.o.trans (xS (D:=λb=>b=w.heap.size) _ w.heap.size 0 1 2 (.slice ar 1 cr) (.slice ah 4 ch) (I 16) rfl) (λ_ _ g=>g));go_wp2;refine b9 (v:=.agg #[.slice ar 1 cr,.slice ah 4 ch,I 16]) (by simp[results,results37,go_sem,y0,y1,y2,O]) rfl (fV.o _ _ _ _ a1 a2 a3 a4 c1 c2 c3 c4 _ ?_ ?_ h3 ?_)
  . exact eB.has (y.o.row HO.o (λb hb e=>by have:=(HO.o.lt b hb).1;simp at this;omega))
  . exact agd HH.o N.o (λ_ _ h=>nomatch h) (λ_ _ h=>nomatch h) (λb j v hne hc=>y.o.cell hc hne) y.o.size
  exact aH.below iJ.o y.o iJ.o.size (λb hb=>by rw[hb];exact aK _)
open Go.RowKit
def A9:ByteArray:=⟨#[1,0,0,0,0,0,0,0,0,0,0,0,0,0,0,0]⟩
def Iw (p:bT) (l:Array UInt8) (v:Int):bT:=eN p (iC ⟨l⟩) v
def ap7:Array UInt8:=#[16,0,0,0,5,0,0,0]
def ap6:Array UInt8:=#[11,1,0,0,40,0,0,0]
def ap2:Array UInt8:=#[10,0,1,8,0,0,0,0]
def ap5:Array UInt8:=#[9,0,1,1,0,0,0,0]
def ap3:Array UInt8:=#[16,0,0,0,1,0,0,0]
def ap1:Array UInt8:=#[16,0,0,0,6,0,0,0]
def FT:bT:=jK 16
def FQ:=Iw FT ap7 1
def FP:=Iw FQ ap6 0
def FO:=Iw FP ap2 0
def aar:=Iw FO ap5 (CK ⟨#[1]⟩)
def EA:=Iw aar ap3 0
def Iu:=Iw EA ap1 0
def qQ:=Iw FT ap7 0
def qE:=Iw qQ ap6 0
def qD:=Iw qE ap2 0
def oP:=Iw qD ap5 (CK ⟨#[0]⟩)
def anx:=Iw oP ap3 0
def ap8:=Iw anx ap1 0
def Bx (s:qh):List qh:=[s,jm,jm,jm,jm,jm,jm,jm]
section
variable (hs:List bC)
def auV:dB aT:=⟨⟨hs,[fN,fN,fN],Bx jm,[⟨true,sB,[]⟩],0⟩,[FT],[]⟩
def auU:dB aT:=⟨⟨hs,[⟨Cb,2,false,true⟩,fN,fN],Bx jm,[⟨true,sB,[⟨1,1,0⟩]⟩,⟨true,sB,[⟨1,1,0⟩]⟩],0⟩,[FQ,qQ],[]⟩
def auT:dB aT:=⟨⟨hs,[⟨Cb,2,false,true⟩,fN,fN],Bx jm,[⟨true,sB,[⟨1,1,0⟩]⟩,⟨true,sB,[⟨1,1,0⟩]⟩],0⟩,[FQ,qE],[]⟩
def auS:dB aT:=⟨⟨hs,[⟨Cb,2,false,true⟩,fN,fN],Bx jm,[⟨true,sB,[⟨1,1,0⟩]⟩,⟨true,sB,[⟨1,1,0⟩]⟩],0⟩,[FP,qE],[]⟩
def auR:dB aT:=⟨⟨hs,[⟨Cb,2,false,true⟩,⟨Be,1,false,true⟩,⟨WJ,1,true,true⟩],Bx jm,[⟨true,sB,[⟨1,1,0⟩]⟩,⟨true,sB,[⟨1,1,0⟩,⟨2,1,1⟩,⟨4,1,2⟩]⟩],0⟩,[FP,qD],[]⟩
def auQ:dB aT:=⟨⟨hs,[⟨Be,1,false,true⟩,⟨A9,1,true,true⟩,⟨WJ,1,true,false⟩],Bx jm,[⟨true,sB,[⟨2,1,0⟩,⟨4,1,1⟩]⟩,⟨true,sB,[⟨4,1,2⟩]⟩],2⟩,[FO,qD],[]⟩
def auP:dB aT:=⟨⟨hs,[⟨WJ,1,true,true⟩,⟨A9,1,true,false⟩,⟨Be,1,false,false⟩],Bx jm,[⟨true,sB,[⟨4,1,1⟩]⟩,⟨true,sB,[⟨2,1,2⟩,⟨4,1,0⟩]⟩],1⟩,[FO,oP],[]⟩
def auO:dB aT:=⟨⟨hs,[⟨WJ,1,true,true⟩,⟨Be,1,false,true⟩,⟨A9,1,true,true⟩],Bx jm,[⟨true,sB,[⟨2,1,1⟩,⟨4,1,2⟩]⟩,⟨true,sB,[⟨4,1,0⟩]⟩],0⟩,[aar,oP],[]⟩
def auN:dB aT:=⟨⟨hs,[⟨Ca,1,false,true⟩,⟨Be,1,false,false⟩,⟨A9,1,true,false⟩],Bx ⟨WJ,1⟩,[⟨true,sB,[⟨2,1,1⟩,⟨4,1,2⟩]⟩,⟨true,sB,[⟨3,1,0⟩,⟨4,2,0⟩]⟩],1⟩,[aar,anx],[⟨1,oP.r 0⟩]⟩
def auM:dB aT:=⟨⟨hs,[⟨Ca,1,false,true⟩,⟨Ca,1,false,true⟩,⟨A9,1,true,false⟩],Bx ⟨WJ,1⟩,[⟨true,sB,[⟨3,1,1⟩,⟨4,1,2⟩]⟩,⟨true,sB,[⟨3,1,0⟩,⟨4,2,0⟩]⟩],2⟩,[EA,anx],[⟨1,oP.r 0⟩,⟨0,aar.r 0⟩]⟩
def ar4:dB aT:=⟨⟨hs,[fN,⟨Ca,1,false,true⟩,⟨A9,1,true,false⟩],Bx jm,[⟨true,sB,[⟨3,1,1⟩,⟨4,1,2⟩]⟩,⟨false,[],[]⟩],2⟩,[EA,ap8],[⟨1,oP.r 0⟩,⟨0,aar.r 0⟩]⟩
def acR:dB aT:=⟨⟨hs,[fN,fN,fN],Bx jm,[⟨false,[],[]⟩,⟨false,[],[]⟩],2⟩,[Iu,ap8],[⟨1,oP.r 0⟩,⟨0,aar.r 0⟩]⟩
end
theorem nQ {n:Nat} {s0 s:dB aT} (s':dB aT) (h:fq dY lT n (some s0)=some s) (e1:(gN dY s (lT.getD n 0)).1=0:=by kernel_rfl) (e2:(gN dY s (lT.getD n 0)).2.mem.aR=s'.mem.aR:=by kernel_rfl) (e3:(gN dY s (lT.getD n 0)).2.mem.frames=s'.mem.frames:=by kernel_rfl) (e4:(gN dY s (lT.getD n 0)).2.mem.slots=s'.mem.slots:=by kernel_rfl) (e5:(gN dY s (lT.getD n 0)).2.mem.aj=s'.mem.aj:=by kernel_rfl) (e6:(gN dY s (lT.getD n 0)).2.mem.hand=s'.mem.hand:=by kernel_rfl) (e7:(gN dY s (lT.getD n 0)).2.ps=s'.ps:=by kernel_rfl) (e8:(gN dY s (lT.getD n 0)).2.out=s'.out:=by kernel_rfl):fq dY lT (n+1) (some s0)=some s':=by
 have k:gN dY s (lT.getD n 0)=(0,s'):=by
  revert e1 e2 e3 e4 e5 e6 e7 e8;generalize gN dY s (lT.getD n 0)=r;obtain⟨e',⟨⟨_,_,_,_,_⟩,_,_⟩⟩:=r;obtain⟨⟨_,_,_,_,_⟩,_,_⟩:=s';rintro rfl rfl rfl rfl rfl rfl rfl rfl;rfl
 unfold fq;rw[h];simp only[k];rfl
theorem ak6 (a1 a2 a3 a4:Option Addr) (d1 d2 d3 d4:Nat):∃s,fq dY lT 14 (some (anw a1 a2 a3 a4 d1 d2 d3 d4))=some s/\acO s=(2,2,0,1,2,0) :=
 let H:=anv a1 a2 a3 a4 d1 d2 d3 d4
 have h0:fq dY lT 0 (some (anw a1 a2 a3 a4 d1 d2 d3 d4))=some (auV H):=by kernel_rfl
 have h1:=nQ (auU H) h0;have h2:=nQ (auT H) h1;have h3:=nQ (auS H) h2;have h4:=nQ (auR H) h3;have h5:=nQ (auQ H) h4;have h6:=nQ (auP H) h5;have h7:=nQ (auO H) h6;have h8:=nQ (auN H) h7;have h9:=nQ (auM H) h8;have B:=nQ (ar4 H) h9;have y:=nQ (acR H) B;have A:=nQ (acR H) y;have q:=nQ (acR H) A;have b:=nQ (acR H) q
 ⟨_,b,κ⟩
end Go.Proofs.YtlgoihmkgaaemaaGreat
