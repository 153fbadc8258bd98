import Derived.Test.YtlgoihmkgaaemaaGreatGO37
set_option maxHeartbeats 20000000
set_option linter.unusedVariables false
set_option maxRecDepth 100000
set_option linter.unusedSimpArgs false
namespace Go.Proofs.YtlgoihmkgaaemaaGreat
open Go.RowKit
theorem akD {N:Nat} {w w':World} (h:Below N w w') (n:Nat):Below N w (w'.drewN n):=G8 h n
theorem aah {hs:List bG} (s:cA dX.aM hs):nZ (aU dX hs):=by
 obtain rfl:hs=[]:=by simpa [cA,dX] using s
 refine⟨⟨by show b7 0;unfold b7;decide,fun k hk=>absurd hk (jf _)⟩,by show b7 0;unfold b7;decide,fun i hi=>absurd hi (jf _),by show b7 0;unfold b7;decide,fun i hi=>absurd hi (jf _),by show b7 0;unfold b7;decide,fun i hi=>absurd hi (jf _),⟨by show -9223372036854775808<=(0:Int);omega,by show(0:Int)<=9223372036854775807;omega⟩⟩
theorem Xq {N:Nat} {c:Array Value} {U:World} (h:jY N nB c U) (pick:Int):Calls Tryz.prog 17 #[.agg c,I pick] U (LM U (iG nB pick)):=by
 obtain⟨hs,a,ar,cr,ao,co,h1,rfl,h3⟩:=h;have e:ir nB hs=nB:=by
  obtain rfl:hs=[]:=by simpa [cA,dX,nB] using h1
  rfl
 have hf:Bu (ir nB hs):=⟨aah h1,sD _,sD _⟩;have:=NT (ir nB hs) pick a ar ao cr co U (h3 U (aC.refl _ _)) hf (fun k hk=>absurd hk (jf _));refine this.mono fun e' w' ho=>?_
 rw[e] at ho;exact Hw ho
theorem I4 {N:Nat} {m:gQ} {U:World} {v0 v1 v2 v3 v4 v6:Value} {s5:Option Addr} {n5 q5:Nat} (h:jY N m #[v0,v1,v2,v3,v4,.slice s5 n5 q5,v6] U):wN U s5 m.procs:=by
 obtain⟨hs,a,ar,cr,ao,co,h1,h2,h3⟩:=h;obtain⟨_,e,_⟩:=aag h2;injection e with e1 _ _;subst e1;exact(h3 U (aC.refl _ _)).procs
structure am7 (Q S:gQ) (pick:Int):Prop where
 g1:dh dn (dC Q)
 g2:dh dn (dC S)
 len:Q.procs.length<=S.procs.length
 procs:∀i:Nat,i<Q.procs.length->¬(i:Int)=pick->aI S.procs i=aI Q.procs i
 Ou:∀i:Nat,i<Q.procs.length->¬(i:Int)=pick->∀p,oW (cO S.fF) i p=oW (cO Q.fF) i p
theorem agG {m:gQ} (h:dh dn (dC m)) (picks:List Int) (pick:Int):(ij m picks).2=2∨((ij m picks).2=0/\((iG (ij m picks).1 pick).2=2∨(iG (ij m picks).1 pick).2=6∨((iG (ij m picks).1 pick).2=0/\am7 (ij m picks).1 (iG (ij m picks).1 pick).1 pick))):=by
 rcases Ru h picks with e | e
 · have g:=N4 h e;refine .inr ⟨e,?_⟩;rcases ZX g pick with f | f | f
   · obtain⟨a1,a2,a3,a4⟩:=TQ g f;exact .inr (.inr ⟨f,g,a2,a3,fun i hi hn=>(a4 i hi hn).1,fun i hi hn=>(a4 i hi hn).2⟩)
   · exact .inl f
   · exact .inr (.inl f)
 · exact .inl e.1
theorem aaf {m:gQ} (h:dh dn (dC m)) (picks:List Int) (pick:Int) {N:Nat} {c:Array Value} {U:World} (hk:jY N (ij m picks).1 c U):Calls Tryz.prog 17 #[.agg c,I pick] U (Hx U (iG (ij m picks).1 pick).1 (iG (ij m picks).1 pick).2):=by
 rcases Ru h picks with e | e
 · exact(Xd hk (N4 h e) pick).mono fun e w' ho=>LO ho
 · rw[e.2] at hk ⊢;exact(Xq hk pick).mono fun e w' ho=>LO ho
theorem Xr (l:List aY) (hs:List bG) (en nf ns pick:Int) (aa ao:Option Addr) (na ca cap:Nat) (picks:List Int) (ap:Option Addr) (cp:Nat) (w:World) (ha:gD w (.slice aa na ca) l) (hf:dO l) (h:jB w ao hs) (Qd:rM hs) (hcap:hs.length<=cap) (he:cN en) (hn:tZ w ap picks) (hps:0<picks.length->∀b,ap=some b->b.block<w.heap.size) (hpl:picks.length<=140737488351232)
  (hbg:∀V,Calls Tryz.prog 13 #[] V fun e w'=>e=.returned (.bool true)/\Below V.heap.size V w') :
  Calls Tryz.prog 9 #[.agg #[.slice aa na ca,.slice ao hs.length cap,I en],I nf,I ns,.slice ap picks.length cp,I pick] w fun e w'=>e=.returned (.bool true)/\Below w.heap.size w w':=by
 have hcs:¬(qo l hs en nf ns).2=0∨((qo l hs en nf ns).2=0/\dh dn (dC (qo l hs en nf ns).1)):=by
  rcases LJ l hs en nf ns he with c | ⟨_,_,_,_,_,_,c,d⟩
  · exact .inl c
  · rw[c];exact .inr ⟨rfl,d⟩
 have HN1:Hid (∀V,Below w.heap.size w V->Calls Tryz.prog 10 #[.agg #[.slice aa na ca,.slice ao hs.length cap,I en],I nf,I ns] V (Hx V (qo l hs en nf ns).1 (qo l hs en nf ns).2)):=fun V hV=>(N6 l hs en nf ns _ ao cap V (ha.below hV) hf (h.below hV) Qd hcap he).mono fun e w' ho=>LO ho
 obtain⟨R1,JQ⟩:∃R,R=qo l hs en nf ns:=⟨_,rfl⟩;rw[<- JQ] at hcs HN1;obtain⟨M1,er1⟩:=R1;simp only at HN1 hcs;have HBG:=ai hbg;have HRN:Hid (∀(m:gQ),dh dn (dC m)->∀N c V,Below w.heap.size w V->jY N m c V->Calls Tryz.prog 20 #[.agg c,.slice ap picks.length cp] V (Hx V (ij m picks).1 (ij m picks).2)):=fun m hm N c V hV hk=>(N3 hk hm picks ap cp (adq.below hn hV) (fun g b hb=>fD (hps g b hb) hV.size) hpl).mono fun e w' ho=>LO ho
 obtain⟨nh,hnh⟩:=ex hs.length;obtain⟨np,yn⟩:=ex picks.length;rw[<- hnh] at HN1 ⊢;rw[<- yn] at HRN ⊢;have gB:=ai ((aK w.heap.size w).alloc (aD _) (.cells #[.slice aa na ca,.slice ao nh cap,I en] 25));have X0:=ai (bB w #[.slice aa na ca,.slice ao nh cap,I en] 25);clear ha hf h Qd hcap he hn hps hpl hbg JQ hnh yn;have HCS:=ai hcs;clear hcs;go_enter Tryz.func9,Tryz.ntmps9;go_upto_region 1 with fail;obtain⟨W0,hW⟩:=ex (w.alloc (.cells #[.slice aa na ca,.slice ao nh cap,I en] 25));obtain⟨x0,hx⟩:=ex w.heap.size;rw[<- hW] at gB X0 ⊢;rw[<- hx] at X0 ⊢;clear hW hx;obtain⟨y0,y1,y2⟩:=GU X0.o;go_upto_region 2 with(go_at_call 10;refine(HN1.o _ gB.o).mono ?_;rintro e wa ⟨s0a,n0a,q0a,s1a,n1a,q1a,s2a,n2a,q2a,s3a,n3a,q3a,hda,s5a,q5a,s6a,q6a,rfl,hk,hb⟩;have Ka:=ai hk;have La:=ai hb;clear hk hb)
 have Va:=ai (JE Ka.o);have Da:=ai (La.o.alloc La.o.size (.cells #[.slice s0a n0a q0a,.slice s1a n1a q1a,.slice s2a n2a q2a,.slice s3a n3a q3a,I hda,.slice s5a M1.procs.length q5a,.slice s6a M1.out.length q6a] 34));obtain⟨Wa,hW⟩:=ex (wa.alloc (.cells #[.slice s0a n0a q0a,.slice s1a n1a q1a,.slice s2a n2a q2a,.slice s3a n3a q3a,I hda,.slice s5a M1.procs.length q5a,.slice s6a M1.out.length q6a] 34));obtain⟨xa,hx⟩:=ex wa.heap.size;rw[<- hW] at Va Da ⊢;rw[<- hx] at Va ⊢;clear hW hx Ka La;have Ba:=ai (gB.o.trans (Da.o.mono gB.o.size));clear y0 y1 y2 HN1 X0;rcases HCS.o with c | ⟨c,g1⟩
 · have cb:(er1==0)=false:=by rw[kF];exact c
   have cb2:(er1 != 0)=true:=by rw[bne_iff_ne];exact c
   clear c HCS HRN;go_wp2_with (go_at_call 13;refine(HBG.o _).mono ?_;rintro e w3 ⟨rfl,hb⟩;have H3:=ai (Ba.o.trans (hb.mono Ba.o.size));clear hb)
   go_ret;exact⟨rfl,H3.o⟩
 subst c;clear HCS;have HAP:=ai (agG g1 picks pick);have HR1:Hid (∀N c V,Below w.heap.size w V->jY N M1 c V->Calls Tryz.prog 20 #[.agg c,.slice ap np cp] V (Hx V (ij M1 picks).1 (ij M1 picks).2)):=HRN.o M1 g1;have HST:Hid (∀N c V,jY N (ij M1 picks).1 c V->Calls Tryz.prog 17 #[.agg c,I pick] V (Hx V (iG (ij M1 picks).1 pick).1 (iG (ij M1 picks).1 pick).2)):=fun N c V hk=>aaf g1 picks pick hk
 obtain⟨rs,hrs⟩:∃r,r=iG (ij M1 picks).1 pick:=⟨_,rfl⟩;rw[<- hrs] at HAP HST;obtain⟨ra,hra⟩:∃r,r=ij M1 picks:=⟨_,rfl⟩;rw[<- hra] at HAP HST HR1;obtain⟨Q1,ea⟩:=ra;obtain⟨S1,eb⟩:=rs;simp only at HAP HST HR1;clear hra hrs HRN g1;obtain⟨k0,k1,k2,k3,k4,k5,k6⟩:=qF Va.o.1;obtain⟨Na,ka⟩:=Va.o.2;have KA:=ai ka;go_upto_region 5 with(go_at_call 20;refine(HR1.o _ _ _ Ba.o KA.o).mono ?_;rintro e wc ⟨s0c,n0c,q0c,s1c,n1c,q1c,s2c,n2c,q2c,s3c,n3c,q3c,hdc,s5c,q5c,s6c,q6c,rfl,hk,hb⟩;have Kc:=ai hk;have Lc:=ai hb;clear hk hb)
 clear ka k0 k1 k2 k3 k4 k5 k6;have Vc:=ai (JE Kc.o);have Dc:=ai (Lc.o.alloc Lc.o.size (.cells #[.slice s0c n0c q0c,.slice s1c n1c q1c,.slice s2c n2c q2c,.slice s3c n3c q3c,I hdc,.slice s5c Q1.procs.length q5c,.slice s6c Q1.out.length q6c] 34));obtain⟨Wc,hW⟩:=ex (wc.alloc (.cells #[.slice s0c n0c q0c,.slice s1c n1c q1c,.slice s2c n2c q2c,.slice s3c n3c q3c,I hdc,.slice s5c Q1.procs.length q5c,.slice s6c Q1.out.length q6c] 34));obtain⟨xc,hx⟩:=ex wc.heap.size;rw[<- hW] at Vc Dc ⊢;rw[<- hx] at Vc ⊢;clear hW hx Kc Lc;have Bc:=ai (Ba.o.trans (Dc.o.mono Ba.o.size));clear KA HR1 Va;obtain⟨k0,k1,k2,k3,k4,k5,k6⟩:=qF Vc.o.1;obtain⟨Nc,kc⟩:=Vc.o.2;have KC:=ai kc;go_upto_region 6 with(go_at_call 17;refine(HST.o _ _ _ KC.o).mono ?_;rintro e wd ⟨s0d,n0d,q0d,s1d,n1d,q1d,s2d,n2d,q2d,s3d,n3d,q3d,hdd,s5d,q5d,s6d,q6d,rfl,hk,hb⟩;have Kd:=ai hk;have Ld:=ai hb;clear hk hb)
 clear kc k0 k1 k2 k3 k4 k5 k6;have Vd:=ai (JE Kd.o);have Dd:=ai (Ld.o.alloc Ld.o.size (.cells #[.slice s0d n0d q0d,.slice s1d n1d q1d,.slice s2d n2d q2d,.slice s3d n3d q3d,I hdd,.slice s5d S1.procs.length q5d,.slice s6d S1.out.length q6d] 34));obtain⟨Wd,hW⟩:=ex (wd.alloc (.cells #[.slice s0d n0d q0d,.slice s1d n1d q1d,.slice s2d n2d q2d,.slice s3d n3d q3d,I hdd,.slice s5d S1.procs.length q5d,.slice s6d S1.out.length q6d] 34));obtain⟨xd,hx⟩:=ex wd.heap.size;rw[<- hW] at Vd Dd ⊢;rw[<- hx] at Vd ⊢;clear hW hx Kd Ld;have Bd:=ai (Bc.o.trans (Dd.o.mono Bc.o.size));have Vc2:=ai (Vc.o.below Dd.o);clear KC HST Vc;rcases HAP.o with rfl | ⟨rfl,rfl | rfl | ⟨rfl,hap⟩⟩
 · clear HAP;by_cases c:eb=0
   · subst c;go_wp2_with (go_at_call 13;refine(HBG.o _).mono ?_;rintro e w3 ⟨rfl,hb⟩;have H3:=ai (Bd.o.trans (hb.mono Bd.o.size));clear hb)
     go_ret;exact⟨by simp,H3.o⟩
   · have cb:(eb==0)=false:=by rw[kF];exact c
     have cb2:(eb != 0)=true:=by rw[bne_iff_ne];exact c
     clear c;go_wp2_with (go_at_call 13;refine(HBG.o _).mono ?_;rintro e w3 ⟨rfl,hb⟩;have H3:=ai (Bd.o.trans (hb.mono Bd.o.size));clear hb)
     go_ret;exact⟨by simp,H3.o⟩
 · clear HAP;go_wp2_with (go_at_call 13;refine(HBG.o _).mono ?_;rintro e w3 ⟨rfl,hb⟩;have H3:=ai (Bd.o.trans (hb.mono Bd.o.size));clear hb)
   go_ret;exact⟨by simp,H3.o⟩
 · clear HAP;go_wp2_with (go_at_call 13;refine(HBG.o _).mono ?_;rintro e w3 ⟨rfl,hb⟩;have H3:=ai (Bd.o.trans (hb.mono Bd.o.size));clear hb)
   go_ret;exact⟨by simp,H3.o⟩
 have HAQ:=ai hap;clear HAP hap;obtain⟨n5,hn5⟩:∃n,n=Q1.procs.length:=⟨_,rfl⟩;obtain⟨m5,hm5⟩:∃n,n=S1.procs.length:=⟨_,rfl⟩;rw[<- hn5] at Vc2 ⊢;rw[<- hm5] at Vd ⊢;have hnm:n5<=m5:=by rw[hn5,hm5];exact HAQ.o.len
 have Fk:n5<=4:=by rw[hn5];exact Rv HAQ.o.g1
 have SF:m5<=4:=by rw[hm5];exact Rv HAQ.o.g2
 have HPA:Hid (∀V,Below Wd.heap.size Wd V->∀(i p:Nat),i<n5->Calls Tryz.prog 29 #[.agg #[.slice s0c n0c q0c,.slice s1c n1c q1c,.slice s2c n2c q2c,.slice s3c n3c q3c,I hdc],I (i:Int),I (p:Int)] V fun e w'=>e=.returned (.tuple #[.string (oW (cO Q1.fF) i p).1,I (oW (cO Q1.fF) i p).2])/\Below V.heap.size V w'):=fun V hV i p hi=>by
  obtain⟨_,_,j⟩:=Vc2.o.below hV;exact LI j HAQ.o.g1 i (by omega) p
 have HPB:Hid (∀V,Below Wd.heap.size Wd V->∀(i p:Nat),i<n5->¬(i:Int)=pick->Calls Tryz.prog 29 #[.agg #[.slice s0d n0d q0d,.slice s1d n1d q1d,.slice s2d n2d q2d,.slice s3d n3d q3d,I hdd],I (i:Int),I (p:Int)] V fun e w'=>e=.returned (.tuple #[.string (oW (cO Q1.fF) i p).1,I (oW (cO Q1.fF) i p).2])/\Below V.heap.size V w'):=fun V hV i p hi hne=>by
  obtain⟨_,_,j⟩:=Vd.o.below hV;have:=LI j HAQ.o.g2 i (by omega) p;rw[HAQ.o.Ou i (by omega) hne] at this;exact this
 have Bv:Hid (∀V,Below Wd.heap.size Wd V->wN V s5c Q1.procs/\wN V s5d S1.procs):=fun V hV=>by
  obtain⟨_,_,j⟩:=Vc2.o.below hV;obtain⟨_,_,j'⟩:=Vd.o.below hV;exact⟨I4 j,I4 j'⟩
 have HPE:Hid (∀i:Nat,i<n5->¬(i:Int)=pick->aI S1.procs i=aI Q1.procs i):=fun i hi=>HAQ.o.procs i (by omega)
 have HN5:=ai hn5;have HM5:=ai hm5;have I5:Hid (∀V,Below Wd.heap.size Wd V->V.heap[xc]?=some (.cells #[.slice s0c n0c q0c,.slice s1c n1c q1c,.slice s2c n2c q2c,.slice s3c n3c q3c,I hdc,.slice s5c n5 q5c,.slice s6c Q1.out.length q6c] 34 (0,0))/\V.heap[xd]?=some (.cells #[.slice s0d n0d q0d,.slice s1d n1d q1d,.slice s2d n2d q2d,.slice s3d n3d q3d,I hdd,.slice s5d m5 q5d,.slice s6d S1.out.length q6d] 34 (0,0))):=fun V hV=>⟨(Vc2.o.below hV).1,(Vd.o.below hV).1⟩
 clear hn5 hm5 HAQ Vc2 Vd;go_wp2;go_loopw [17] (fun iv wq=>∃i:Nat,i<=n5/\iv=I (i:Int)/\Below Wd.heap.size Wd wq) (fun iv _=>n5-(intOf iv).toNat)
 case atStart=>exact⟨0,by omega,rfl,aK _ _⟩
 case round =>
  obtain⟨i,hi,rfl,hb⟩:=hrel;have H:=ai hb;obtain⟨hc,hd⟩:=I5.o _ hb;obtain⟨k0,k1,k2,k3,k4,k5,k6⟩:=qF hc;obtain⟨j0,j1,j2,j3,j4,j5,j6⟩:=qF hd;obtain⟨p1,p2⟩:=Bv.o _ hb;clear hb hc hd;by_cases c:i<n5
  · have ci:(i:Int)<(n5:Int):=by omega
    by_cases cp:(i:Int)=pick
    · subst cp;clear p1 p2;go_wp2;go_roundw
      case rel=>exact⟨i+1,by omega,by go_num,H.o⟩
      case measure=>simp[intOf];omega
    · obtain⟨b,off,hao,hbl,eY⟩:=p1 (by rw[<- HN5.o];omega);obtain⟨b',off',hao',apQ,ai0⟩:=p2 (by rw[<- HM5.o];omega);subst hao;subst hao';obtain⟨d0,d1,d2,d3,d4,d5,d6,d7,d8,d9,d10,d11,d12⟩:=eY i (by rw[<- HN5.o];omega);have he:=ai0 i (by rw[<- HM5.o];omega);rw[HPE.o i c cp] at he;obtain⟨e0,e1,e2,e3,e4,e5,e6,e7,e8,e9,e10,e11,e12⟩:=he;obtain⟨q,hq⟩:=ex (aI Q1.procs i);rw[<- hq] at d0 d1 d2 d3 d4 d5 d6 d7 d8 d9 d10 d11 d12 e0 e1 e2 e3 e4 e5 e6 e7 e8 e9 e10 e11 e12;have hE8:=aeM (q.r 0) (q.r 1) (q.r 2) (q.r 3) (q.r 4) (q.r 5) (q.r 6) (q.r 7);have cpb:((i:Int)==pick)=false:=by rw[kF];exact cp
      have cm:(i:Int)<(m5:Int):=by omega
      have CP:=ai cp;clear hq eY ai0 hbl apQ cp;go_wp2
      go_quiet (fail)
      go_wp2;clear d0 d1 d2 d3 d4 d5 d6 d7 d8 d9 d10 d11 d12 e0 e1 e2 e3 e4 e5 e6 e7 e8 e9 e10 e11 e12 hE8 k0 k1 k2 k3 k4 k5 k6 j0 j1 j2 j3 j4 j5 j6;obtain⟨V1,hV1⟩:=ex (wr.drewN nq);have H2:Hid (Below Wd.heap.size Wd V1):=by rw[hV1];exact akD H.o _
      rw[<- hV1];clear hV1 H;go_loopw [18] (fun iv wq=>∃p:Nat,p<=256/\iv=I (p:Int)/\Below Wd.heap.size Wd wq) (fun iv _=>256-(intOf iv).toNat)
      case atStart=>exact⟨1,by omega,rfl,H2.o⟩
      case round =>
       obtain⟨p,hp,rfl,hb⟩:=hrel;have H:=ai hb;obtain⟨hc,hd⟩:=I5.o _ hb;obtain⟨k0,k1,k2,k3,k4,k5,k6⟩:=qF hc;have MZ:=ai (HPA.o _ hb i p c);obtain⟨PS,hPS⟩:=ex ((oW (cO Q1.fF) i p).1);obtain⟨PE,hPE⟩:=ex ((oW (cO Q1.fF) i p).2);have cH:Hid (∀V,Below Wd.heap.size Wd V->Calls Tryz.prog 29 #[.agg #[.slice s0d n0d q0d,.slice s1d n1d q1d,.slice s2d n2d q2d,.slice s3d n3d q3d,I hdd],I (i:Int),I (p:Int)] V fun e w'=>e=.returned (.tuple #[.string PS,I PE])/\Below V.heap.size V w'):=fun V hV=>by rw[hPS,hPE];exact HPB.o V hV i p c CP.o
       rw[<- hPS,<- hPE] at MZ;clear hb hc hd hPS hPE;by_cases cp:p<=255
       · have cq:(p:Int)<=255:=by omega
         go_wp2_with (first
          | (go_at_call 29;have _:=FIRST;refine(cH.o _ H3.o).mono ?_;rintro e w4 ⟨rfl,hb⟩;have H4:=ai (H3.o.trans (hb.mono H3.o.size));clear hb)
          | (go_at_call 29;refine MZ.o.mono ?_;rintro e w3 ⟨rfl,hb⟩;have H3:=ai (H.o.trans (hb.mono H.o.size));obtain⟨hc,hd⟩:=I5.o _ H3.o;obtain⟨j0,j1,j2,j3,j4,j5,j6⟩:=qF hd;have FIRST:=trivial;clear hb hc hd))
         go_roundw
         case rel=>exact⟨p+1,by omega,by go_num,H4.o⟩
         case measure=>simp[intOf];omega
       · obtain rfl:p=256:=by omega
         clear k0 k1 k2 k3 k4 k5 k6 MZ cH;go_wp2;go_roundw
         case rel=>exact⟨i+1,by omega,by go_num,H.o⟩
         case measure=>simp[intOf];omega
  · obtain rfl:i=n5:=by omega
    clear p1 p2;go_wp2_with (go_at_call 13;refine(HBG.o _).mono ?_;rintro e w3 ⟨rfl,hb⟩;have H3:=ai (H.o.trans (hb.mono H.o.size));obtain⟨hc,hd⟩:=I5.o _ H3.o;obtain⟨k0,k1,k2,k3,k4,k5,k6⟩:=qF hc;obtain⟨j0,j1,j2,j3,j4,j5,j6⟩:=qF hd;clear hb hc hd)
    go_ret;exact⟨by simp,Bd.o.trans (H3.o.mono Bd.o.size)⟩
open Go.RowKit
def CU (R:Option (List pG)) (w:World) (e:Ending) (w':World):Prop:=Below w.heap.size w w'/\match R with
 | none=>e=.returned (.tuple #[Nl,.bool false])
 | some ps=>∃v,e=.returned (.tuple #[v,.bool true])/\w'.ownsRow w.heap.size 282 2 v ps.length (ps.flatMap KF)
open Go.RowKit
theorem Ux:(Tryz.prog.info? 145).map (fun i=>(i.zero,i.size,i.bytes))=some (some (.agg #[I 0,.string ⟨#[]⟩,Nl]),3,48):=by rfl
structure A6 (lo:Nat) (w:World) (v:Value) (hs:List bG):Prop where
 row:w.ownsRow lo 145 3 v hs.length (hs.flatMap Fx)
 fix:adk v.ownBlock w hs
theorem A6.below {lo:Nat} {w w':World} {v:Value} {hs:List bG} (h:A6 lo w v hs) (hb:Below w.heap.size w w'):A6 lo w' v hs:=⟨DD h.row hb,fun k hk=>(h.fix k hk).below hb⟩
theorem A6.nil (lo:Nat) (w:World):A6 lo w Nl []:=⟨mG _ _ _ _,fun k hk=>by grind⟩
theorem A6.has {lo:Nat} {w:World} {v:Value} {hs:List bG} (h:A6 lo w v hs):∃ao cap,v=.slice ao hs.length cap/\jB w ao hs/\hs.length<=cap:=by
 have hr:=h.row;rcases hr.2 with⟨hv,h0⟩ | ⟨g,cap,cur,hv,hbg,hg,hnc,hcm,hcs,htake⟩
 · exact⟨none,0,by grind,fun hl=>by omega,by omega⟩
 · rw[hv] at hr;refine⟨some (Ad g 0),cap,hv,fun _=>⟨g,0,rfl,aJ hg,fun k hk=>?_⟩,hnc⟩;rw[lZ];have hh:∀j,j<3->w.cell? (Ad g (k*3+j))=(Fx (bu hs k))[j]?:=fun j hj=>(hr.cellAt _ (by omega)).trans (vv Fx 3 (fun _=>rfl) Ce hs k j hk hj)
   exact⟨hh 0 (by omega),hh 1 (by omega),hh 2 (by omega),(h.fix k hk).has⟩
theorem adX {w:World} {base:Nat} {v:Value} {l:List mL} (h:w.ownsRow base 226 2 v l.length (l.flatMap CX)) (rb:Option Nat) (J5:∀q,rb=some q->q<base):∃ao cap,v=.slice ao l.length cap/\rK rb w ao l:=by
 rcases h.2 with⟨hv,h0⟩ | ⟨g,cap,cur,hv,hbg,hg,hnc,hcm,hcs,htake⟩
 · exact⟨none,0,by grind,fun hl=>by omega⟩
 · subst hv;refine⟨some (Ad g 0),cap,rfl,fun hl=>⟨g,0,rfl,aJ hg,fun e=>by grind,fun k hk=>?_⟩⟩;rw[lZ];have hh:∀j,j<2->w.cell? (Ad g (k*2+j))=(CX (nX l k))[j]?:=fun j hj=>(h.cellAt _ (by omega)).trans (vv CX 2 (fun _=>rfl) QJ l k j hk hj)
   exact⟨hh 0 (by omega),hh 1 (by omega)⟩
theorem A6.more {lo:Nat} {w w':World} {v:Value} {hs:List bG} {x:bG} {g cap:Nat} (h:adk v.ownBlock w hs) (hx:rK v.ownBlock w x.ao x.eZ) (hown:w'.ownsRow lo 145 3 (.slice (some (Ad g 0)) (hs.length+1) cap) (hs.length+1) (hs.flatMap Fx++Fx x)) (hg:w.grownBy w' v.ownBlock) (hs':w.heap.size<=w'.heap.size) (hat:v.ownBlock=some g∨g=w.heap.size) :
  A6 lo w' (.slice (some (Ad g 0)) (hs.length+1) cap) (hs++[x]):=by
 refine⟨by grind,fun k hk=>?_⟩;have e:(Value.slice (some (Ad g 0)) (hs.length+1) cap).ownBlock=some g:=rfl;rw[e];rw[fM] at hk;by_cases hkl:k<hs.length
 · rw[VR hs x k hkl];exact(h k hkl).grown hg hs' hat
 grind [VS,rK.grown]
def Kp (R:Option (List Fz)) (w:World) (e:Ending) (w':World):Prop:=Below w.heap.size w w'/\match R with
 | none=>e=.returned (.tuple #[Nl,.bool false])
 | some E=>∃(hs:List bG) (ao:Option Addr) (cap:Nat),hs.map gp=E/\e=.returned (.tuple #[.slice ao hs.length cap,.bool true])/\jB w' ao hs/\hs.length<=cap
open Go.RowKit
structure uv (w:World) (r:Option Nat) (w':World) (r':Option Nat):Prop where
 size:w.heap.size<=w'.heap.size
 block:∀b,b<w.heap.size->some b≠r->w'.heap[b]?=w.heap[b]?
 row:r'=r∨∃g,r'=some g/\w.heap.size<=g
theorem uv.refl (w:World) (r:Option Nat):uv w r w r:=⟨aD _,fun _ _ _=>rfl,.inl rfl⟩
theorem uv.trans {w w1 w2:World} {r r1 r2:Option Nat} (h:uv w r w1 r1) (g:uv w1 r1 w2 r2):uv w r w2 r2:=by
 have hs:=h.size;refine⟨gu h.size g.size,fun b hb hr=>?_,?_⟩
 · grind [block,row]
 grind [row]
theorem uv.bZ {w w':World} (h:Below w.heap.size w w') (r:Option Nat):uv w r w' r:=⟨h.size,fun b hb _=>h.block b hb,.inl rfl⟩
theorem uv.ahv {w w':World} {r:Option Nat} {g:Nat} (h:w.grownBy w' r) (hs:w.heap.size<=w'.heap.size) (hat:r=some g∨g=w.heap.size):uv w r w' (some g) :=
 ⟨hs,fun b hb hr=>h.block b hb hr,by
  grind⟩
theorem uv.keep {w w':World} {r r':Option Nat} {b:Nat} {o:Obj} (h:uv w r w' r') (hb:w.heap[b]?=some o) (hr:some b≠r):w'.heap[b]?=some o:=(h.block b (aJ hb) hr).trans hb
def QB (rb:Option Nat) (w:World) (ao:Option Addr) (l:List pG):Prop:=0<l.length->∃b off,ao=some (Ad b off)/\b<w.heap.size/\some b≠rb/\KH w b off l
theorem QB.fr {rb rb':Option Nat} {w w':World} {ao:Option Addr} {l:List pG} (h:QB rb w ao l) (hf:uv w rb w' rb'):KL w' ao l:=fun hl=>by
 obtain⟨b,off,h1,h2,h3,h4⟩:=h hl;exact⟨b,off,h1,fD h2 hf.size,fun i hi=>by
  obtain⟨c0,c1⟩:=h4 i hi
  grind [World.cell?_of_block,uv.block]⟩
theorem abk {w:World} {base:Nat} {v:Value} {l:List pG} (h:w.ownsRow base 282 2 v l.length (l.flatMap KF)) (rb:Option Nat) (J5:∀q,rb=some q->q<base):∃ao cap,v=.slice ao l.length cap/\QB rb w ao l:=by
 rcases h.2 with⟨hv,h0⟩ | ⟨g,cap,cur,hv,hbg,hg,hnc,hcm,hcs,htake⟩
 · exact⟨none,0,by grind,fun hl=>by omega⟩
 · subst hv;refine⟨some (Ad g 0),cap,rfl,fun hl=>⟨g,0,rfl,aJ hg,fun e=>by grind,fun k hk=>?_⟩⟩;rw[lZ];have hh:∀j,j<2->w.cell? (Ad g (k*2+j))=(KF (xR l k))[j]?:=fun j hj=>(h.cellAt _ (by omega)).trans (vv KF 2 (fun _=>rfl) abw l k j hk hj)
   exact⟨hh 0 (by omega),hh 1 (by omega)⟩
open Go.RowKit
def MC (o:kr) (L:List aY) (s:pR):List aY:=(dK L (o.base+s.page) s.aQ (vW s)).1
def Fy (o:kr) (L:List aY):Nat->List aY
 | 0=>L
 | k+1=>MC o (Fy o L k) (eN o.i.jK k)
def Ch (l:List kr):Nat->List aY
 | 0=>[]
 | k+1=>Fy (dR l k) (Ch l k) (dR l k).i.jK.length
def VX (a:aY):aY:=⟨a.page,a.aQ,a.jL,false⟩
def pF (L:List aY):Nat->List aY
 | 0=>L
 | k+1=>(pF L k).set k (VX (bC (pF L k) k))
def rY (l:List kr):List aY:=(Ch l l.length).map VX
theorem QL (o:kr) (L:List aY) (h:dO L):∀k,dO (Fy o L k)
 | 0=>h
 | k+1=>Sp _ _ _ _
theorem Jo (l:List kr):∀k,dO (Ch l k)
 | 0=>EF
 | k+1=>QL _ _ (Jo l k) _
theorem yO (L:List aY):∀k,(pF L k).length=L.length
 | 0=>rfl
 | k+1=>by simp only[pF,fC,yO L k]
theorem KE (L:List aY):∀k,k<=L.length->∀j,(pF L k)[j]?=if j<k then L[j]?.map VX else L[j]?
 | 0,_,j=>by rfl
 | k+1,hk,j=>by
  have ih:=KE L k (by omega)
  grind [bC,pF]
theorem VW (L:List aY):pF L L.length=L.map VX:=by
 apply Dw
 grind [KE]
theorem CY (b:Bool):∀(L:List aY) (k:Nat),k<L.length->(cR L).set (k*4+3) (.bool b)=cR (L.set k ⟨(bC L k).page,(bC L k).aQ,(bC L k).jL,b⟩)
 | [],k,h=>by simp at h
 | a::r,0,h=>rfl
 | a::r,k+1,h=>by
  have ih:=CY b r k (by grind);show(o8 a++cR r).set _ _=o8 a++cR (r.set k _);rw[AV _ _ (by simp[o8];omega)];congr 1;have e:(k+1)*4+3-(o8 a).length=k*4+3:=by grind [o8]
  rw[e,ih];rfl
open Go.RowKit
theorem zk {lo:Nat} {w w':World} {v:Value} {l:List aY} (h:ez lo w v l) (hb:Below w.heap.size w w'):ez lo w' v l:=DD h hb
theorem DF {lo:Nat} {w:World} {v:Value} {l:List aY} (h:ez lo w v l):∃ao cap,v=.slice ao l.length cap/\(0<l.length->∃g,ao=some (Ad g 0)):=by
 rcases h.2 with⟨hv,h0⟩ | ⟨g,cap,cur,hv,_⟩
 · grind
 grind
theorem Qw (l:List kr) (ao:Option Addr) (cap:Nat) (w:World) (h:QA l ao w) (hl7:l.length<=7) :
  Calls Tryz.prog 67 #[.slice ao l.length cap] w fun e w'=>∃r,e=.returned r/\ez w.heap.size w' r (rY l)/\Below w.heap.size w w':=by
 have HO:=aA h;clear h;go_enter Tryz.func67,Tryz.ntmps67;go_wp2;go_loopw [11,3] (fun i v wr=>∃(a:Nat),a<=l.length/\i=I a/\ez w.heap.size wr v (Ch l a)/\Below w.heap.size w wr) (fun i _ _=>l.length-(intOf i).toNat)
 case atStart=>exact⟨0,by omega,rfl,ez.nil _ _,aK _ _⟩
 case round =>
  obtain⟨a,hal,rfl,hown,hb⟩:=hrel;have HOW:=aA hown;have AH:=aA hb;by_cases hlt:a<l.length
  · have HOr:=aA (HO.o.below hb);obtain⟨b,off,hao,hbl,eY⟩:=HOr.o.has (by omega);obtain⟨⟨c0,c1,c2,c3,c4,c5,c6⟩,him⟩:=eY a hlt;have hbs:=HO.o.base a hlt;have Hj:=HO.o.chk a hlt;obtain⟨b2,ajs,afB,adO,Yz⟩:=HO.o.has (by omega);have aaZ:=(Yz a hlt).2;have wW:Hid (Ch l (a+1)=Fy (dR l a) (Ch l a) (dR l a).i.jK.length):=rfl;obtain⟨o,ho⟩:=ex (dR l a);rw[<- ho] at c0 c1 c2 c3 c4 c5 c6 aaZ hbs Hj wW;have Fe:=aA (Jo l a);obtain⟨L,hL⟩:=ex (Ch l a);rw[<- hL] at HOW wW Fe;have hcn:=wk Hj;have HSB:=aA (xQ Hj);obtain⟨bs,Yr,hag,ajT,hlg⟩:=aaZ.jK (by omega);have HLG:=aA hlg;rw[hag] at c2;clear ho hL eY hb hown him hlg hag aaZ Yz afB adO Hj;subst hao;have jk:=aA (AH.o.alloc AH.o.size (.cells #[.string o.i.name,.slice o.a.an o.i.needs.length o.a.cn,.slice (some (Ad bs Yr)) o.i.jK.length o.a.cg,.slice o.a.ay o.i.syms.length o.a.cy,.slice o.a.ar o.i.qd.length o.a.cr,I o.i.entry,I o.base] 131));have Jy:=aA ((aK wr.heap.size wr).alloc (aD _) (.cells #[.string o.i.name,.slice o.a.an o.i.needs.length o.a.cn,.slice (some (Ad bs Yr)) o.i.jK.length o.a.cg,.slice o.a.ay o.i.syms.length o.a.cy,.slice o.a.ar o.i.qd.length o.a.cr,I o.i.entry,I o.base] 131));have BO:=aA (bB wr #[.string o.i.name,.slice o.a.an o.i.needs.length o.a.cn,.slice (some (Ad bs Yr)) o.i.jK.length o.a.cg,.slice o.a.ay o.i.syms.length o.a.cy,.slice o.a.ar o.i.qd.length o.a.cr,I o.i.entry,I o.base] 131);have HOA:=aA (zk HOW.o Jy.o);go_wp2;obtain⟨W1,hW1⟩:=ex (wr.alloc (.cells #[.string o.i.name,.slice o.a.an o.i.needs.length o.a.cn,.slice (some (Ad bs Yr)) o.i.jK.length o.a.cg,.slice o.a.ay o.i.syms.length o.a.cy,.slice o.a.ar o.i.qd.length o.a.cr,I o.i.entry,I o.base] 131));rw[<- hW1] at jk Jy BO HOA;rw[<- hW1];obtain⟨ob,hob⟩:=ex wr.heap.size;rw[<- hob] at BO;rw[<- hob];clear hW1 hob Jy HOW AH HOr c0 c1 c2 c3 c4 c5 c6 hbl;go_loopw [19,3] (fun i v wm=>∃(k:Nat),k<=o.i.jK.length/\i=I k/\ez w.heap.size wm v (Fy o L k)/\Below w.heap.size w wm/\Below W1.heap.size W1 wm) (fun i _ _=>o.i.jK.length-(intOf i).toNat)
    case atStart=>exact⟨0,by omega,rfl,HOA.o,jk.o,aK _ _⟩
    case round =>
     obtain⟨k,hk,rfl,hown,hb,hb1⟩:=hrel;have HOW:=aA hown;have HBm:=aA hb;have cH:=aA hb1;clear HOA jk;by_cases hlk:k<o.i.jK.length
     · obtain⟨c0,c1,c2,c3,c4⟩:=zV hb ajT HLG.o k hlk;have Jh:=HSB.o k hlk;have HFK:=aA (QL o L Fe.o k);have HKX:Hid (Fy o L (k+1)=MC o (Fy o L k) (eN o.i.jK k)):=rfl;obtain⟨s,hse⟩:=ex (eN o.i.jK k);rw[<- hse] at c0 c1 c2 c3 c4 Jh HKX;clear hse;obtain⟨L2,hL2⟩:=ex (Fy o L k);rw[<- hL2] at HOW HFK HKX;clear hL2;obtain⟨pg,pn,dt,wb,qZ0⟩:=s;simp only at c0 c1 c2 c3 c4 Jh;have jk:=aA (HBm.o.alloc HBm.o.size (.cells #[I pg,I pn,.string dt,.bool wb,.bool qZ0] 166));have Jy:=aA ((aK wr.heap.size wr).alloc (aD _) (.cells #[I pg,I pn,.string dt,.bool wb,.bool qZ0] 166));have BS:=aA (bB wr #[I pg,I pn,.string dt,.bool wb,.bool qZ0] 166);have BOA:=aA (bk (aN BO.o cH.o (aJ BO.o)) (.cells #[I pg,I pn,.string dt,.bool wb,.bool qZ0] 166));have akP:=aA (cH.o.alloc cH.o.size (.cells #[I pg,I pn,.string dt,.bool wb,.bool qZ0] 166));have am1:=aA (zk HOW.o Jy.o);clear hown hb hb1;go_wp2;obtain⟨WA,lu⟩:=ex (wr.alloc (.cells #[I pg,I pn,.string dt,.bool wb,.bool qZ0] 166));rw[<- lu] at jk BS BOA akP am1;rw[<- lu];obtain⟨sb,aaW⟩:=ex wr.heap.size;rw[<- aaW] at BS;rw[<- aaW];clear lu aaW Jy HOW HBm cH c0 c1 c2 c3 c4;have HS:Hid (∀V,Below WA.heap.size WA V->V.cell? (Ad ob 6)=some (I o.base)/\V.cell? (Ad sb 0)=some (I pg)/\V.cell? (Ad sb 1)=some (I pn)/\V.cell? (Ad sb 2)=some (.string dt)/\V.cell? (Ad sb 3)=some (.bool wb)/\V.cell? (Ad sb 4)=some (.bool qZ0)):=fun V hb=>by
        have h1:=aN BOA.o hb (aJ BOA.o);have h2:=aN BS.o hb (aJ BS.o);exact⟨aq h1 6 rfl,aq h2 0 rfl,aq h2 1 rfl,aq h2 2 rfl,aq h2 3 rfl,aq h2 4 rfl⟩
       have Bv:Hid (∀V,Calls Tryz.prog 116 #[.agg #[I pg,I pn,.string dt,.bool wb,.bool qZ0]] V fun e w'=>e=.returned (I (vW ⟨pg,pn,dt,wb,qZ0⟩))/\Below V.heap.size V w'):=fun V=>YP ⟨pg,pn,dt,wb,qZ0⟩ V
       have UX:Hid (∀V,Below WA.heap.size WA V->Calls Tryz.prog 115 #[u3,I (o.base+pg),I pn,I (vW ⟨pg,pn,dt,wb,qZ0⟩)] V fun e w'=>∃r,e=.returned (.tuple #[r,I (dK L2 (o.base+pg) pn (vW ⟨pg,pn,dt,wb,qZ0⟩)).2])/\ez V.heap.size w' r (dK L2 (o.base+pg) pn (vW ⟨pg,pn,dt,wb,qZ0⟩)).1/\Below V.heap.size V w'):=fun V hb=>Sm L2 u3 (o.base+pg) pn _ V (zk am1.o hb).has HFK.o (by unfold ux;omega) (by unfold ux;omega)
       have HMS:Hid (MC o L2 ⟨pg,pn,dt,wb,qZ0⟩=(dK L2 (o.base+pg) pn (vW ⟨pg,pn,dt,wb,qZ0⟩)).1):=rfl;obtain⟨PR,hPR⟩:=ex (vW ⟨pg,pn,dt,wb,qZ0⟩);rw[<- hPR] at Bv UX HMS;obtain⟨MN,hMN⟩:=ex (dK L2 (o.base+pg) pn PR);rw[<- hMN] at UX HMS;clear hPR hMN;have hwr:IntKind.i64.wrap (o.base+pg)=o.base+pg:=vN _ (by omega);have ub:=aA (aK WA.heap.size WA).drew;have nU:=aA (HS.o _ ub.o)
       go_region_held3 (fun V=>V.cell? (Ad ob 6)=some (I o.base)/\V.cell? (Ad sb 0)=some (I pg)/\V.cell? (Ad sb 1)=some (I pn)/\V.cell? (Ad sb 2)=some (.string dt)/\V.cell? (Ad sb 3)=some (.bool wb)/\V.cell? (Ad sb 4)=some (.bool qZ0)) (first | exact sL.o | exact sk.o | exact nU.o)
        (first
         | (go_at_call 116;refine(Bv.o _).mono ?_;rintro e w2 ⟨rfl,hb⟩;have pq:=aA (ub.o.trans (hb.mono ub.o.size));have sk:=aA (HS.o _ pq.o);clear hb)
         | (go_at_call 115;refine(UX.o _ pq.o).mono ?_;rintro e w3 ⟨v8,rfl,hrw,hb⟩;have zG:=aA (pq.o.trans (hb.mono pq.o.size));have sL:=aA (HS.o _ zG.o);have HR3:=aA hrw;clear hb hrw))
       go_wp2;go_roundw
       case rel=>exact⟨k+1,by omega,by go_num,by rw[HKX.o,HMS.o];exact HR3.o.mono (gu jk.o.size pq.o.size),jk.o.trans (zG.o.mono jk.o.size),akP.o.trans (zG.o.mono akP.o.size)⟩
       case measure=>simp[intOf];omega
     · obtain rfl:k=o.i.jK.length:=by omega
       clear hown hb hb1;go_wp2;go_roundw
       case rel=>exact⟨a+1,by omega,by go_num,by rw[wW.o];exact HOW.o,HBm.o⟩
       case measure=>simp[intOf];omega
  · obtain rfl:a=l.length:=by omega
    have HAN:Hid (rY l=pF (Ch l l.length) (Ch l l.length).length):=(VW _).symm;have Fe:=aA (Jo l l.length);obtain⟨L,hL⟩:=ex (Ch l l.length);rw[<- hL] at HOW HAN Fe;have hll:=Fe.o.2;obtain⟨ar,cr,hv,hg⟩:=DF HOW.o;subst hv;have HG:=aA hg;clear hown hb hL hg Fe;go_wp2;go_loopw [41] (fun i wr=>∃(k:Nat),k<=L.length/\i=I k/\ez w.heap.size wr (.slice ar L.length cr) (pF L k)/\Below w.heap.size w wr) (fun i _=>L.length-(intOf i).toNat)
    case atStart=>exact⟨0,by omega,rfl,HOW.o,AH.o⟩
    case round =>
     obtain⟨k,hk,rfl,hown,hb⟩:=hrel;have aim:=aA hown;have anp:=aA hb;clear HOW AH hown hb;by_cases hlt:k<L.length
     · obtain⟨g,hg⟩:=HG.o (by omega);subst hg;have hln:=yO L k;have HO4:Hid (wr.ownsRow w.heap.size 139 4 (.slice (some (Ad g 0)) L.length cr) L.length (cR (pF L k))):=by
        have h:=aim.o;unfold ez at h;rw[hln] at h;exact h
       have HST:=aA (HO4.o.stored (k*4+3) (.bool false));have wW:Hid (cR (pF L (k+1))=(cR (pF L k)).set (k*4+3) (.bool false)):=(CY false (pF L k) k (by omega)).symm;have hlx:=yO L (k+1);have HLX:=aA hlx;have hgl:=HO4.o.lt g rfl;have q3:=(HO4.o.cellAt (k*4+3) (by omega)).trans (mN (pF L k) k 3 (by omega) (by omega));have qf:=HO4.o.frozenAt (k*4+3);clear hln hlx;go_wp2;go_roundw
       case rel=>exact⟨k+1,by omega,by go_num,by unfold ez;rw[HLX.o,wW.o];exact HST.o.1,anp.o.setCell (by simp;omega) _⟩
       case measure=>simp[intOf];omega
     · obtain rfl:k=L.length:=by omega
       go_wp2;go_ret;exact⟨_,rfl,by rw[HAN.o];exact aim.o,anp.o⟩
open Go.RowKit
def qy (x:iW):List Value:=(jM x.a x.i).toList
def l8 (all:List iW):Int :=
 if 7<all.length then 2
 else if oM all=0 then
  match MD all all.length 0 [0] with
  | none=>6
  | some ix=>if 256<jO all 1 ix then 3 else
   match sV (eV all 1 ix) with
   | none=>7
   | some _=>0
 else oM all
theorem S4 {l:List iW} (h:oM l=0):(∀k,k<l.length->mC (cD l k).i=0)/\xP (kj l)=true:=by
 grind [oM,Il]
theorem Y2 {all:List iW} (hc:∀j,j<all.length->mC (cD all j).i=0) (h7:all.length<=7) {ix:List Nat} (ho:Hn all ix) (k:Nat) (hk:k<(eV all 1 ix).length):1<=(dR (eV all 1 ix) k).base/\(dR (eV all 1 ix) k).base<=2000:=by
 rw[kH] at hk;rw[(uB all ix 1 k hk).2.2];have h:=Be all hc (ix.take k) 1 (fun j hj=>ho.lt j (List.mem_of_mem_take hj));have h2:=ho.le
 grind
open Go.RowKit
theorem ad1:(Tryz.prog.info? 56).map (fun i=>(i.zero,i.size,i.bytes))=some (some (.agg #[.string ⟨#[]⟩,Nl,Nl,Nl,Nl,I 0]),6,120):=by rfl
theorem YT {w:World} {b off:Nat} {l:List iW} (h:KI w b off l):∀j u,(l.flatMap qy)[j]?=some u->w.cell? (((Ad b off):Addr).add j)=some u:=fun j u hj=>by
 obtain⟨k,r,hr,rfl⟩:∃k r,r<6/\j=k*6+r:=⟨j/6,j%6,by omega,by omega⟩;have hlen:∀l:List iW,(l.flatMap qy).length=l.length*6:=fun l=>by
  induction l with
  | nil=>rfl
  | cons a r ih=>rw[nV,fM,ih,xN];show 6+_=_;omega
 have hk:k<l.length:=by
  grind
 rw[vv qy 6 (fun _=>rfl) abB l k r hk hr] at hj;obtain⟨⟨c0,c1,c2,c3,c4,c5⟩,_⟩:=h k hk;rw[tO,<- za]
 match r,hr with
 | 0,_=>exact c0.trans hj
 | 1,_=>exact c1.trans hj
 | 2,_=>exact c2.trans hj
 | 3,_=>exact c3.trans hj
 | 4,_=>exact c4.trans hj
 | 5,_=>exact c5.trans hj
theorem adW {w:World} {base:Nat} {g cap:Nat} {l:List iW} (h:w.ownsRow base 56 6 (.slice (some (Ad g 0)) l.length cap) l.length (l.flatMap qy)) (hg:g<w.heap.size) (hi:∀k,k<l.length->qm w (cD l k).a (cD l k).i) :
  DM w (some (Ad g 0)) l:=fun hl=>by
 refine⟨g,0,rfl,hg,fun k hk=>?_⟩;rw[lZ];have hh:∀j,j<6->w.cell? (Ad g (k*6+j))=(qy (cD l k))[j]?:=fun j hj=>(h.cellAt _ (by omega)).trans (vv qy 6 (fun _=>rfl) abB l k j hk hj)
 exact⟨⟨hh 0 (by omega),hh 1 (by omega),hh 2 (by omega),hh 3 (by omega),hh 4 (by omega),hh 5 (by omega)⟩,hi k hk⟩
theorem E8 {ops:Array Oper} {rest:List Oper} {o:Oper} {a:Act} {w:World} {Q:Exit->Act->World->Prop} (hgd:o.guard=none) (s x:Operand)
  (ho:o.op=.call { callee:=.builtin .append,args:=#[s,x],argTypes:=#[57,57] })
  (base:Nat) (p:iW) (g0:Nat) (hs:a.eval s=.slice (some (Ad g0 0)) 1 1) (hown:w.ownsRow base 56 6 (.slice (some (Ad g0 0)) 1 1) 1 (qy p))
  (ao:Option Addr) (c:Nat) (libs:List iW) (hx:a.eval x=.slice ao libs.length c) (eY:DM w ao libs) (h6:libs.length<=6) (hbase:base<=w.heap.size)
  (h:∀g cap w',w'.ownsRow base 56 6 (.slice (some (Ad g 0)) (libs.length+1) cap) (libs.length+1) ((p::libs).flatMap qy)->w.grownBy w' (some g0)->g<w'.heap.size->wpList Tryz.prog ops Q rest (a.put o.dst (.slice (some (Ad g 0)) (libs.length+1) cap)) w'):wpList Tryz.prog ops Q (o::rest) a w:=by
 obtain⟨i0,hin,hz0,hz1,hz2⟩:=jy ad1;by_cases h0:0<libs.length
 · obtain⟨b,off,rfl,hb,hl⟩:=eY h0;have hlen:∀l:List iW,(l.flatMap qy).length=l.length*6:=fun l=>by
    induction l with
    | nil=>rfl
    | cons a r ih=>rw[nV,fM,ih,xN];show 6+_=_;omega
   have hone:∀u∈libs.flatMap qy,u.oneCell'=true:=fun u hu=>by
    obtain⟨y,_,hy⟩:=vO.1 hu;simp only[qy,jM] at hy;simp at hy;rcases hy with rfl | rfl | rfl | rfl | rfl | rfl <;> rfl
   refine Pr w hgd s x 57 ho base 56 i0 (.agg #[.string ⟨#[]⟩,Nl,Nl,Nl,Nl,I 0]) 6 120 Tryz.underlying57 hin hz0 hz1 hz2 rfl (by decide) _ 1 _ hs hown (Ad b off) libs.length c (libs.flatMap qy) hx (hlen _) (YT hl) hone h0 (by grind [maxLen]) (by omega) hbase _ rfl ?_;intro g cap w' h2 h3 _ h5;have e:1+libs.length=libs.length+1:=Nat.add_comm _ _;rw[e] at h2 ⊢;exact h g cap w' h2 h3 h5
 · have e0:libs=[]:=lj (by omega);subst e0;have hg0:g0<w.heap.size:=(hown.lt g0 rfl).2;refine wpList_plain hgd fun K hK=>?_
   have hsrc:Src Tryz.prog i0.size 57 (.slice ao 0 c) 0 [] w:=⟨.inl ⟨_,Tryz.underlying57⟩,fun w'=>by rfl,by cases ao <;> simp[Builtin.firstCells,loadCells,loadCellsFrom],by cases ao <;> simp[Builtin.firstCells,loadCells,loadCellsFrom],by simp,by simp⟩;have hr:=run_append_nothing (P:=Tryz.prog) w 57 57 o.type 56 i0 Tryz.underlying57 hin (some (Ad g0 0)) 1 1 (aD _) (.slice ao 0 c) hsrc;have hx':a.eval x=.slice ao 0 c:=hx;unfold Oper.wp execOp;simp only[ho,resolve,invoke,builtin,Sem.run_bind,Sem.run_pure,Vi,List.map_toArray,y9,List.map_nil,hs,hx',hr];refine hK _ _ (h g0 1 w ?_ ⟨rfl,rfl,rfl,aD _,fun _ _ _=>rfl⟩ hg0)
   grind
open Go.RowKit Go.WideMaps Go.Maps
def adg (all:List iW) (w:World) (e:Ending) (w':World):Prop:=Below w.heap.size w w' /\
 if l8 all=0 then ∃(ix:List Nat) (E:List Fz) (r:Value) (hs:List bG) (ao:Option Addr) (cap:Nat),MD all all.length 0 [0]=some ix/\sV (eV all 1 ix)=some E/\hs.map gp=E /\
  e=.returned (.tuple #[.agg #[r,.slice ao hs.length cap,I (yq (dR (eV all 1 ix) 0) (cD all 0).i.entry)],I 0])/\ez w.heap.size w' r (rY (eV all 1 ix))/\jB w' ao hs/\hs.length<=cap
 else e=.returned (.tuple #[.agg #[Nl,Nl,I 0],I (l8 all)])
theorem tQ (V:World) (rb b j:Nat) (u0 u1 u2:Value) (h:b≠rb):(((V.setCell (Ad rb 0) u0).setCell (Ad rb 1) u1).setCell (Ad rb 2) u2).cell? (Ad b j)=V.cell? (Ad b j):=by
 grind [World.cell?_setCell_far]
def Kn (V:World) (rb:Nat) (u0 u1 u2:Value):World:=((V.setCell (Ad rb 0) u0).setCell (Ad rb 1) u1).setCell (Ad rb 2) u2
theorem Km (V:World) (rb:Nat) (u0 u1 u2:Value):(Kn V rb u0 u1 u2).heap.size=V.heap.size:=by simp[Kn]
theorem YS {V:World} {rb b off:Nat} {t:TypeId} {x:Int} {y:ByteArray} (h:V.heap[rb]?=some (.cells #[Nl,Nl,I 0] t (0,0))) (c0:V.cell? (Ad b off)=some (I x)) (c1:V.cell? (Ad b (off+1))=some (.string y)):b≠rb:=fun e=>by
 grind [World.cell?]
theorem VN {V:World} {rb:Nat} {t:TypeId} (h:V.heap[rb]?=some (.cells #[Nl,Nl,I 0] t (0,0))) {ao:Option Addr} {l:List mL} (g:qZ V ao l) (u0 u1 u2:Value):qZ (Kn V rb u0 u1 u2) ao l:=fun hl=>by
 obtain⟨b,off,e,hb,eY⟩:=g hl;obtain⟨c0,c1⟩:=eY 0 hl;have hne:=YS h c0 c1;refine⟨b,off,e,by grind [Km],fun k hk=>?_⟩;obtain⟨d0,d1⟩:=eY k hk;exact⟨(tQ V rb b _ u0 u1 u2 hne).trans d0,(tQ V rb b _ u0 u1 u2 hne).trans d1⟩
theorem VM {V:World} {rb:Nat} {t:TypeId} (h:V.heap[rb]?=some (.cells #[Nl,Nl,I 0] t (0,0))) {ao:Option Addr} {l:List bG} (g:jB V ao l) (u0 u1 u2:Value):jB (Kn V rb u0 u1 u2) ao l:=fun hl=>by
 obtain⟨b,off,e,hb,eY⟩:=g hl;obtain⟨c0,c1,_,_⟩:=eY 0 hl;have hne:=YS h c0 c1;refine⟨b,off,e,by grind [Km],fun k hk=>?_⟩;obtain⟨d0,d1,d2,d3⟩:=eY k hk;exact⟨(tQ V rb b _ u0 u1 u2 hne).trans d0,(tQ V rb b _ u0 u1 u2 hne).trans d1,(tQ V rb b _ u0 u1 u2 hne).trans d2,VN h d3 u0 u1 u2⟩
theorem YR {V:World} {rb lo:Nat} {v:Value} {l:List aY} (h:ez lo V v l) (hlt:rb<lo) (u0 u1 u2:Value):ez lo (Kn V rb u0 u1 u2) v l :=
 He (He (He h hlt _) hlt _) hlt _
open Go.RowKit
open Go.RowKit
open Go.RowKit
open Go.RowKit
open Go.RowKit
open Go.RowKit
section
variable {σ:Type} {Hd:World->(Nat->Prop)->σ->Prop} {Ok:σ->List Bool->Prop} {o:gH σ} {lo mb gb:Nat} {w w':World} {D:Nat->Prop} {vr vo:Value} {st:df σ}
end
open Go.RowKit
open Go.RowKit
open Go.RowKit
open Go.RowKit
open Go.RowKit
end Go.Proofs.YtlgoihmkgaaemaaGreat
