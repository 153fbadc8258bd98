import Derived.Test.YtlgoihmkgaaemaaGreatGN36
set_option maxHeartbeats 20000000
set_option linter.unusedVariables false
set_option maxRecDepth 100000
set_option linter.unusedSimpArgs false
namespace Go.Proofs.YtlgoihmkgaaemaaGreat
open Go.RowKit
theorem TD (c:Int) (n:Nat) (hc:cO c) (h0:0<n) (hn:n<=140737488351233) (w:World):Calls Tryz.prog 28 #[I c,I (n:Int)] w fun e w'=>∃k:Nat,e=.returned (I (k:Int))/\k<n/\Below w.heap.size w w':=by
 obtain⟨hc1,hc2⟩:=hc;have key:∀x:Int,0<=x->∃k:Nat,x.tmod (n:Int)=(k:Int)/\k<n:=fun x hx=>by
  refine⟨(x.tmod (n:Int)).toNat,?_,?_⟩
  · have:=Int.tmod_nonneg (n:Int) hx;omega
  · have:=Int.tmod_lt_of_pos x (show(0:Int)<(n:Int) by omega);omega
 by_cases c0:c<0
 · obtain⟨k,e1,e2⟩:=key (-(c+1)) (by omega);rw[Int.neg_tmod] at e1;have E1:=ai e1;have hz:¬(n:Int)=0:=by omega
   clear key e1;go_enter Tryz.func28,Tryz.ntmps28;go_wp2;go_ret;refine⟨k,?_,e2,aK _ _⟩;show Ending.returned (I (-((c+1).tmod (n:Int))))=_;rw[E1.o]
 · obtain⟨k,e1,e2⟩:=key c (by omega);rw[U7 (by omega)] at e1;have E1:=ai e1;have hz:¬(n:Int)=0:=by omega
   clear key e1;go_enter Tryz.func28,Tryz.ntmps28;go_wp2;go_ret;refine⟨k,?_,e2,aK _ _⟩;show Ending.returned (I (c%(n:Int)))=_;rw[E1.o]
theorem aeu {w:World} {ap:Option Addr} {l:List Int} (h:oV w ap l) (k:Nat) (hk:k<=l.length):oV w ap (l.take k):=fun h0=>by
 rw[qM] at h0;obtain⟨b,off,e,hlt,hc⟩:=h (by omega);refine⟨b,off,e,hlt,fun i hi=>?_⟩;rw[qM] at hi;rw[hc i (by omega)];simp[List.getD,UQ,show i<k by omega]
theorem aev {w:World} {b off:Nat} {l:List Int} (h:oV w (some (Ad b off)) l) (k:Nat) (hk:k<=l.length):oV w (some (Ad b (off+k))) (l.drop k):=fun h0=>by
 rw[y8] at h0;obtain⟨b',off',e,hlt,hc⟩:=h (by omega);injection e with e;injection e with e1 e2;subst e1 e2;refine⟨b,off+k,rfl,hlt,fun i hi=>?_⟩;rw[y8] at hi;rw[xL,hc (k+i) (by omega)];simp[List.getD,Pe]
theorem Rk {N:Nat} {m:iF} {x:Nat} {v0 v1 v2 v3 v4 v5 v6 z0 z1 z2 z3 z4 z5 z6:Value} {w:World} (h:gD N m #[v0,v1,v2,v3,v4,v5,v6] w) (hx:w.heap[x]?=some (.cells #[z0,z1,z2,z3,z4,z5,z6] 34 (0,0))) (hN:x<N):En x m #[v0,v1,v2,v3,v4,v5,v6] (((((((w.setCell (Ad x 0) v0).setCell (Ad x 1) v1).setCell (Ad x 2) v2).setCell (Ad x 3) v3).setCell (Ad x 4) v4).setCell (Ad x 5) v5).setCell (Ad x 6) v6) :=
 ⟨fh (fh (fh (fh (fh (fh (fh hx 0 _) 1 _) 2 _) 3 _) 4 _) 5 _) 6 _,N,h.later ((pO w x v0 v1 v2 v3 v4 v5 v6).mono (fun b _ e=>by rw[e];exact hN))⟩
theorem LC {N:Nat} {w0 w:World} {x:Nat} (v0 v1 v2 v3 v4 v5 v6:Value) (hb:Below N w0 w) (hx:N<=x) (hN:N<=w.heap.size):Below N w0 (((((((w.setCell (Ad x 0) v0).setCell (Ad x 1) v1).setCell (Ad x 2) v2).setCell (Ad x 3) v3).setCell (Ad x 4) v4).setCell (Ad x 5) v5).setCell (Ad x 6) v6):=aD.below hb (pO w x v0 v1 v2 v3 v4 v5 v6) hN (fun b e=>by rw[e];exact hx)
theorem Z7 {m:iF} (h:dh dn (gG m)) (picks:List Int) (k:Nat) (hk:k<=picks.length):(dU m picks).2=2∨((dU m picks).2=0/\(dU m (picks.take k)).2=0/\dh dn (gG (dU m picks).1)/\dh dn (gG (dU m (picks.take k)).1)/\dU (dU m (picks.take k)).1 (picks.drop k)=((dU m picks).1,0)):=by
 obtain⟨p1,p2⟩:=WC h k hk;rcases ab1 h picks with e | e
 · by_cases c:(dU m (picks.take k)).2=0
   · exact .inr ⟨e,c,NN h e,NN h c,by rw[p2 e c];exact Prod.ext rfl e⟩
   · exact .inl (p1 c)
 · exact .inl e.1
theorem WY (l:List aX) (hs:List bJ) (en nf ns cut:Int) (aa ao:Option Addr) (na ca cap:Nat) (picks:List Int) (ap:Option Addr) (cp:Nat) (w:World) (ha:fZ w (.slice aa na ca) l) (hf:dO l) (h:iT w ao hs) (PX:rD hs) (hcap:hs.length<=cap) (he:cO en) (hn:oV w ap picks) (hps:0<picks.length->∀b,ap=some b->b.block<w.heap.size) (hpl:picks.length<=140737488351232) (E8:picks.length<=cp) (hct:cO cut)
  (hbg:∀V,Calls Tryz.prog 13 #[] V fun e w'=>e=.returned (.bool true)/\Below V.heap.size V w') :
  Calls Tryz.prog 8 #[.agg #[.slice aa na ca,.slice ao hs.length cap,I en],I nf,I ns,.slice ap picks.length cp,I cut] w fun e w'=>e=.returned (.bool true)/\Below w.heap.size w w':=by
 have hcs:=Lx l hs en nf ns he;have HN1:Hid (∀V,Below w.heap.size w V->Calls Tryz.prog 10 #[.agg #[.slice aa na ca,.slice ao hs.length cap,I en],I nf,I ns] V (Bu V (qd l hs en nf ns).1 (qd l hs en nf ns).2)):=fun V hV=>(NP l hs en nf ns _ ao cap V (ha.below hV) hf (h.below hV) PX hcap he).mono fun e w' ho=>LB ho
 have hcs:¬(qd l hs en nf ns).2=0∨((qd l hs en nf ns).2=0/\dh dn (gG (qd l hs en nf ns).1)):=by
  rcases hcs with c | ⟨_,_,_,_,_,_,c,d⟩
  · exact .inl c
  · rw[c];exact .inr ⟨rfl,d⟩
 obtain⟨R1,JK⟩:∃R,R=qd l hs en nf ns:=⟨_,rfl⟩;rw[<- JK] at hcs HN1;obtain⟨M1,er1⟩:=R1;simp only at HN1 hcs;have HBG:=ai hbg;have JL:Hid (∀V,Calls Tryz.prog 28 #[I cut,I ((picks.length:Int)+1)] V fun e w'=>∃k:Nat,e=.returned (I (k:Int))/\k<=picks.length/\Below V.heap.size V w'):=fun V=>(TD cut (picks.length+1) hct (by omega) (by omega) V).mono fun e w' ⟨k,h1,h2,h3⟩=>⟨k,h1,by omega,h3⟩
 have HRN:Hid (∀(m:iF),dh dn (gG m)->∀N c V,Below w.heap.size w V->gD N m c V->Calls Tryz.prog 20 #[.agg c,.slice ap picks.length cp] V (Bu V (dU m picks).1 (dU m picks).2)):=fun m hm N c V hV hk=>(Br hk hm picks ap cp (adk.below hn hV) (fun g b hb=>fL (hps g b hb) hV.size) hpl).mono fun e w' ho=>LB ho
 have Ef:Hid (∀(m:iF),dh dn (gG m)->∀k:Nat,k<=picks.length->∀N c V cq,Below w.heap.size w V->gD N m c V->Calls Tryz.prog 20 #[.agg c,.slice ap k cq] V (Bu V (dU m (picks.take k)).1 (dU m (picks.take k)).2)):=fun m hm k hk N c V cq hV hK=>by
  have hl:(picks.take k).length=k:=by rw[qM];omega
  have:=(Br hK hm (picks.take k) ap cq (adk.below (aeu hn k hk) hV) (fun g b hb=>fL (hps (by rw[hl] at g;omega) b hb) hV.size) (by omega)).mono fun e w' ho=>LB ho
  rw[hl] at this;exact this
 have Hw:Hid (∀(m:iF),dh dn (gG m)->∀k:Nat,k<=picks.length->∀N c V aq cq,(k<picks.length->∀b off,ap=some (Ad b off)->aq=some (Ad b (off+k)))->Below w.heap.size w V->gD N m c V->Calls Tryz.prog 20 #[.agg c,.slice aq ((picks.length-k:Nat):Nat) cq] V (Bu V (dU m (picks.drop k)).1 (dU m (picks.drop k)).2)):=fun m hm k hk N c V aq cq hq hV hK=>by
  have hl:(picks.drop k).length=picks.length-k:=y8;have hd:oV w aq (picks.drop k):=fun h0=>by
   obtain⟨b,off,e,_,_⟩:=hn (by omega);subst e;rw[hq (by omega) b off rfl];exact aev hn k hk h0
  have:=(Br hK hm (picks.drop k) aq cq (adk.below hd hV) (fun g b hb=>by
   obtain⟨b',off,e,_,_⟩:=hn (by omega);have e2:=hq (by omega) b' off e;rw[e2] at hb;injection hb with hb;subst hb;exact fL (hps (by omega) (Ad b' off) e) hV.size) (by omega)).mono fun e w' ho=>LB ho
  rw[hl] at this;exact this
 have hform:ap=none∨(∃b off,ap=some (Ad b off))∨picks.length=0:=by
  by_cases c:0<picks.length
  · obtain⟨b,off,e,_,_⟩:=hn c;exact .inr (.inl ⟨b,off,e⟩)
  · exact .inr (.inr (by omega))
 have HPT:Hid (∀(m:iF),dh dn (gG m)->∀k:Nat,k<=picks.length->(dU m picks).2=2∨((dU m picks).2=0/\(dU m (picks.take k)).2=0/\dh dn (gG (dU m picks).1)/\dh dn (gG (dU m (picks.take k)).1)/\dU (dU m (picks.take k)).1 (picks.drop k)=((dU m picks).1,0))):=fun m hm k hk=>Z7 hm picks k hk
 obtain⟨nh,hnh⟩:=ex hs.length;obtain⟨np,AA⟩:=ex picks.length;rw[<- hnh] at HN1 ⊢;rw[<- AA] at HRN Ef Hw JL HPT hform hpl E8 ⊢;have gK:=ai ((aK w.heap.size w).alloc (aI _) (.cells #[.slice aa na ca,.slice ao nh cap,I en] 25));have X0:=ai (bE w #[.slice aa na ca,.slice ao nh cap,I en] 25);have HFM:=ai hform;clear ha hf h PX hcap he hn hps hbg JK hnh AA hct hform;have HCS:=ai hcs;clear hcs;go_enter Tryz.func8,Tryz.ntmps8;go_upto_region 1 with fail;obtain⟨W0,hW⟩:=ex (w.alloc (.cells #[.slice aa na ca,.slice ao nh cap,I en] 25));obtain⟨x0,hx⟩:=ex w.heap.size;rw[<- hW] at gK X0 ⊢;rw[<- hx] at X0 ⊢;clear hW hx;obtain⟨y0,y1,y2⟩:=Ez X0.o;go_upto_region 2 with(go_at_call 10;refine(HN1.o _ gK.o).mono ?_;rintro e wa ⟨s0a,n0a,q0a,s1a,n1a,q1a,s2a,n2a,q2a,s3a,n3a,q3a,hda,s5a,q5a,s6a,q6a,rfl,hk,hb⟩;have Ka:=ai hk;have La:=ai hb;clear hk hb)
 have Va:=ai (Em Ka.o);have Da:=ai (La.o.alloc La.o.size (.cells #[.slice s0a n0a q0a,.slice s1a n1a q1a,.slice s2a n2a q2a,.slice s3a n3a q3a,I hda,.slice s5a M1.procs.length q5a,.slice s6a M1.out.length q6a] 34));obtain⟨Wa,hW⟩:=ex (wa.alloc (.cells #[.slice s0a n0a q0a,.slice s1a n1a q1a,.slice s2a n2a q2a,.slice s3a n3a q3a,I hda,.slice s5a M1.procs.length q5a,.slice s6a M1.out.length q6a] 34));obtain⟨xa,hx⟩:=ex wa.heap.size;rw[<- hW] at Va Da ⊢;rw[<- hx] at Va ⊢;clear hW hx Ka La;have Ba:=ai (gK.o.trans (Da.o.mono gK.o.size));clear y0 y1 y2 HN1 X0;rcases HCS.o with c | ⟨c,g1⟩
 · have cb:(er1==0)=false:=by rw[mF];exact c
   have cb2:(er1 != 0)=true:=by rw[bne_iff_ne];exact c
   clear c HCS HRN Ef Hw HPT JL;go_wp2_with (go_at_call 13;refine(HBG.o _).mono ?_;rintro e w3 ⟨rfl,hb⟩;have H3:=ai (Ba.o.trans (hb.mono Ba.o.size));clear hb)
   go_ret;exact⟨rfl,H3.o⟩
 subst c;clear HCS;have G1:=ai g1;clear g1;go_upto_region 5 with(go_at_call 28;refine(JL.o _).mono ?_;rintro e w2 ⟨k,rfl,hk,hb⟩;have L2:=ai hb;clear hb)
 have Va2:=ai (Va.o.below L2.o);have B2:=ai (Ba.o.trans (L2.o.mono Ba.o.size));have Sd:=ai (HPT.o M1 G1.o k hk);have HR1:Hid (∀N c V,Below w.heap.size w V->gD N M1 c V->Calls Tryz.prog 20 #[.agg c,.slice ap np cp] V (Bu V (dU M1 picks).1 (dU M1 picks).2)):=HRN.o M1 G1.o;have Cr:Hid (∀N c V cq,Below w.heap.size w V->gD N M1 c V->Calls Tryz.prog 20 #[.agg c,.slice ap k cq] V (Bu V (dU M1 (picks.take k)).1 (dU M1 (picks.take k)).2)):=Ef.o M1 G1.o k hk;have Uv:Hid (∀(m:iF),dh dn (gG m)->∀N c V aq cq,(k<np->∀b off,ap=some (Ad b off)->aq=some (Ad b (off+k)))->Below w.heap.size w V->gD N m c V->Calls Tryz.prog 20 #[.agg c,.slice aq (np-k) cq] V (Bu V (dU m (picks.drop k)).1 (dU m (picks.drop k)).2)):=fun m hm=>Hw.o m hm k hk
 obtain⟨ra,hra⟩:∃r,r=dU M1 picks:=⟨_,rfl⟩;obtain⟨rb,Hz⟩:∃r,r=dU M1 (picks.take k):=⟨_,rfl⟩;rw[<- hra] at HR1 Sd;rw[<- Hz] at Cr Sd;obtain⟨Q1,ea⟩:=ra;obtain⟨Q2,eb⟩:=rb;simp only at HR1 Cr Sd;clear hra Hz HRN Ef Hw HPT JL Va;obtain⟨k0,k1,k2,k3,k4,k5,k6⟩:=nR Va2.o.1;obtain⟨Na,ka⟩:=Va2.o.2;have KA:=ai ka;go_upto_region 6 with(go_at_call 20;refine(HR1.o _ _ _ B2.o KA.o).mono ?_;rintro e wc ⟨s0c,n0c,q0c,s1c,n1c,q1c,s2c,n2c,q2c,s3c,n3c,q3c,hdc,s5c,q5c,s6c,q6c,rfl,hk,hb⟩;have Kc:=ai hk;have Lc:=ai hb;clear hk hb)
 clear ka k0 k1 k2 k3 k4 k5 k6;have Vc:=ai (Em Kc.o);have Dc:=ai (Lc.o.alloc Lc.o.size (.cells #[.slice s0c n0c q0c,.slice s1c n1c q1c,.slice s2c n2c q2c,.slice s3c n3c q3c,I hdc,.slice s5c Q1.procs.length q5c,.slice s6c Q1.out.length q6c] 34));obtain⟨Wc,hW⟩:=ex (wc.alloc (.cells #[.slice s0c n0c q0c,.slice s1c n1c q1c,.slice s2c n2c q2c,.slice s3c n3c q3c,I hdc,.slice s5c Q1.procs.length q5c,.slice s6c Q1.out.length q6c] 34));obtain⟨xc,hx⟩:=ex wc.heap.size;rw[<- hW] at Vc Dc ⊢;rw[<- hx] at Vc ⊢;clear hW hx Kc Lc;have Bc:=ai (B2.o.trans (Dc.o.mono B2.o.size));have Va3:=ai (Va2.o.below Dc.o);have KA3:=ai (KA.o.below Dc.o);clear Va2 KA HR1 L2;obtain⟨k0,k1,k2,k3,k4,k5,k6⟩:=nR Va3.o.1;obtain⟨j0,j1,j2,j3,j4,j5,j6⟩:=nR (Va3.o.below ((aK _ _).alloc (aI _) (.cells #[Nl,Nl,Nl,Nl,I 0,Nl,Nl] 34)).drew).1;have hkc:(k:Int)<=(cp:Int):=by omega
 have hkn:(k:Int)<=(np:Int):=by omega
 have HE0:=ai ((aK Wc.heap.size Wc).drew);have HE1:Hid (Below Wc.heap.size Wc (Wc.alloc (.cells #[Nl,Nl,Nl,Nl,I 0,Nl,Nl] 34)).drew):=((aK Wc.heap.size Wc).alloc (aI _) _).drew;have HKV:Hid (∀V,Below Wc.heap.size Wc V->gD Na M1 #[.slice s0a n0a q0a,.slice s1a n1a q1a,.slice s2a n2a q2a,.slice s3a n3a q3a,I hda,.slice s5a M1.procs.length q5a,.slice s6a M1.out.length q6a] V/\Below w.heap.size w V):=fun V hV=>⟨KA3.o.below hV,Bc.o.trans (hV.mono Bc.o.size)⟩
 have HD0:=ai (HKV.o _ HE0.o);have HD1:=ai (HKV.o _ HE1.o);have HZ:Hid ((Wc.alloc (.cells #[Nl,Nl,Nl,Nl,I 0,Nl,Nl] 34)).drew.heap[Wc.heap.size]?=some (.cells #[Nl,Nl,Nl,Nl,I 0,Nl,Nl] 34 (0,0))):=bE Wc #[Nl,Nl,Nl,Nl,I 0,Nl,Nl] 34;clear HKV;go_cut [16,17] (fun x16 x17 wx=>∃xd s0d n0d q0d s1d n1d q1d s2d n2d q2d s3d n3d q3d hdd s5d q5d s6d q6d,x16=.pointer (some (Ad xd 0))/\x17=I eb/\En xd Q2 #[.slice s0d n0d q0d,.slice s1d n1d q1d,.slice s2d n2d q2d,.slice s3d n3d q3d,I hdd,.slice s5d Q2.procs.length q5d,.slice s6d Q2.out.length q6d] wx/\Below Wc.heap.size Wc wx)
 case first =>
  go_region_law (go_simp;go_at_call 20;first | (refine(Cr.o _ _ _ _ HD0.o.2 HD0.o.1).mono ?_;rintro e wd ⟨s0d,n0d,q0d,s1d,n1d,q1d,s2d,n2d,q2d,s3d,n3d,q3d,hdd,s5d,q5d,s6d,q6d,rfl,hk,hb⟩;have Kd:=ai hk;have Ld:=ai hb;clear hk hb;have LAST:=trivial) | (refine(Cr.o _ _ _ _ HD1.o.2 HD1.o.1).mono ?_;rintro e wd ⟨s0d,n0d,q0d,s1d,n1d,q1d,s2d,n2d,q2d,s3d,n3d,q3d,hdd,s5d,q5d,s6d,q6d,rfl,hk,hb⟩;have Kd:=ai hk;have Ld:=ai hb;clear hk hb;have XZ:=ai (aO HZ.o Ld.o (aJ HZ.o));obtain⟨z0,z1,z2,z3,z4,z5,z6⟩:=nR XZ.o;have zf:=aR XZ.o);go_simp)
  all_goals
   go_wp2_with fail
   go_meet
   case rel =>
    first
     | (have _:=LAST;exact⟨_,s0d,n0d,q0d,s1d,n1d,q1d,s2d,n2d,q2d,s3d,n3d,q3d,hdd,s5d,q5d,s6d,q6d,rfl,rfl,Em Kd.o,HE0.o.trans ((Ld.o.alloc Ld.o.size _).mono HE0.o.size)⟩)
     | exact⟨_,s0d,n0d,q0d,s1d,n1d,q1d,s2d,n2d,q2d,s3d,n3d,q3d,hdd,s5d,q5d,s6d,q6d,rfl,rfl,Rk Kd.o XZ.o (by simp),LC _ _ _ _ _ _ _ (HE1.o.trans (Ld.o.mono HE1.o.size)) (aI _) (HE1.o.trans (Ld.o.mono HE1.o.size)).size⟩
 case rest =>
  obtain⟨xd,s0d,n0d,q0d,s1d,n1d,q1d,s2d,n2d,q2d,s3d,n3d,q3d,hdd,s5d,q5d,s6d,q6d,rfl,rfl,hv,hb⟩:=hcut;have Vd:=ai hv;have Vc2:=ai (Vc.o.below hb);have Bd:=ai (Bc.o.trans (hb.mono Bc.o.size));clear hv hb Cr Va3 KA3 HE0 HE1 HD0 HD1 HZ Vc k0 k1 k2 k3 k4 k5 k6 j0 j1 j2 j3 j4 j5 j6;rcases Sd.o with rfl | ⟨rfl,rfl,g1,g2,heq⟩
  · clear Sd Uv;go_wp2_with (go_at_call 13;refine(HBG.o _).mono ?_;rintro e w3 ⟨rfl,hb⟩;have H3:=ai (Bd.o.trans (hb.mono Bd.o.size));clear hb)
    go_ret;exact⟨by simp,H3.o⟩
  have HR4:=Uv.o Q2 g2;rw[heq] at HR4;simp only at HR4;have HR4:=ai HR4;have G1:=ai g1;have G2:=ai g2;clear heq g1 g2 Sd Uv;obtain⟨WD,hWD⟩:∃WD,WD=wc:=⟨wc,rfl⟩;subst hWD;go_upto_region 9 with fail;obtain⟨k0,k1,k2,k3,k4,k5,k6⟩:=nR Vd.o.1;obtain⟨j0,j1,j2,j3,j4,j5,j6⟩:=nR (Vd.o.below ((aK _ _).alloc (aI _) (.cells #[Nl,Nl,Nl,Nl,I 0,Nl,Nl] 34)).drew).1;have HE0:=ai ((aK WD.heap.size WD).drew);have HE1:Hid (Below WD.heap.size WD (WD.alloc (.cells #[Nl,Nl,Nl,Nl,I 0,Nl,Nl] 34)).drew):=((aK WD.heap.size WD).alloc (aI _) _).drew;obtain⟨Nd,kd⟩:=Vd.o.2;have HKV:Hid (∀V,Below WD.heap.size WD V->gD Nd Q2 #[.slice s0d n0d q0d,.slice s1d n1d q1d,.slice s2d n2d q2d,.slice s3d n3d q3d,I hdd,.slice s5d Q2.procs.length q5d,.slice s6d Q2.out.length q6d] V/\Below w.heap.size w V):=fun V hV=>⟨kd.below hV,Bd.o.trans (hV.mono Bd.o.size)⟩
  have HD0:=ai (HKV.o _ HE0.o);have HD1:=ai (HKV.o _ HE1.o);have HZ:Hid ((WD.alloc (.cells #[Nl,Nl,Nl,Nl,I 0,Nl,Nl] 34)).drew.heap[WD.heap.size]?=some (.cells #[Nl,Nl,Nl,Nl,I 0,Nl,Nl] 34 (0,0))):=bE WD #[Nl,Nl,Nl,Nl,I 0,Nl,Nl] 34;clear HKV kd;have Uu:Hid (k<np->∀b off,ap=some (Ad b off)->(if cp=k then ap else Option.map (fun x=>x.add k) ap)=some (Ad b (off+k))):=fun h b off e=>by
   rw[aA (by omega),e];exact dI some (si ..)
  obtain⟨AQ,hAQ⟩:∃AQ,(if cp=k then ap else Option.map (fun x=>x.add k) ap)=AQ:=⟨_,rfl⟩;rw[hAQ] at Uu;go_cut [18,19] (fun x18 x19 wx=>∃xe s0e n0e q0e s1e n1e q1e s2e n2e q2e s3e n3e q3e hde s5e q5e s6e q6e,x18=.pointer (some (Ad xe 0))/\x19=I 0/\En xe Q1 #[.slice s0e n0e q0e,.slice s1e n1e q1e,.slice s2e n2e q2e,.slice s3e n3e q3e,I hde,.slice s5e Q1.procs.length q5e,.slice s6e Q1.out.length q6e] wx/\Below WD.heap.size WD wx)
  case first =>
   go_region_law (go_simp;go_at_call 20;first | (refine(HR4.o _ _ _ _ _ Uu.o HD0.o.2 HD0.o.1).mono ?_;rintro e we ⟨s0e,n0e,q0e,s1e,n1e,q1e,s2e,n2e,q2e,s3e,n3e,q3e,hde,s5e,q5e,s6e,q6e,rfl,hk,hb⟩;have Ke:=ai hk;have Le:=ai hb;clear hk hb;have LAST:=trivial) | (refine(HR4.o _ _ _ _ _ Uu.o HD1.o.2 HD1.o.1).mono ?_;rintro e we ⟨s0e,n0e,q0e,s1e,n1e,q1e,s2e,n2e,q2e,s3e,n3e,q3e,hde,s5e,q5e,s6e,q6e,rfl,hk,hb⟩;have Ke:=ai hk;have Le:=ai hb;clear hk hb;have XZ:=ai (aO HZ.o Le.o (aJ HZ.o));obtain⟨z0,z1,z2,z3,z4,z5,z6⟩:=nR XZ.o;have zf:=aR XZ.o);go_simp)
   all_goals
    go_wp2_with fail
    go_meet
    case rel =>
     first
      | (have _:=LAST;exact⟨_,s0e,n0e,q0e,s1e,n1e,q1e,s2e,n2e,q2e,s3e,n3e,q3e,hde,s5e,q5e,s6e,q6e,rfl,rfl,Em Ke.o,HE0.o.trans ((Le.o.alloc Le.o.size _).mono HE0.o.size)⟩)
      | exact⟨_,s0e,n0e,q0e,s1e,n1e,q1e,s2e,n2e,q2e,s3e,n3e,q3e,hde,s5e,q5e,s6e,q6e,rfl,rfl,Rk Ke.o XZ.o (by simp),LC _ _ _ _ _ _ _ (HE1.o.trans (Le.o.mono HE1.o.size)) (aI _) (HE1.o.trans (Le.o.mono HE1.o.size)).size⟩
  case rest =>
   obtain⟨xe,s0e,n0e,q0e,s1e,n1e,q1e,s2e,n2e,q2e,s3e,n3e,q3e,hde,s5e,q5e,s6e,q6e,rfl,rfl,hv,hb⟩:=hcut;have Ve:=ai hv;have Vc3:=ai (Vc2.o.below hb);have Vd2:=ai (Vd.o.below hb);have Be:=ai (Bd.o.trans (hb.mono Bd.o.size));clear hv hb HR4 Uu HE0 HE1 HD0 HD1 HZ Vc2 Vd k0 k1 k2 k3 k4 k5 k6 j0 j1 j2 j3 j4 j5 j6;have HSM:Hid (∀V,Below wc.heap.size wc V->Calls Tryz.prog 14 #[.agg #[.slice s0c n0c q0c,.slice s1c n1c q1c,.slice s2c n2c q2c,.slice s3c n3c q3c,I hdc,.slice s5c Q1.procs.length q5c,.slice s6c Q1.out.length q6c],.agg #[.slice s0e n0e q0e,.slice s1e n1e q1e,.slice s2e n2e q2e,.slice s3e n3e q3e,I hde,.slice s5e Q1.procs.length q5e,.slice s6e Q1.out.length q6e]] V fun e w'=>e=.returned (.bool true)/\Below V.heap.size V w'):=fun V hV=>by
    obtain⟨_,_,q1⟩:=Vc3.o.below hV;obtain⟨_,_,q2⟩:=Ve.o.below hV;exact MG q1 q2 (fun hs s=>oc (G1.o.mem.right.wT s)) (gY (ZQ G1.o) (by decide)) (gY G1.o.out (by decide))
   have HCA:Hid (∀V,Below wc.heap.size wc V->Calls Tryz.prog 15 #[.agg #[.slice s0c n0c q0c,.slice s1c n1c q1c,.slice s2c n2c q2c,.slice s3c n3c q3c,I hdc,.slice s5c Q1.procs.length q5c,.slice s6c Q1.out.length q6c]] V fun e w'=>e=.returned (I 0)/\Below V.heap.size V w'):=fun V hV=>by
    obtain⟨_,_,q1⟩:=Vc3.o.below hV;exact IQ q1 G1.o
   have vB:Hid (∀V,Below wc.heap.size wc V->Calls Tryz.prog 15 #[.agg #[.slice s0d n0d q0d,.slice s1d n1d q1d,.slice s2d n2d q2d,.slice s3d n3d q3d,I hdd,.slice s5d Q2.procs.length q5d,.slice s6d Q2.out.length q6d]] V fun e w'=>e=.returned (I 0)/\Below V.heap.size V w'):=fun V hV=>by
    obtain⟨_,_,q1⟩:=Vd2.o.below hV;exact IQ q1 G2.o
   have XC:=ai Vc3.o.1;have XD:=ai Vd2.o.1;have XE:=ai Ve.o.1;go_wp2_with (first
    | (go_at_call 13;refine(HBG.o _).mono ?_;rintro e w5 ⟨rfl,hb⟩;have H5:=ai hb;obtain⟨k0,k1,k2,k3,k4,k5,k6⟩:=nR (aO XC.o hb (aJ XC.o));obtain⟨j0,j1,j2,j3,j4,j5,j6⟩:=nR (aO XE.o hb (aJ XE.o));clear hb)
    | (go_at_call 14;refine(HSM.o _ H5.o).mono ?_;rintro e w6 ⟨rfl,hb⟩;have H6:=ai (H5.o.trans (hb.mono H5.o.size));obtain⟨k0,k1,k2,k3,k4,k5,k6⟩:=nR (aO XC.o H6.o (aJ XC.o));clear hb)
    | (go_at_call 15;have _:=FIRST;refine(vB.o _ H7.o).mono ?_;rintro e w8 ⟨rfl,hb⟩;have H8:=ai (H7.o.trans (hb.mono H7.o.size));clear hb)
    | (go_at_call 15;refine(HCA.o _ H6.o).mono ?_;rintro e w7 ⟨rfl,hb⟩;have H7:=ai (H6.o.trans (hb.mono H6.o.size));obtain⟨k0,k1,k2,k3,k4,k5,k6⟩:=nR (aO XD.o H7.o (aJ XD.o));have FIRST:=trivial;clear hb))
   go_ret;exact⟨by simp,Be.o.trans (H8.o.mono Be.o.size)⟩
open Go.RowKit
def CS (R:Option (List py)) (w:World) (e:Ending) (w':World):Prop:=Below w.heap.size w w'/\match R with
 | none=>e=.returned (.tuple #[Nl,.bool false])
 | some ps=>∃v,e=.returned (.tuple #[v,.bool true])/\w'.ownsRow w.heap.size 282 2 v ps.length (ps.flatMap Kt)
open Go.RowKit
theorem Ua:(Tryz.prog.info? 145).map (fun i=>(i.zero,i.size,i.bytes))=some (some (.agg #[I 0,.string ⟨#[]⟩,Nl]),3,48):=by rfl
structure A3 (lo:Nat) (w:World) (v:Value) (hs:List bJ):Prop where
 row:w.ownsRow lo 145 3 v hs.length (hs.flatMap Fp)
 fix:ade v.ownBlock w hs
theorem A3.below {lo:Nat} {w w':World} {v:Value} {hs:List bJ} (h:A3 lo w v hs) (hb:Below w.heap.size w w'):A3 lo w' v hs:=⟨Dy h.row hb,fun k hk=>(h.fix k hk).below hb⟩
theorem A3.nil (lo:Nat) (w:World):A3 lo w Nl []:=⟨mE _ _ _ _,fun k hk=>by grind⟩
theorem A3.has {lo:Nat} {w:World} {v:Value} {hs:List bJ} (h:A3 lo w v hs):∃ao cap,v=.slice ao hs.length cap/\iT w ao hs/\hs.length<=cap:=by
 have hr:=h.row;rcases hr.2 with⟨hv,h0⟩ | ⟨g,cap,cur,hv,hbg,hg,hnc,hcm,hcs,htake⟩
 · exact⟨none,0,by grind,fun hl=>by omega,by omega⟩
 · rw[hv] at hr;refine⟨some (Ad g 0),cap,hv,fun _=>⟨g,0,rfl,aJ hg,fun k hk=>?_⟩,hnc⟩;rw[lU];have hh:∀j,j<3->w.cell? (Ad g (k*3+j))=(Fp (bl hs k))[j]?:=fun j hj=>(hr.cellAt _ (by omega)).trans (vg Fp 3 (fun _=>rfl) Cb hs k j hk hj)
   exact⟨hh 0 (by omega),hh 1 (by omega),hh 2 (by omega),(h.fix k hk).has⟩
theorem adT {w:World} {base:Nat} {v:Value} {l:List mL} (h:w.ownsRow base 226 2 v l.length (l.flatMap CV)) (rb:Option Nat) (Hz:∀q,rb=some q->q<base):∃ao cap,v=.slice ao l.length cap/\rC rb w ao l:=by
 rcases h.2 with⟨hv,h0⟩ | ⟨g,cap,cur,hv,hbg,hg,hnc,hcm,hcs,htake⟩
 · exact⟨none,0,by grind,fun hl=>by omega⟩
 · subst hv;refine⟨some (Ad g 0),cap,rfl,fun hl=>⟨g,0,rfl,aJ hg,fun e=>by grind,fun k hk=>?_⟩⟩;rw[lU];have hh:∀j,j<2->w.cell? (Ad g (k*2+j))=(CV (ng l k))[j]?:=fun j hj=>(h.cellAt _ (by omega)).trans (vg CV 2 (fun _=>rfl) Qx l k j hk hj)
   exact⟨hh 0 (by omega),hh 1 (by omega)⟩
theorem A3.more {lo:Nat} {w w':World} {v:Value} {hs:List bJ} {x:bJ} {g cap:Nat} (h:ade v.ownBlock w hs) (hx:rC v.ownBlock w x.ao x.dZ) (hown:w'.ownsRow lo 145 3 (.slice (some (Ad g 0)) (hs.length+1) cap) (hs.length+1) (hs.flatMap Fp++Fp x)) (hg:w.grownBy w' v.ownBlock) (hs':w.heap.size<=w'.heap.size) (hat:v.ownBlock=some g∨g=w.heap.size) :
  A3 lo w' (.slice (some (Ad g 0)) (hs.length+1) cap) (hs++[x]):=by
 refine⟨by grind,fun k hk=>?_⟩;have e:(Value.slice (some (Ad g 0)) (hs.length+1) cap).ownBlock=some g:=rfl;rw[e];rw[fK] at hk;by_cases hkl:k<hs.length
 · rw[Vw hs x k hkl];exact(h k hkl).grown hg hs' hat
 grind [Vx,rC.grown]
def Kh (R:Option (List Fs)) (w:World) (e:Ending) (w':World):Prop:=Below w.heap.size w w'/\match R with
 | none=>e=.returned (.tuple #[Nl,.bool false])
 | some E=>∃(hs:List bJ) (ao:Option Addr) (cap:Nat),hs.map eT=E/\e=.returned (.tuple #[.slice ao hs.length cap,.bool true])/\iT w' ao hs/\hs.length<=cap
open Go.RowKit
structure uj (w:World) (r:Option Nat) (w':World) (r':Option Nat):Prop where
 size:w.heap.size<=w'.heap.size
 block:∀b,b<w.heap.size->some b≠r->w'.heap[b]?=w.heap[b]?
 row:r'=r∨∃g,r'=some g/\w.heap.size<=g
theorem uj.refl (w:World) (r:Option Nat):uj w r w r:=⟨aI _,fun _ _ _=>rfl,.inl rfl⟩
theorem uj.trans {w w1 w2:World} {r r1 r2:Option Nat} (h:uj w r w1 r1) (g:uj w1 r1 w2 r2):uj w r w2 r2:=by
 have hs:=h.size;refine⟨gY h.size g.size,fun b hb hr=>?_,?_⟩
 · grind [block,row]
 grind [row]
theorem uj.b9 {w w':World} (h:Below w.heap.size w w') (r:Option Nat):uj w r w' r:=⟨h.size,fun b hb _=>h.block b hb,.inl rfl⟩
theorem uj.ahl {w w':World} {r:Option Nat} {g:Nat} (h:w.grownBy w' r) (hs:w.heap.size<=w'.heap.size) (hat:r=some g∨g=w.heap.size):uj w r w' (some g) :=
 ⟨hs,fun b hb hr=>h.block b hb hr,by
  grind⟩
theorem uj.keep {w w':World} {r r':Option Nat} {b:Nat} {o:Obj} (h:uj w r w' r') (hb:w.heap[b]?=some o) (hr:some b≠r):w'.heap[b]?=some o:=(h.block b (aJ hb) hr).trans hb
def Qp (rb:Option Nat) (w:World) (ao:Option Addr) (l:List py):Prop:=0<l.length->∃b off,ao=some (Ad b off)/\b<w.heap.size/\some b≠rb/\Kv w b off l
theorem Qp.fr {rb rb':Option Nat} {w w':World} {ao:Option Addr} {l:List py} (h:Qp rb w ao l) (hf:uj w rb w' rb'):Kz w' ao l:=fun hl=>by
 obtain⟨b,off,h1,h2,h3,h4⟩:=h hl;exact⟨b,off,h1,fL h2 hf.size,fun i hi=>by
  obtain⟨c0,c1⟩:=h4 i hi
  grind [World.cell?_of_block,uj.block]⟩
theorem aa9 {w:World} {base:Nat} {v:Value} {l:List py} (h:w.ownsRow base 282 2 v l.length (l.flatMap Kt)) (rb:Option Nat) (Hz:∀q,rb=some q->q<base):∃ao cap,v=.slice ao l.length cap/\Qp rb w ao l:=by
 rcases h.2 with⟨hv,h0⟩ | ⟨g,cap,cur,hv,hbg,hg,hnc,hcm,hcs,htake⟩
 · exact⟨none,0,by grind,fun hl=>by omega⟩
 · subst hv;refine⟨some (Ad g 0),cap,rfl,fun hl=>⟨g,0,rfl,aJ hg,fun e=>by grind,fun k hk=>?_⟩⟩;rw[lU];have hh:∀j,j<2->w.cell? (Ad g (k*2+j))=(Kt (xQ l k))[j]?:=fun j hj=>(h.cellAt _ (by omega)).trans (vg Kt 2 (fun _=>rfl) abl l k j hk hj)
   exact⟨hh 0 (by omega),hh 1 (by omega)⟩
open Go.RowKit
def Mn (o:km) (L:List aX) (s:pL):List aX:=(dK L (o.base+s.page) s.aQ (vQ s)).1
def Fq (o:km) (L:List aX):Nat->List aX
 | 0=>L
 | k+1=>Mn o (Fq o L k) (eO o.i.jI k)
def Cf (l:List km):Nat->List aX
 | 0=>[]
 | k+1=>Fq (dR l k) (Cf l k) (dR l k).i.jI.length
def VC (a:aX):aX:=⟨a.page,a.aQ,a.jG,false⟩
def px (L:List aX):Nat->List aX
 | 0=>L
 | k+1=>(px L k).set k (VC (bC (px L k) k))
def rP (l:List km):List aX:=(Cf l l.length).map VC
theorem Qz (o:km) (L:List aX) (h:dO L):∀k,dO (Fq o L k)
 | 0=>h
 | k+1=>RY _ _ _ _
theorem Jh (l:List km):∀k,dO (Cf l k)
 | 0=>EA
 | k+1=>Qz _ _ (Jh l k) _
theorem yL (L:List aX):∀k,(px L k).length=L.length
 | 0=>rfl
 | k+1=>by simp only[px,fJ,yL L k]
theorem Ks (L:List aX):∀k,k<=L.length->∀j,(px L k)[j]?=if j<k then L[j]?.map VC else L[j]?
 | 0,_,j=>by rfl
 | k+1,hk,j=>by
  have ih:=Ks L k (by omega)
  grind [bC,px]
theorem VB (L:List aX):px L L.length=L.map VC:=by
 apply AJ
 grind [Ks]
theorem CW (b:Bool):∀(L:List aX) (k:Nat),k<L.length->(cT L).set (k*4+3) (.bool b)=cT (L.set k ⟨(bC L k).page,(bC L k).aQ,(bC L k).jG,b⟩)
 | [],k,h=>by simp at h
 | a::r,0,h=>rfl
 | a::r,k+1,h=>by
  have ih:=CW b r k (by grind);show(oX a++cT r).set _ _=oX a++cT (r.set k _);rw[AO _ _ (by simp[oX];omega)];congr 1;have e:(k+1)*4+3-(oX a).length=k*4+3:=by grind [oX]
  rw[e,ih];rfl
open Go.RowKit
theorem zg {lo:Nat} {w w':World} {v:Value} {l:List aX} (h:eu lo w v l) (hb:Below w.heap.size w w'):eu lo w' v l:=Dy h hb
theorem Dz {lo:Nat} {w:World} {v:Value} {l:List aX} (h:eu lo w v l):∃ao cap,v=.slice ao l.length cap/\(0<l.length->∃g,ao=some (Ad g 0)):=by
 rcases h.2 with⟨hv,h0⟩ | ⟨g,cap,cur,hv,_⟩
 · grind
 grind
theorem Qk (l:List km) (ao:Option Addr) (cap:Nat) (w:World) (h:Qo l ao w) (hl7:l.length<=7) :
  Calls Tryz.prog 67 #[.slice ao l.length cap] w fun e w'=>∃r,e=.returned r/\eu w.heap.size w' r (rP l)/\Below w.heap.size w w':=by
 have HO:=aB h;clear h;go_enter Tryz.func67,Tryz.ntmps67;go_wp2;go_loopw [11,3] (fun i v wr=>∃(a:Nat),a<=l.length/\i=I a/\eu w.heap.size wr v (Cf l a)/\Below w.heap.size w wr) (fun i _ _=>l.length-(intOf i).toNat)
 case atStart=>exact⟨0,by omega,rfl,eu.nil _ _,aK _ _⟩
 case round =>
  obtain⟨a,hal,rfl,hown,hb⟩:=hrel;have HOW:=aB hown;have zJ:=aB hb;by_cases hlt:a<l.length
  · have HOr:=aB (HO.o.below hb);obtain⟨b,off,hao,hbl,eY⟩:=HOr.o.has (by omega);obtain⟨⟨c0,c1,c2,c3,c4,c5,c6⟩,him⟩:=eY a hlt;have hbs:=HO.o.base a hlt;have JJ:=HO.o.chk a hlt;obtain⟨b2,Yb,afE,adK,Yj⟩:=HO.o.has (by omega);have aaP:=(Yj a hlt).2;have wS:Hid (Cf l (a+1)=Fq (dR l a) (Cf l a) (dR l a).i.jI.length):=rfl;obtain⟨o,ho⟩:=ex (dR l a);rw[<- ho] at c0 c1 c2 c3 c4 c5 c6 aaP hbs JJ wS;have E7:=aB (Jh l a);obtain⟨L,hL⟩:=ex (Cf l a);rw[<- hL] at HOW wS E7;have hcn:=vX JJ;have HSB:=aB (xP JJ);obtain⟨bs,Ya,hag,akq,hlg⟩:=aaP.jI (by omega);have HLG:=aB hlg;rw[hag] at c2;clear ho hL eY hb hown him hlg hag aaP Yj afE adK JJ;subst hao;have jV:=aB (zJ.o.alloc zJ.o.size (.cells #[.string o.i.name,.slice o.a.an o.i.needs.length o.a.cn,.slice (some (Ad bs Ya)) o.i.jI.length o.a.cg,.slice o.a.ay o.i.syms.length o.a.cy,.slice o.a.ar o.i.pV.length o.a.cr,I o.i.entry,I o.base] 131));have Js:=aB ((aK wr.heap.size wr).alloc (aI _) (.cells #[.string o.i.name,.slice o.a.an o.i.needs.length o.a.cn,.slice (some (Ad bs Ya)) o.i.jI.length o.a.cg,.slice o.a.ay o.i.syms.length o.a.cy,.slice o.a.ar o.i.pV.length o.a.cr,I o.i.entry,I o.base] 131));have BO:=aB (bE wr #[.string o.i.name,.slice o.a.an o.i.needs.length o.a.cn,.slice (some (Ad bs Ya)) o.i.jI.length o.a.cg,.slice o.a.ay o.i.syms.length o.a.cy,.slice o.a.ar o.i.pV.length o.a.cr,I o.i.entry,I o.base] 131);have HOA:=aB (zg HOW.o Js.o);go_wp2;obtain⟨W1,hW1⟩:=ex (wr.alloc (.cells #[.string o.i.name,.slice o.a.an o.i.needs.length o.a.cn,.slice (some (Ad bs Ya)) o.i.jI.length o.a.cg,.slice o.a.ay o.i.syms.length o.a.cy,.slice o.a.ar o.i.pV.length o.a.cr,I o.i.entry,I o.base] 131));rw[<- hW1] at jV Js BO HOA;rw[<- hW1];obtain⟨ob,hob⟩:=ex wr.heap.size;rw[<- hob] at BO;rw[<- hob];clear hW1 hob Js HOW zJ HOr c0 c1 c2 c3 c4 c5 c6 hbl;go_loopw [19,3] (fun i v wm=>∃(k:Nat),k<=o.i.jI.length/\i=I k/\eu w.heap.size wm v (Fq o L k)/\Below w.heap.size w wm/\Below W1.heap.size W1 wm) (fun i _ _=>o.i.jI.length-(intOf i).toNat)
    case atStart=>exact⟨0,by omega,rfl,HOA.o,jV.o,aK _ _⟩
    case round =>
     obtain⟨k,hk,rfl,hown,hb,hb1⟩:=hrel;have HOW:=aB hown;have HBm:=aB hb;have cN:=aB hb1;clear HOA jV;by_cases hlk:k<o.i.jI.length
     · obtain⟨c0,c1,c2,c3,c4⟩:=zR hb akq HLG.o k hlk;have Jc:=HSB.o k hlk;have HFK:=aB (Qz o L E7.o k);have HKX:Hid (Fq o L (k+1)=Mn o (Fq o L k) (eO o.i.jI k)):=rfl;obtain⟨s,hse⟩:=ex (eO o.i.jI k);rw[<- hse] at c0 c1 c2 c3 c4 Jc HKX;clear hse;obtain⟨L2,hL2⟩:=ex (Fq o L k);rw[<- hL2] at HOW HFK HKX;clear hL2;obtain⟨pg,pn,dt,wb,qZ0⟩:=s;simp only at c0 c1 c2 c3 c4 Jc;have jV:=aB (HBm.o.alloc HBm.o.size (.cells #[I pg,I pn,.string dt,.bool wb,.bool qZ0] 166));have Js:=aB ((aK wr.heap.size wr).alloc (aI _) (.cells #[I pg,I pn,.string dt,.bool wb,.bool qZ0] 166));have BS:=aB (bE wr #[I pg,I pn,.string dt,.bool wb,.bool qZ0] 166);have BOA:=aB (br (aO BO.o cN.o (aJ BO.o)) (.cells #[I pg,I pn,.string dt,.bool wb,.bool qZ0] 166));have alq:=aB (cN.o.alloc cN.o.size (.cells #[I pg,I pn,.string dt,.bool wb,.bool qZ0] 166));have anw:=aB (zg HOW.o Js.o);clear hown hb hb1;go_wp2;obtain⟨WA,lO⟩:=ex (wr.alloc (.cells #[I pg,I pn,.string dt,.bool wb,.bool qZ0] 166));rw[<- lO] at jV BS BOA alq anw;rw[<- lO];obtain⟨sb,aaM⟩:=ex wr.heap.size;rw[<- aaM] at BS;rw[<- aaM];clear lO aaM Js HOW HBm cN c0 c1 c2 c3 c4;have HS:Hid (∀V,Below WA.heap.size WA V->V.cell? (Ad ob 6)=some (I o.base)/\V.cell? (Ad sb 0)=some (I pg)/\V.cell? (Ad sb 1)=some (I pn)/\V.cell? (Ad sb 2)=some (.string dt)/\V.cell? (Ad sb 3)=some (.bool wb)/\V.cell? (Ad sb 4)=some (.bool qZ0)):=fun V hb=>by
        have h1:=aO BOA.o hb (aJ BOA.o);have h2:=aO BS.o hb (aJ BS.o);exact⟨au h1 6 rfl,au h2 0 rfl,au h2 1 rfl,au h2 2 rfl,au h2 3 rfl,au h2 4 rfl⟩
       have PF:Hid (∀V,Calls Tryz.prog 116 #[.agg #[I pg,I pn,.string dt,.bool wb,.bool qZ0]] V fun e w'=>e=.returned (I (vQ ⟨pg,pn,dt,wb,qZ0⟩))/\Below V.heap.size V w'):=fun V=>Yz ⟨pg,pn,dt,wb,qZ0⟩ V
       have HMP:Hid (∀V,Below WA.heap.size WA V->Calls Tryz.prog 115 #[u3,I (o.base+pg),I pn,I (vQ ⟨pg,pn,dt,wb,qZ0⟩)] V fun e w'=>∃r,e=.returned (.tuple #[r,I (dK L2 (o.base+pg) pn (vQ ⟨pg,pn,dt,wb,qZ0⟩)).2])/\eu V.heap.size w' r (dK L2 (o.base+pg) pn (vQ ⟨pg,pn,dt,wb,qZ0⟩)).1/\Below V.heap.size V w'):=fun V hb=>RV L2 u3 (o.base+pg) pn _ V (zg anw.o hb).has HFK.o (by unfold uo;omega) (by unfold uo;omega)
       have HMS:Hid (Mn o L2 ⟨pg,pn,dt,wb,qZ0⟩=(dK L2 (o.base+pg) pn (vQ ⟨pg,pn,dt,wb,qZ0⟩)).1):=rfl;obtain⟨PR,hPR⟩:=ex (vQ ⟨pg,pn,dt,wb,qZ0⟩);rw[<- hPR] at PF HMP HMS;obtain⟨MN,hMN⟩:=ex (dK L2 (o.base+pg) pn PR);rw[<- hMN] at HMP HMS;clear hPR hMN;have hwr:IntKind.i64.wrap (o.base+pg)=o.base+pg:=vI _ (by omega);have tV:=aB (aK WA.heap.size WA).drew;have ow:=aB (HS.o _ tV.o)
       go_region_held3 (fun V=>V.cell? (Ad ob 6)=some (I o.base)/\V.cell? (Ad sb 0)=some (I pg)/\V.cell? (Ad sb 1)=some (I pn)/\V.cell? (Ad sb 2)=some (.string dt)/\V.cell? (Ad sb 3)=some (.bool wb)/\V.cell? (Ad sb 4)=some (.bool qZ0)) (first | exact sK.o | exact rX.o | exact ow.o)
        (first
         | (go_at_call 116;refine(PF.o _).mono ?_;rintro e w2 ⟨rfl,hb⟩;have pU:=aB (tV.o.trans (hb.mono tV.o.size));have rX:=aB (HS.o _ pU.o);clear hb)
         | (go_at_call 115;refine(HMP.o _ pU.o).mono ?_;rintro e w3 ⟨v8,rfl,hrw,hb⟩;have Bw:=aB (pU.o.trans (hb.mono pU.o.size));have sK:=aB (HS.o _ Bw.o);have Uv:=aB hrw;clear hb hrw))
       go_wp2;go_roundw
       case rel=>exact⟨k+1,by omega,by go_num,by rw[HKX.o,HMS.o];exact Uv.o.mono (gY jV.o.size pU.o.size),jV.o.trans (Bw.o.mono jV.o.size),alq.o.trans (Bw.o.mono alq.o.size)⟩
       case measure=>simp[intOf];omega
     · obtain rfl:k=o.i.jI.length:=by omega
       clear hown hb hb1;go_wp2;go_roundw
       case rel=>exact⟨a+1,by omega,by go_num,by rw[wS.o];exact HOW.o,HBm.o⟩
       case measure=>simp[intOf];omega
  · obtain rfl:a=l.length:=by omega
    have HAN:Hid (rP l=px (Cf l l.length) (Cf l l.length).length):=(VB _).symm;have E7:=aB (Jh l l.length);obtain⟨L,hL⟩:=ex (Cf l l.length);rw[<- hL] at HOW HAN E7;have hll:=E7.o.2;obtain⟨ar,cr,hv,hg⟩:=Dz HOW.o;subst hv;have HG:=aB hg;clear hown hb hL hg E7;go_wp2;go_loopw [41] (fun i wr=>∃(k:Nat),k<=L.length/\i=I k/\eu w.heap.size wr (.slice ar L.length cr) (px L k)/\Below w.heap.size w wr) (fun i _=>L.length-(intOf i).toNat)
    case atStart=>exact⟨0,by omega,rfl,HOW.o,zJ.o⟩
    case round =>
     obtain⟨k,hk,rfl,hown,hb⟩:=hrel;have aii:=aB hown;have anV:=aB hb;clear HOW zJ hown hb;by_cases hlt:k<L.length
     · obtain⟨g,hg⟩:=HG.o (by omega);subst hg;have hln:=yL L k;have HO4:Hid (wr.ownsRow w.heap.size 139 4 (.slice (some (Ad g 0)) L.length cr) L.length (cT (px L k))):=by
        have h:=aii.o;unfold eu at h;rw[hln] at h;exact h
       have HST:=aB (HO4.o.stored (k*4+3) (.bool false));have wS:Hid (cT (px L (k+1))=(cT (px L k)).set (k*4+3) (.bool false)):=(CW false (px L k) k (by omega)).symm;have hlx:=yL L (k+1);have HLX:=aB hlx;have hgl:=HO4.o.lt g rfl;have q3:=(HO4.o.cellAt (k*4+3) (by omega)).trans (mN (px L k) k 3 (by omega) (by omega));have qf:=HO4.o.frozenAt (k*4+3);clear hln hlx;go_wp2;go_roundw
       case rel=>exact⟨k+1,by omega,by go_num,by unfold eu;rw[HLX.o,wS.o];exact HST.o.1,anV.o.setCell (by simp;omega) _⟩
       case measure=>simp[intOf];omega
     · obtain rfl:k=L.length:=by omega
       go_wp2;go_ret;exact⟨_,rfl,by rw[HAN.o];exact aii.o,anV.o⟩
open Go.RowKit
def qm (x:iV):List Value:=(jJ x.a x.i).toList
def lZ (all:List iV):Int :=
 if 7<all.length then 2
 else if oH all=0 then
  match Mo all all.length 0 [0] with
  | none=>6
  | some ix=>if 256<jL all 1 ix then 3 else
   match sN (eX all 1 ix) with
   | none=>7
   | some _=>0
 else oH all
theorem SH {l:List iV} (h:oH l=0):(∀k,k<l.length->mz (cH l k).i=0)/\xO (kf l)=true:=by
 grind [oH,Ig]
theorem YM {all:List iV} (hc:∀j,j<all.length->mz (cH all j).i=0) (h7:all.length<=7) {ix:List Nat} (ho:Hh all ix) (k:Nat) (hk:k<(eX all 1 ix).length):1<=(dR (eX all 1 ix) k).base/\(dR (eX all 1 ix) k).base<=2000:=by
 rw[kE] at hk;rw[(uv all ix 1 k hk).2.2];have h:=A8 all hc (ix.take k) 1 (fun j hj=>ho.lt j (List.mem_of_mem_take hj));have h2:=ho.le
 grind
open Go.RowKit
theorem adX:(Tryz.prog.info? 56).map (fun i=>(i.zero,i.size,i.bytes))=some (some (.agg #[.string ⟨#[]⟩,Nl,Nl,Nl,Nl,I 0]),6,120):=by rfl
theorem YD {w:World} {b off:Nat} {l:List iV} (h:Kw w b off l):∀j u,(l.flatMap qm)[j]?=some u->w.cell? (((Ad b off):Addr).add j)=some u:=fun j u hj=>by
 obtain⟨k,r,hr,rfl⟩:∃k r,r<6/\j=k*6+r:=⟨j/6,j%6,by omega,by omega⟩;have hlen:∀l:List iV,(l.flatMap qm).length=l.length*6:=fun l=>by
  induction l with
  | nil=>rfl
  | cons a r ih=>rw[nW,fK,ih,xM];show 6+_=_;omega
 have hk:k<l.length:=by
  grind
 rw[vg qm 6 (fun _=>rfl) abq l k r hk hr] at hj;obtain⟨⟨c0,c1,c2,c3,c4,c5⟩,_⟩:=h k hk;rw[si,<- xL]
 match r,hr with
 | 0,_=>exact c0.trans hj
 | 1,_=>exact c1.trans hj
 | 2,_=>exact c2.trans hj
 | 3,_=>exact c3.trans hj
 | 4,_=>exact c4.trans hj
 | 5,_=>exact c5.trans hj
theorem adS {w:World} {base:Nat} {g cap:Nat} {l:List iV} (h:w.ownsRow base 56 6 (.slice (some (Ad g 0)) l.length cap) l.length (l.flatMap qm)) (hg:g<w.heap.size) (hi:∀k,k<l.length->qc w (cH l k).a (cH l k).i) :
  DG w (some (Ad g 0)) l:=fun hl=>by
 refine⟨g,0,rfl,hg,fun k hk=>?_⟩;rw[lU];have hh:∀j,j<6->w.cell? (Ad g (k*6+j))=(qm (cH l k))[j]?:=fun j hj=>(h.cellAt _ (by omega)).trans (vg qm 6 (fun _=>rfl) abq l k j hk hj)
 exact⟨⟨hh 0 (by omega),hh 1 (by omega),hh 2 (by omega),hh 3 (by omega),hh 4 (by omega),hh 5 (by omega)⟩,hi k hk⟩
theorem E5 {ops:Array Oper} {rest:List Oper} {o:Oper} {a:Act} {w:World} {Q:Exit->Act->World->Prop} (hgd:o.guard=none) (s x:Operand)
  (ho:o.op=.call { callee:=.builtin .append,args:=#[s,x],argTypes:=#[57,57] })
  (base:Nat) (p:iV) (g0:Nat) (hs:a.eval s=.slice (some (Ad g0 0)) 1 1) (hown:w.ownsRow base 56 6 (.slice (some (Ad g0 0)) 1 1) 1 (qm p))
  (ao:Option Addr) (c:Nat) (libs:List iV) (hx:a.eval x=.slice ao libs.length c) (eY:DG w ao libs) (h6:libs.length<=6) (hbase:base<=w.heap.size)
  (h:∀g cap w',w'.ownsRow base 56 6 (.slice (some (Ad g 0)) (libs.length+1) cap) (libs.length+1) ((p::libs).flatMap qm)->w.grownBy w' (some g0)->g<w'.heap.size->wpList Tryz.prog ops Q rest (a.put o.dst (.slice (some (Ad g 0)) (libs.length+1) cap)) w'):wpList Tryz.prog ops Q (o::rest) a w:=by
 obtain⟨i0,hin,hz0,hz1,hz2⟩:=ju adX;by_cases h0:0<libs.length
 · obtain⟨b,off,rfl,hb,hl⟩:=eY h0;have hlen:∀l:List iV,(l.flatMap qm).length=l.length*6:=fun l=>by
    induction l with
    | nil=>rfl
    | cons a r ih=>rw[nW,fK,ih,xM];show 6+_=_;omega
   have hone:∀u∈libs.flatMap qm,u.oneCell'=true:=fun u hu=>by
    obtain⟨y,_,hy⟩:=vJ.1 hu;simp only[qm,jJ] at hy;simp at hy;rcases hy with rfl | rfl | rfl | rfl | rfl | rfl <;> rfl
   refine Pf w hgd s x 57 ho base 56 i0 (.agg #[.string ⟨#[]⟩,Nl,Nl,Nl,Nl,I 0]) 6 120 Tryz.underlying57 hin hz0 hz1 hz2 rfl (by decide) _ 1 _ hs hown (Ad b off) libs.length c (libs.flatMap qm) hx (hlen _) (YD hl) hone h0 (by grind [maxLen]) (by omega) hbase _ rfl ?_;intro g cap w' h2 h3 _ h5;have e:1+libs.length=libs.length+1:=Nat.add_comm _ _;rw[e] at h2 ⊢;exact h g cap w' h2 h3 h5
 · have e0:libs=[]:=jY (by omega);subst e0;have hg0:g0<w.heap.size:=(hown.lt g0 rfl).2;refine wpList_plain hgd fun K hK=>?_
   have hsrc:Src Tryz.prog i0.size 57 (.slice ao 0 c) 0 [] w:=⟨.inl ⟨_,Tryz.underlying57⟩,fun w'=>by rfl,by cases ao <;> simp[Builtin.firstCells,loadCells,loadCellsFrom],by cases ao <;> simp[Builtin.firstCells,loadCells,loadCellsFrom],by simp,by simp⟩;have hr:=run_append_nothing (P:=Tryz.prog) w 57 57 o.type 56 i0 Tryz.underlying57 hin (some (Ad g0 0)) 1 1 (aI _) (.slice ao 0 c) hsrc;have hx':a.eval x=.slice ao 0 c:=hx;unfold Oper.wp execOp;simp only[ho,resolve,invoke,builtin,Sem.run_bind,Sem.run_pure,UN,List.map_toArray,yZ,List.map_nil,hs,hx',hr];refine hK _ _ (h g0 1 w ?_ ⟨rfl,rfl,rfl,aI _,fun _ _ _=>rfl⟩ hg0)
   grind
open Go.RowKit Go.WideMaps Go.Maps
def ac9 (all:List iV) (w:World) (e:Ending) (w':World):Prop:=Below w.heap.size w w' /\
 if lZ all=0 then ∃(ix:List Nat) (E:List Fs) (r:Value) (hs:List bJ) (ao:Option Addr) (cap:Nat),Mo all all.length 0 [0]=some ix/\sN (eX all 1 ix)=some E/\hs.map eT=E /\
  e=.returned (.tuple #[.agg #[r,.slice ao hs.length cap,I (yn (dR (eX all 1 ix) 0) (cH all 0).i.entry)],I 0])/\eu w.heap.size w' r (rP (eX all 1 ix))/\iT w' ao hs/\hs.length<=cap
 else e=.returned (.tuple #[.agg #[Nl,Nl,I 0],I (lZ all)])
theorem tM (V:World) (rb b j:Nat) (u0 u1 u2:Value) (h:b≠rb):(((V.setCell (Ad rb 0) u0).setCell (Ad rb 1) u1).setCell (Ad rb 2) u2).cell? (Ad b j)=V.cell? (Ad b j):=by
 grind [World.cell?_setCell_far]
def Kb (V:World) (rb:Nat) (u0 u1 u2:Value):World:=((V.setCell (Ad rb 0) u0).setCell (Ad rb 1) u1).setCell (Ad rb 2) u2
theorem J9 (V:World) (rb:Nat) (u0 u1 u2:Value):(Kb V rb u0 u1 u2).heap.size=V.heap.size:=by simp[Kb]
theorem YC {V:World} {rb b off:Nat} {t:TypeId} {x:Int} {y:ByteArray} (h:V.heap[rb]?=some (.cells #[Nl,Nl,I 0] t (0,0))) (c0:V.cell? (Ad b off)=some (I x)) (c1:V.cell? (Ad b (off+1))=some (.string y)):b≠rb:=fun e=>by
 grind [World.cell?]
theorem Vs {V:World} {rb:Nat} {t:TypeId} (h:V.heap[rb]?=some (.cells #[Nl,Nl,I 0] t (0,0))) {ao:Option Addr} {l:List mL} (g:pA V ao l) (u0 u1 u2:Value):pA (Kb V rb u0 u1 u2) ao l:=fun hl=>by
 obtain⟨b,off,e,hb,eY⟩:=g hl;obtain⟨c0,c1⟩:=eY 0 hl;have hne:=YC h c0 c1;refine⟨b,off,e,by grind [J9],fun k hk=>?_⟩;obtain⟨d0,d1⟩:=eY k hk;exact⟨(tM V rb b _ u0 u1 u2 hne).trans d0,(tM V rb b _ u0 u1 u2 hne).trans d1⟩
theorem Vr {V:World} {rb:Nat} {t:TypeId} (h:V.heap[rb]?=some (.cells #[Nl,Nl,I 0] t (0,0))) {ao:Option Addr} {l:List bJ} (g:iT V ao l) (u0 u1 u2:Value):iT (Kb V rb u0 u1 u2) ao l:=fun hl=>by
 obtain⟨b,off,e,hb,eY⟩:=g hl;obtain⟨c0,c1,_,_⟩:=eY 0 hl;have hne:=YC h c0 c1;refine⟨b,off,e,by grind [J9],fun k hk=>?_⟩;obtain⟨d0,d1,d2,d3⟩:=eY k hk;exact⟨(tM V rb b _ u0 u1 u2 hne).trans d0,(tM V rb b _ u0 u1 u2 hne).trans d1,(tM V rb b _ u0 u1 u2 hne).trans d2,Vs h d3 u0 u1 u2⟩
theorem YB {V:World} {rb lo:Nat} {v:Value} {l:List aX} (h:eu lo V v l) (hlt:rb<lo) (u0 u1 u2:Value):eu lo (Kb V rb u0 u1 u2) v l :=
 G8 (G8 (G8 h hlt _) hlt _) hlt _
open Go.RowKit
end Go.Proofs.YtlgoihmkgaaemaaGreat
