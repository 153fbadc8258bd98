import Derived.Test.YtpgifpeohlllfaaGreatGV39
set_option maxHeartbeats 20000000
set_option linter.unusedVariables false
set_option maxRecDepth 100000
set_option linter.unusedSimpArgs false
namespace Go.Proofs.YtpgifpeohlllfaaGreat
namespace Go.Proofs.YtpgifpeohlllfaaGreat
open Go.RowKit
theorem jm.kp {N:Nat} {k:aN} {c:Array Value} {w U:World} (h:jm N k c w) (g:aH (fun b=>b<N) w U):jm N k c U:=by
 obtain⟨hs,a,h1,h2,h3⟩:=h;exact⟨hs,a,h1,h2,fun V hV=>h3 V (g.trans hV (fun _ _ x=>x))⟩
theorem Tv {w w':World} {K:aN} {e:Ending} (h:qu w K e w'):∃s1 n1 q1 s2 n2 q2 s3 n3 q3 s4 n4 q4 hd,e=.returned (.agg #[.slice s1 n1 q1,.slice s2 n2 q2,.slice s3 n3 q3,.slice s4 n4 q4,I hd])/\jm w.heap.size K #[.slice s1 n1 q1,.slice s2 n2 q2,.slice s3 n3 q3,.slice s4 n4 q4,I hd] w'/\Below w.heap.size w w':=by
 grind [YL,jm.cells]
theorem JU {k:aN} {a:fP} {w:World} (hK:fT w a k) (hR:bg k) {j:Nat} (hj:j<k.aj.length) (ad n way:Int) (had:dY ad) (hn:n<=8):∃pb po aa na ca,a.aP=some (Ad pb po)/\(∀V,Below w.heap.size w V->V.cell? (Ad pb (po+j*3+1))=some (.slice aa na ca))/\∀V,Below w.heap.size w V->Calls Tryz.prog 26 #[.slice aa na ca,I ad,I n,I way] V fun e w'=>e=.returned (.agg #[I (dQ (ak k.aj j).aZ ad n way).1,I (dQ (ak k.aj j).aZ ad n way).2])/\Below V.heap.size V w':=by
 obtain⟨pb,po,hpo,hpl,Aw⟩:=hK.aj (by omega);obtain⟨va,ap,cp,v0,v1,v2,L3,Bn,_⟩:=Aw j hj;have oU:=L3;obtain⟨aa,ca,yt,_⟩:=L3;subst yt;exact⟨pb,po,aa,_,ca,hpo,fun V hV=>(hV.cell (p:=(Ad pb (po+j*3+1))) hpl).trans v1,fun V hV=>Qq _ _ ad n way V (eU.below oU hV) (hR.sp hj).aZ had (by omega)⟩
theorem VK (k:aN) (sp ad:Int) (d:ByteArray):(fE k sp ad d).1=cJ∨bg (fE k sp ad d).1:=by
 grind [P9,fE,JI,Da.right,Da.lt,Da.size,Da.one,Da.two,FU.right]
structure ajC (k:aN) (sp ad:Int) (d:ByteArray) (K1:aN) (f1 f2 er:Int):Prop where
 eq:fE k sp ad d=(K1,(f1,f2),er)
 err:eI k sp d.size 1 [0,1,2]=er
 bad:er≠0->K1=cJ/\f1=0/\f2=0
 good:er=0->∃j:Nat,sp=(j:Int)/\j<k.aj.length/\bg k/\(1<=(d.size:Int)/\(d.size:Int)<=8)/\dQ (ak k.aj j).aZ ad d.size 1=(f1,f2)/\(f1≠0->K1=cJ)/\(f1=0->K1=kR k j ad d)
theorem ag8 (k:aN) (sp ad:Int) (d:ByteArray):ajC k sp ad d (fE k sp ad d).1 (fE k sp ad d).2.1.1 (fE k sp ad d).2.1.2 (fE k sp ad d).2.2:=by
 have he:eI k sp d.size 1 [0,1,2]=eI k sp d.size 1 [1]:=by rfl
 by_cases c:eI k sp d.size 1 [1]=0
 · obtain⟨hl,hz,_⟩:=r9 c;obtain⟨hR,hs0,hj,_⟩:=jy hl;have ZO:sp=((sp.toNat:Nat):Int):=by omega
   by_cases g:(dQ (ak k.aj sp.toNat).aZ ad d.size 1).1=0
   · have Ov:=(kS hz.1 hz.2 g).1;have e:fE k sp ad d=(kR k sp.toNat ad d,(0,0),0):=by grind [fE]
     rw[e];exact⟨e,by grind,fun x=>absurd rfl x,fun _=>⟨sp.toNat,ZO,hj,hR,hz,Ov,fun x=>absurd rfl x,fun _=>rfl⟩⟩
   · have e:fE k sp ad d=(cJ,dQ (ak k.aj sp.toNat).aZ ad d.size 1,0):=by grind [fE]
     rw[e];exact⟨e,by grind,fun x=>absurd rfl x,fun _=>⟨sp.toNat,ZO,hj,hR,hz,rfl,fun _=>rfl,fun x=>absurd x g⟩⟩
 · have e:fE k sp ad d=(cJ,(0,0),eI k sp d.size 1 [1]):=by grind [fE]
   rw[e];exact⟨e,he,fun _=>⟨rfl,rfl,rfl⟩,fun x=>absurd x c⟩
theorem R9 (zw:oD) (k:aN) (a:fP) (sp ad:Int) (d:ByteArray) (w:World) (hK:fT w a k) (hF:gW k) (hsp:dY sp) (had:dY ad)
  (hbg:∀V,Calls Tryz.prog 15 #[] V fun e w'=>e=.returned (.bool true)/\Below V.heap.size V w') :
  Calls Tryz.prog 6 #[.agg (aT a k),I sp,I ad,.string d] w fun e w'=>e=.returned (.bool true)/\Below w.heap.size w w':=by
 obtain⟨WA,iK⟩:=ex (w.alloc (.cells (aT a k) 27));have hb0:Below w.heap.size w WA:=by grind [Below.refl,Below.alloc]
 have kb:WA.heap[w.heap.size]?=some (.cells (aT a k) 27 (0,0)):=by grind [bG]
 have KB:Hid (∀V,Below WA.heap.size WA V->V.heap[w.heap.size]?=some (.cells #[.slice a.aS k.aA.length a.cS,.slice a.aF k.frames.length a.cF,.slice a.aL k.slots.length a.cL,.slice a.aP k.aj.length a.cP,I k.hand] 27 (0,0))):=fun V hb=>aQ kb hb (aO kb)
 have iF:∀{V:World},Below WA.heap.size WA V->Below w.heap.size w V:=fun hV=>hb0.trans (hV.mono hb0.size)
 have iG:=ai iK;have eO:=ai hb0;have HBG:=ai hbg;have hfit:=qV (VK k sp ad d);have hC:=ag8 k sp ad d;have hST:∀V,Below WA.heap.size WA V->_:=fun V hV=>(CI zw k a sp ad d V (hK.below (iF hV)) hF hsp had)
 obtain⟨K1,Cg⟩:=ex ((fE k sp ad d).1);obtain⟨f1,hf1⟩:=ex ((fE k sp ad d).2.1.1);obtain⟨f2,hf2⟩:=ex ((fE k sp ad d).2.1.2);obtain⟨er,her⟩:=ex ((fE k sp ad d).2.2);rw[<- Cg] at hfit;rw[<- Cg,<- hf1,<- hf2,<- her] at hC;have arN:=ai hfit;have HF1:Hid (Calls Tryz.prog 28 #[.agg (aT a k),I sp,I ad,.string d] WA fun e w'=>∃Kl n11 Kp s12 Kq Ko Kk n13 Kn Kj n14 Km hd1,e=.returned (.tuple #[.agg #[.slice Kl n11 Kp,.slice s12 Kq Ko,.slice Kk n13 Kn,.slice Kj n14 Km,I hd1],.agg #[I f1,I f2],I er])/\jm WA.heap.size K1 #[.slice Kl n11 Kp,.slice s12 Kq Ko,.slice Kk n13 Kn,.slice Kj n14 Km,I hd1] w'/\Below WA.heap.size WA w'):=by
  have:=hST WA (aK _ _);rw[<- Cg,<- hf1,<- hf2,<- her] at this;exact this.mono fun e w' h=>qA h
 have sS:Hid (∀V,Below WA.heap.size WA V->Calls Tryz.prog 19 #[.agg (aT a k),I sp,I (d.size:Int),I 1] V fun e w'=>e=.returned (I er)/\Below V.heap.size V w'):=fun V hV=>by
  have:=Ae k a sp d.size 1 V (hK.below (iF hV)) hF hsp;rw[hC.err] at this;exact this
 have lM:=ai hC.bad;have BQ:Hid (er=0->∃(j:Nat) (pb po:Nat) (aa:Option Addr) (na ca:Nat),sp=(j:Int)/\j<k.aj.length/\a.aP=some (Ad pb po)/\(∀V,Below WA.heap.size WA V->V.cell? (Ad pb (po+j*3+1))=some (.slice aa na ca))/\(∀V,Below WA.heap.size WA V->Calls Tryz.prog 26 #[.slice aa na ca,I ad,I (d.size:Int),I 1] V fun e w'=>e=.returned (.agg #[I f1,I f2])/\Below V.heap.size V w')):=fun h0=>by
  obtain⟨j,g1,g2,g3,g4,g5,g6,g7⟩:=hC.good h0;obtain⟨pb,po,aa,na,ca,r1,r2,r3⟩:=JU (hK.below hb0) g3 g2 ad d.size 1 had g4.2;rw[g5] at r3;exact⟨j,pb,po,aa,na,ca,g1,g2,r1,r2,r3⟩
 have DY:Hid (er=0->(f1≠0->K1=cJ)/\(f1=0->∀V,aH (fun b=>WA.heap.size<=b) WA V->Calls Tryz.prog 29 #[.agg (aT a k),I sp,I ad,.string d] V fun e w'=>∃Hz n21 H6 Hy n22 H5 Fp n23 H4 Hx Ia H0 hd2,e=.returned (.agg #[.slice Hz n21 H6,.slice Hy n22 H5,.slice Fp n23 H4,.slice Hx Ia H0,I hd2])/\jm V.heap.size K1 #[.slice Hz n21 H6,.slice Hy n22 H5,.slice Fp n23 H4,.slice Hx Ia H0,I hd2] w'/\Below V.heap.size V w')):=fun h0=>by
  obtain⟨j,g1,g2,g3,g4,g5,g6,g7⟩:=hC.good h0;refine⟨g6,fun hz V hV=>?_⟩;have QJ:Below WA.heap.size WA V:=aH.below (aK _ _) hV (aM _) (fun b hb=>hb);have:=Ps k a j ad d V (hK.below (iF QJ)) hF g3 g2 g4 (by grind);rw[<- g7 hz,<- g1] at this;exact this.mono fun e w' h=>Tv h
 obtain⟨k0,k1,k2,k3,k4⟩:=dx (KB.o WA (aK _ _));unfold aT at iG HF1 sS DY ⊢;clear hb0 kb iK hbg hK hF iF zw Cg hf1 hf2 her hfit hC hST hsp had;go_enter Tryz.func6,Tryz.ntmps6;go_upto_region 1 with fail;rw[<- iG.o];go_upto_region 2 with(go_at_call 28;refine HF1.o.mono ?_;rintro e w1 ⟨Kl,n11,Kp,s12,Kq,Ko,Kk,n13,Kn,Kj,n14,Km,hd1,rfl,hk1,hb1⟩;have afg:=ai hk1;have cT:=ai hb1;clear hk1 hb1)
 obtain⟨W1,hW1⟩:=ex ((w1.alloc (.cells #[.slice Kl n11 Kp,.slice s12 Kq Ko,.slice Kk n13 Kn,.slice Kj n14 Km,I hd1] 27)).alloc (.cells #[I f1,I f2] 36));have Ib:Hid (Below w1.heap.size w1 W1):=by rw[hW1];exact((aK _ _).alloc (aM _) _).alloc (by simp) _
 have NB1:Hid (W1.heap[w1.heap.size]?=some (.cells #[.slice Kl n11 Kp,.slice s12 Kq Ko,.slice Kk n13 Kn,.slice Kj n14 Km,I hd1] 27 (0,0))):=by rw[hW1];exact bE (bG w1 _ _) _
 have NF1:Hid (W1.heap[w1.heap.size+1]?=some (.cells #[I f1,I f2] 36 (0,0))):=by rw[hW1];exact nN w1 _ _ _
 have HA1:=ai (cT.o.trans (Ib.o.mono cT.o.size));obtain⟨b1,QS⟩:=ex w1.heap.size;have akq:=ai QS;rw[<- hW1];rw[<- QS] at NB1 NF1 ⊢;clear hW1 QS k0 k1 k2 k3 k4;obtain⟨k0,k1,k2,k3,k4⟩:=dx (KB.o _ HA1.o);go_upto_region 3 with(go_at_call 19;refine(sS.o _ HA1.o).mono ?_;rintro e w2 ⟨rfl,hb2⟩;have fq:=ai hb2;clear hb2)
 go_upto_region 5 with fail;obtain⟨W2,hW2⟩:=ex ((w2.alloc (.cells #[Nl,Nl,Nl,Nl,I 0] 27)).alloc (.cells #[I 0,I 0] 36));have Sg:Hid (Below w2.heap.size w2 W2):=by rw[hW2];exact((aK _ _).alloc (aM _) _).alloc (by simp) _
 have NB2:Hid (W2.heap[w2.heap.size]?=some (.cells #[Nl,Nl,Nl,Nl,I 0] 27 (0,0))):=by rw[hW2];exact bE (bG w2 _ _) _
 have NF2:Hid (W2.heap[w2.heap.size+1]?=some (.cells #[I 0,I 0] 36 (0,0))):=by rw[hW2];exact nN w2 _ _ _
 have yo:Hid (Below W1.heap.size W1 W2):=fq.o.trans (Sg.o.mono fq.o.size);obtain⟨b2,Oy⟩:=ex w2.heap.size;have GK:Hid (W1.heap.size<=b2):=by rw[Oy];exact fq.o.size
 rw[<- hW2];rw[<- Oy] at NB2 NF2 ⊢;have Qn:Hid (b1+1<W1.heap.size):=aO NF1.o;have JZ:Hid (WA.heap.size<=b1):=by rw[akq.o];exact cT.o.size
 clear hW2 Oy k0 k1 k2 k3 k4;have xD:=ai (HA1.o.trans (yo.o.mono HA1.o.size));go_upto_if 30 with fail;go_cut [12] (fun x12 wx=>x12=I er/\wx.heap[b2+1]?=some (.cells #[I f1,I f2] 36 (0,0))/\aH (fun b=>b=b2+1) W2 wx)
 case first =>
  by_cases c:er=0
  · obtain⟨j,pb,po,aa,na,ca,rfl,g2,g3,g4,g5⟩:=BQ.o c;have kk:=KB.o _ xD.o;rw[g3] at kk;obtain⟨k0,k1,k2,k3,k4⟩:=dx kk;have v1:=g4 _ xD.o;have KT:(j:Int)<(k.aj.length:Int):=by omega
    have Uf:(0:Int)<=(j:Int):=by omega
    have cb:(er==0)=true:=by simpa using c
    have HFC:=ai (g5 _ xD.o);have Wc:Hid (∀V,Below W2.heap.size W2 V->V.heap[b2+1]?=some (.cells #[I 0,I 0] 36 (0,0))):=fun V hV=>aQ NF2.o hV (aO NF2.o)
    clear c g2 g3 g4 g5 kk BQ DY lM;go_wp2_with (go_at_call 26;refine HFC.o.mono ?_;rintro e w3 ⟨rfl,hb3⟩;have jo:=ai hb3;obtain⟨y0,y1⟩:=kI (Wc.o _ hb3);have u0:=aJ (Wc.o _ hb3) 0;have u1:=aJ (Wc.o _ hb3) 1;clear hb3)
    go_meet
    case rel=>exact⟨rfl,dG (dG (Wc.o _ jo.o) 0 _) 1 _,((aH.b7 jo.o).trans (aH.set (fun b=>b=b2+1) w3 (Ad (b2+1) 0) _ rfl) (fun _ _ g=>g)).trans (aH.set (fun b=>b=b2+1) _ (Ad (b2+1) 1) _ rfl) (fun _ _ g=>g)⟩
  · have cb:(er==0)=false:=by simpa using c
    obtain⟨_,e1,e2⟩:=lM.o c;have Sm:=ai e1;have Ic:=ai e2;clear c e1 e2 BQ DY lM;go_wp2;go_meet
    case rel=>exact⟨rfl,by rw[Sm.o,Ic.o];exact NF2.o,aH.refl _ _⟩
 case rest =>
 obtain⟨rfl,rU,yu⟩:=hcut;obtain⟨W3,hW3⟩:=ex wc;subst hW3;have NF3:=ai rU;have sX:=ai yu;have NB3:Hid (W3.heap[b2]?=some (.cells #[Nl,Nl,Nl,Nl,I 0] 27 (0,0))):=yu.keep NB2.o (by omega);have HW3:Hid (aH (fun b=>WA.heap.size<=b) WA W3):=(aH.b7 xD.o).trans yu (fun b _ e=>by rw[e];have:=GK.o;have:=Qn.o;have:=JZ.o;omega);clear rU yu BQ;obtain⟨d0,d1⟩:=kI NF3.o;go_upto_region 7 with fail;go_cut [47] (fun c wx=>c=.bool (decide (er=0)&&decide (f1=0))/\wx=W3)
 case first =>
  by_cases c:er=0
  · have cb:(er==0)=true:=by simpa using c
    by_cases g:f1=0
    · have gb:(f1==0)=true:=by simpa using g
      have HV:Hid ((decide (er=0)&&decide (f1=0))=true):=by rw[dh c,dh g];rfl
      clear c g;go_wp2;go_meet
      case rel=>exact⟨by rw[HV.o],rfl⟩
    · have gb:(f1==0)=false:=by simpa using g
      have HV:Hid ((decide (er=0)&&decide (f1=0))=false):=by rw[dh c,dE g];rfl
      clear c g;go_wp2;go_meet
      case rel=>exact⟨by rw[HV.o],rfl⟩
  · have cb:(er==0)=false:=by simpa using c
    have HV:Hid ((decide (er=0)&&decide (f1=0))=false):=by rw[dE c];rfl
    clear c;go_wp2;go_meet
    case rel=>exact⟨by rw[HV.o],rfl⟩
 case rest =>
 obtain⟨rfl,hwc⟩:=hcut;have hwc:=hwc.symm;subst hwc;go_upto_if 47 with fail;go_cut [12] (fun x12 wx=>x12=I er/\∃N2 Hz n21 H6 Hy n22 H5 Fp n23 H4 Hx Ia H0 hd2,wx.heap[b2]?=some (.cells #[.slice Hz n21 H6,.slice Hy n22 H5,.slice Fp n23 H4,.slice Hx Ia H0,I hd2] 27 (0,0))/\jm N2 K1 #[.slice Hz n21 H6,.slice Hy n22 H5,.slice Fp n23 H4,.slice Hx Ia H0,I hd2] wx/\aH (fun b=>b=b2) W3 wx)
 case first =>
  by_cases c:er=0/\f1=0
  · have hv:(decide (er=0)&&decide (f1=0))=true:=by rw[dh c.1,dh c.2];rfl
    rw[hv];have D4:Below WA.heap.size WA W3:=aH.below (aK _ _) HW3.o (aM _) (fun b hb=>hb);obtain⟨k0,k1,k2,k3,k4⟩:=dx (KB.o _ D4);have HCS:=ai ((DY.o c.1).2 c.2 W3 HW3.o);have HNB:Hid (∀V,Below W3.heap.size W3 V->V.heap[b2]?=some (.cells #[Nl,Nl,Nl,Nl,I 0] 27 (0,0))):=fun V hV=>aQ NB3.o hV (aO NB3.o)
    have HBL:Hid (b2<W3.heap.size):=aO NB3.o;clear c hv D4 DY lM d0 d1;go_wp2_with (go_at_call 29;refine HCS.o.mono ?_;rintro e w4 ⟨Hz,n21,H6,Hy,n22,H5,Fp,n23,H4,Hx,Ia,H0,hd2,rfl,hk4,hb4⟩;have HK4:=ai hk4;have kO:=ai hb4;have BN:=HNB.o _ hb4;obtain⟨y0,y1,y2,y3,y4⟩:=dx BN;have u0:=aJ BN 0;have u1:=aJ BN 1;have u2:=aJ BN 2;have u3:=aJ BN 3;have u4:=aJ BN 4;clear hk4 hb4 BN)
    go_meet
    case rel =>
     obtain⟨r1,r2⟩:=gY (HNB.o _ kO.o) (.slice Hz n21 H6) (.slice Hy n22 H5) (.slice Fp n23 H4) (.slice Hx Ia H0) (I hd2) rfl;exact⟨rfl,_,_,_,_,_,_,_,_,_,_,_,_,_,_,r1,HK4.o.kp (r2.mono (fun b _ e=>by rw[e];exact HBL.o)),(aH.b7 kO.o).trans r2 (fun _ _ g=>g)⟩
  · have hv:(decide (er=0)&&decide (f1=0))=false:=by
     by_cases c1:er=0
     · rw[dh c1,dE (fun x=>c ⟨c1,x⟩)];rfl
     · rw[dE c1];rfl
    have hk:K1=cJ:=by
     by_cases c1:er=0
     · exact(DY.o c1).1 (fun x=>c ⟨c1,x⟩)
     · exact(lM.o c1).1
    rw[hv];have ZK:=ai hk;clear c hv hk DY lM d0 d1;go_wp2;go_meet
    case rel=>exact⟨rfl,0,_,_,_,_,_,_,_,_,_,_,_,_,_,NB3.o,by rw[ZK.o];exact C8 _ _,aH.refl _ _⟩
 case rest =>
 obtain⟨rfl,N2,Hz,n21,H6,Hy,n22,H5,Fp,n23,H4,Hx,Ia,H0,hd2,hnb,hk2,yu⟩:=hcut;obtain⟨W4,L8⟩:=ex wc;subst L8;have NB4:=ai hnb;have Sk:=ai hk2;have NF4:Hid (W4.heap[b2+1]?=some (.cells #[I f1,I f2] 36 (0,0))):=yu.keep NF3.o (by omega);have HW4:Hid (aH (fun b=>b=b2+1∨b=b2) W2 W4):=(sX.o.mono (fun b _ e=>.inl e)).trans yu (fun b _ e=>.inr e);have amJ:Hid (W4.heap[b1]?=some (.cells #[.slice Kl n11 Kp,.slice s12 Kq Ko,.slice Kk n13 Kn,.slice Kj n14 Km,I hd1] 27 (0,0))):=HW4.o.keep (aQ NB1.o yo.o (aO NB1.o)) (by have:=GK.o;have:=Qn.o;omega);have amI:Hid (W4.heap[b1+1]?=some (.cells #[I f1,I f2] 36 (0,0))):=HW4.o.keep (aQ NF1.o yo.o (aO NF1.o)) (by have:=GK.o;have:=Qn.o;omega);have Y1:Hid (∀V,Below W4.heap.size W4 V->aH (fun b=>b<WA.heap.size) w1 V):=fun V hV=>(((aH.b7 (Ib.o.trans (yo.o.mono Ib.o.size))).trans HW4.o (fun b hb e=>by have:=GK.o;have:=Ib.o.size;omega)).trans (aH.b7 (D:=fun _=>False) hV) (fun _ _ g=>g.elim))
 have Di:Hid (∀V,Below W4.heap.size W4 V->Below w.heap.size w V):=fun V hV=>by
  have h1:aH (fun b=>WA.heap.size<=b) WA W4:=(aH.b7 xD.o).trans HW4.o (fun b _ e=>by have:=GK.o;have:=Qn.o;have:=JZ.o;omega);have h2:Below WA.heap.size WA W4:=aH.below (aK _ _) h1 (aM _) (fun b hb=>hb);exact eO.o.trans ((h2.trans (hV.mono h2.size)).mono eO.o.size)
 have HSA:Hid (∀V,Below W4.heap.size W4 V->Calls Tryz.prog 20 #[.agg #[.slice Kl n11 Kp,.slice s12 Kq Ko,.slice Kk n13 Kn,.slice Kj n14 Km,I hd1],.agg #[.slice Hz n21 H6,.slice Hy n22 H5,.slice Fp n23 H4,.slice Hx Ia H0,I hd2]] V fun e w'=>e=.returned (.bool true)/\Below V.heap.size V w'):=fun V hV=>sG afg.o Sk.o arN.o (Y1.o V hV) (aH.b7 hV)
 have HN5:Hid (∀V,Below W4.heap.size W4 V->V.heap[b1]?=some (.cells #[.slice Kl n11 Kp,.slice s12 Kq Ko,.slice Kk n13 Kn,.slice Kj n14 Km,I hd1] 27 (0,0))/\V.heap[b1+1]?=some (.cells #[I f1,I f2] 36 (0,0))/\V.heap[b2]?=some (.cells #[.slice Hz n21 H6,.slice Hy n22 H5,.slice Fp n23 H4,.slice Hx Ia H0,I hd2] 27 (0,0))/\V.heap[b2+1]?=some (.cells #[I f1,I f2] 36 (0,0))):=fun V hV=>⟨aQ amJ.o hV (aO amJ.o),aQ amI.o hV (aO amI.o),aQ NB4.o hV (aO NB4.o),aQ NF4.o hV (aO NF4.o)⟩
 clear hnb hk2 yu d0 d1 DY lM HW4 Y1;go_wp2_with (first
  | (go_at_call 15;refine(HBG.o _).mono ?_;rintro e w6 ⟨rfl,Bi⟩;have Sn:=ai Bi;obtain⟨m1,m2,m3,m4⟩:=HN5.o _ Bi;obtain⟨x0,x1,x2,x3,x4⟩:=dx m1;obtain⟨x5,x6⟩:=kI m2;obtain⟨y0,y1,y2,y3,y4⟩:=dx m3;obtain⟨y5,y6⟩:=kI m4;clear Bi m1 m2 m3 m4)
  | (go_at_call 20;refine(HSA.o _ Sn.o).mono ?_;rintro e w7 ⟨rfl,hb7⟩;have Ns:=ai (Sn.o.trans (hb7.mono Sn.o.size));clear hb7))
 go_ret;exact⟨rfl,Di.o _ Ns.o⟩
end Go.Proofs.YtpgifpeohlllfaaGreat
end Go.Proofs.YtpgifpeohlllfaaGreat
