import Derived.Test.YtpgifpeohlllfaaGreatGV40
set_option maxHeartbeats 20000000
set_option linter.unusedVariables false
set_option maxRecDepth 100000
set_option linter.unusedSimpArgs false
namespace Go.Proofs.YtpgifpeohlllfaaGreat
namespace Go.Proofs.YtpgifpeohlllfaaGreat
open Go.RowKit
def oF (f:Int->ByteArray) (a:Int):Nat->ByteArray
 | 0=>⟨#[]⟩
 | k+1=>oF f a k++(f ((a+(k:Int))/16)).extract ((a+(k:Int))%16).toNat (((a+(k:Int))%16+1).toNat)
theorem xB {f:Int->ByteArray} {a:Int} {n:Nat} (h:∀k:Nat,k<n->(f ((a+(k:Int))/16)).size=16):∀k,k<=n->(oF f a k).size=k:=fun k=>by
 induction k with
 | zero=>intro _;rfl
 | succ k ih =>
  grind [oF,ByteArray.size_extract]
theorem PB {f:Int->ByteArray} {a:Int} {n:Nat} (h:∀k:Nat,k<n->(f ((a+(k:Int))/16)).size=16):∀k,k<=n->∀i:Nat,i<k->(oF f a k).data.toList[i]?=(f ((a+(i:Int))/16)).data.toList[((a+(i:Int))%16).toNat]?:=fun k=>by
 induction k with
 | zero=>omega
 | succ k ih =>
  intro hk i hi;show(oF f a k++_).data.toList[i]?=_;rw[P6,xB h k (by omega)];by_cases c:i<k
  · grind
  · obtain rfl:i=k:=by omega
    rw[bl c,Nat.sub_self,y7,bf (by omega),gV]
theorem Rt {f:Int->ByteArray} {a n:Int} (hp:pX f a n) (h1:1<=n) (h8:n<=8) (h:∀k:Nat,k<n.toNat->(f ((a+(k:Int))/16)).size=16):oF f a n.toNat=yU f a n:=by
 refine JW fun i=>?_
 by_cases c:i<n.toNat
 · rw[PB h _ (aM _) i c,YE hp h1 h8 i (by omega)]
 · have e1:=xB h _ (aM _)
   simp_all [VB]
theorem PC (k:aN) (a:fP) (j:Nat) (ad:Int) (n:Nat) (w:World) (hK:fT w a k) (hF:gW k) (hR:bg k) (hj:j<k.aj.length) (h0:0<=ad/\ad<=100000) (hn:n<=1000) (hm:∀i:Nat,i<n->cV k j ((ad+(i:Int))/16)) :
  Calls Tryz.prog 27 #[.agg (aT a k),I (j:Int),I ad,I (n:Int)] w fun e w'=>e=.returned (.string (oF (cQ k j) ad n))/\Below w.heap.size w w':=by
 have ZI:Hid (∀V (i:Nat),i<n->Below w.heap.size w V->Calls Tryz.prog 32 #[.agg (aT a k),I (j:Int),I ((ad+(i:Int))/16)] V fun e w'=>e=.returned (.string (cQ k j ((ad+(i:Int))/16)))/\Below V.heap.size V w'):=fun V i hi hV=>Rq k a j _ V (hK.below hV) hF hR hj (hm i hi)
 have hz:∀i:Nat,i<n->(cQ k j ((ad+(i:Int))/16)).size=16:=fun i hi=>kX hR hj (hm i hi)
 have HZ:=ai hz;have HSZ:=ai (xB hz);have HST:Hid (∀i:Nat,oF (cQ k j) ad (i+1)=oF (cQ k j) ad i++(cQ k j ((ad+(i:Int))/16)).extract ((ad+(i:Int))%16).toNat (((ad+(i:Int))%16+1).toNat)):=fun i=>rfl
 obtain⟨f,hf⟩:=ex (cQ k j);rw[<- hf] at ZI HZ HSZ HST ⊢;have eO:=ai ((aK w.heap.size w).alloc (aM _) (.cells (aT a k) 27));have BX:=ai (bG w (aT a k) 27);unfold aT at ZI eO BX ⊢;clear hK hF hR hj hm hz hf;go_enter Tryz.func27,Tryz.ntmps27;go_wp2;go_loopw [9,10] (fun sv iv wr=>∃i:Nat,i<=n/\iv=I (ad+(i:Int))/\sv=.string (oF f ad i)/\wr.heap[w.heap.size]?=some (.cells #[.slice a.aS k.aA.length a.cS,.slice a.aF k.frames.length a.cF,.slice a.aL k.slots.length a.cL,.slice a.aP k.aj.length a.cP,I k.hand] 27 (0,0))/\Below w.heap.size w wr) (fun _ iv _=>(ad+(n:Int)-intOf iv).toNat)
 case atStart=>exact⟨0,by omega,by go_num,rfl,BX.o,eO.o⟩
 case round =>
  obtain⟨i,hi,rfl,rfl,hx,hb⟩:=hrel;have HB:=ai hb;have HX:=ai hx;obtain⟨x0,x1,x2,x3,x4⟩:=dx hx;by_cases hlt:i<n
  · have ao3:=HZ.o i hlt;have hsz:=HSZ.o i hi;have HS:=ai (HST.o i);have Gh:=ai (ZI.o wr i hlt hb);obtain⟨D,hD⟩:=ex (f ((ad+(i:Int))/16));obtain⟨A,hA⟩:=ex (oF f ad i);rw[<- hD] at HS Gh ao3;rw[<- hA] at HS hsz ⊢;have hq0:0<=ad+(i:Int):=by omega
    have Bl:ad+(i:Int)<ad+(n:Int):=by omega
    clear hD hA hx hb;go_wp2_with (go_at_call 32;refine Gh.o.mono ?_;rintro e w1 ⟨rfl,hb1⟩;have cT:=ai (HB.o.trans (hb1.mono HB.o.size));have Ib:=ai (aQ HX.o hb1 (aO HX.o));clear hb1)
    go_roundw
    case rel=>exact⟨i+1,by omega,by go_num,by rw[HS.o],Ib.o,cT.o⟩
    case measure=>simp[intOf];omega
  · obtain rfl:n=i:=by omega
    clear hx hb;go_wp2;go_ret;exact⟨rfl,HB.o⟩
theorem YN (k:aN) (sp n way:Int):eI k sp n way [0,2]=if eI k sp n way [0,1,2]=0/\way=1 then 10 else eI k sp n way [0,1,2]:=by
 grind [eI]
structure VL (k:aN) (sp ad n way:Int) (KA:aN) (x1 x2 er:Int) (KB:aN) (s:ByteArray) (y1 y2 fr:Int):Prop where
 err:eI k sp n way [0,1,2]=er
 ver:fr=if er=0/\way=1 then 10 else er
 bad:er≠0->KA=cJ/\x1=0/\x2=0
 good:er=0->∃j:Nat,sp=(j:Int)/\j<k.aj.length/\bg k/\(1<=n/\n<=8)/\dQ (ak k.aj j).aZ ad n way=(x1,x2)/\(x1≠0->KA=cJ)/\(x1=0->KA=(bh k j ad n way).2)
 no:fr≠0->KB=cJ/\y1=0/\y2=0/\s=⟨#[]⟩
 yes:fr=0->er=0/\y1=x1/\y2=x2/\KB=KA/\(x1≠0->s=⟨#[]⟩)/\(x1=0->s=o9 k sp.toNat ad n way)
theorem ag9 (k:aN) (sp ad n way:Int):VL k sp ad n way (iC k sp ad n way).1 (iC k sp ad n way).2.1.1 (iC k sp ad n way).2.1.2 (iC k sp ad n way).2.2 (gL k sp ad n way).1 (gL k sp ad n way).2.1 (gL k sp ad n way).2.2.1.1 (gL k sp ad n way).2.2.1.2 (gL k sp ad n way).2.2.2:=by
 have hw:=YN k sp n way;obtain⟨fr,Ge⟩:=ex (eI k sp n way [0,2]);by_cases c:eI k sp n way [0,1,2]=0
 · have hw0:fr=if (0:Int)=0/\way=1 then 10 else 0:=by omega
   obtain⟨hl,hz,_⟩:=r9 c;obtain⟨hR,hs0,hj,_⟩:=jy hl;have ZO:sp=((sp.toNat:Nat):Int):=by omega
   by_cases g:(dQ (ak k.aj sp.toNat).aZ ad n way).1=0
   · have Ov:=(kS hz.1 hz.2 g).1;have e:iC k sp ad n way=((bh k sp.toNat ad n way).2,(0,0),0):=by grind [iC]
     by_cases c2:fr=0
     · have e2:gL k sp ad n way=((bh k sp.toNat ad n way).2,o9 k sp.toNat ad n way,(0,0),0):=by grind [gL]
       rw[e,e2];exact⟨c,c2.symm.trans hw0,fun x=>absurd rfl x,fun _=>⟨sp.toNat,ZO,hj,hR,hz,Ov,fun x=>absurd rfl x,fun _=>rfl⟩,fun x=>absurd rfl x,fun _=>⟨rfl,rfl,rfl,rfl,fun x=>absurd rfl x,fun _=>rfl⟩⟩
     · have e2:gL k sp ad n way=(cJ,⟨#[]⟩,(0,0),fr):=by grind [gL]
       rw[e,e2];exact⟨c,hw0,fun x=>absurd rfl x,fun _=>⟨sp.toNat,ZO,hj,hR,hz,Ov,fun x=>absurd rfl x,fun _=>rfl⟩,fun _=>⟨rfl,rfl,rfl,rfl⟩,fun x=>absurd x c2⟩
   · have e:iC k sp ad n way=(cJ,dQ (ak k.aj sp.toNat).aZ ad n way,0):=by grind [iC]
     by_cases c2:fr=0
     · have e2:gL k sp ad n way=(cJ,⟨#[]⟩,dQ (ak k.aj sp.toNat).aZ ad n way,0):=by grind [gL]
       rw[e,e2];exact⟨c,c2.symm.trans hw0,fun x=>absurd rfl x,fun _=>⟨sp.toNat,ZO,hj,hR,hz,rfl,fun _=>rfl,fun x=>absurd x g⟩,fun x=>absurd rfl x,fun _=>⟨rfl,rfl,rfl,rfl,fun _=>rfl,fun x=>absurd x g⟩⟩
     · have e2:gL k sp ad n way=(cJ,⟨#[]⟩,(0,0),fr):=by grind [gL]
       rw[e,e2];exact⟨c,hw0,fun x=>absurd rfl x,fun _=>⟨sp.toNat,ZO,hj,hR,hz,rfl,fun _=>rfl,fun x=>absurd x g⟩,fun _=>⟨rfl,rfl,rfl,rfl⟩,fun x=>absurd x c2⟩
 · have e:iC k sp ad n way=(cJ,(0,0),eI k sp n way [0,1,2]):=by grind [iC]
   have c2:fr≠0:=by omega
   have e2:gL k sp ad n way=(cJ,⟨#[]⟩,(0,0),fr):=by grind [gL]
   rw[e,e2];exact⟨rfl,by grind,fun _=>⟨rfl,rfl,rfl⟩,fun x=>absurd x c,fun _=>⟨rfl,rfl,rfl,rfl⟩,fun x=>absurd x c2⟩
theorem JT {k:aN} {sp ad n way:Int} {KA:aN} {x1 x2 er:Int} {KB:aN} {s:ByteArray} {y1 y2 fr:Int} (h:VL k sp ad n way KA x1 x2 er KB s y1 y2 fr):(KA=cJ∨bg KA)/\(KB=cJ∨bg KB):=by
 have hA:KA=cJ∨bg KA:=by
  by_cases c:er=0
  · obtain⟨j,g1,g2,g3,g4,g5,g6,g7⟩:=h.good c;by_cases e:x1=0
    · rw[g7 e];obtain⟨_,hal,hau,hmap⟩:=kS g4.1 g4.2 (show(dQ (ak k.aj j).aZ ad n way).1=0 by grind);have qP:cV k j (ad/16):=by have:=hmap 0 (by omega) (by omega);rw[xM] at this;exact this
      have hm2:cV k j (bK ad n):=by have:=hmap (n-1) (by omega) (by omega);unfold bK;rw[show ad+n-1=ad+(n-1) by omega];exact this
      grind [l8,P8.right]
    grind
  grind [VL.bad]
 refine⟨hA,?_⟩;by_cases c:fr=0
 · rw[(h.yes c).2.2.2.1];exact hA
 grind [VL.no]
theorem Sa {N:Nat} {k:aN} {c:Array Value} {V U:World} {j:Nat} {ad n way:Int} (hR:bg k) (hj:j<k.aj.length) (hn:1<=n/\n<=8) (hf:(dQ (ak k.aj j).aZ ad n way).1=0) (h:jm N (bh k j ad n way).2 c V) (g:aH (fun b=>b<N) V U) :
  Calls Tryz.prog 27 #[.agg c,I (j:Int),I ad,I n] U fun e w'=>e=.returned (.string (o9 k j ad n way))/\Below U.heap.size U w':=by
 obtain⟨hs,a,h1,h2,h3⟩:=h;subst h2;obtain⟨_,hal,hau,hmap⟩:=kS hn.1 hn.2 hf;have qP:cV k j (ad/16):=by have:=hmap 0 (by omega) (by omega);rw[xM] at this;exact this
 have hm2:cV k j (bK ad n):=by have:=hmap (n-1) (by omega) (by omega);unfold bK;rw[show ad+n-1=ad+(n-1) by omega];exact this
 have R:=l8 hR hj ad n way qP hm2;have hRs:=R.right.Dn h1;have hjs:j<(bu (bh k j ad n way).2 hs).aj.length:=by show j<(bh k j ad n way).2.aj.length;rw[R.kept.np];exact hj
 have hpk:cQ (bu (bh k j ad n way).2 hs) j=cQ k j:=funext fun p=>by rw[RO h1,R.kept.QP j hj]
 have hms:∀i:Nat,i<n.toNat->cV (bu (bh k j ad n way).2 hs) j ((ad+(i:Int))/16):=fun i hi=>by
  have:=hmap (i:Int) (by omega) (by omega);exact R.kept.mapped hj this
 have hsz:∀i:Nat,i<n.toNat->(cQ k j ((ad+(i:Int))/16)).size=16:=fun i hi=>kX hR hj (hmap (i:Int) (by omega) (by omega))
 have hP:pX (cQ k j) ad n:=⟨kX hR hj qP,kX hR hj hm2⟩;have:=PC _ a j ad n.toNat U (h3 U g) (qB hRs) hRs hjs (by omega) (by omega) hms;rw[hpk,Rt hP hn.1 hn.2 hsz,<- aaW hR hj ad n way qP hm2,show((n.toNat:Nat):Int)=n by omega] at this;exact this
theorem aha {W:World} {b4 b6:Nat} (h4:W.heap[b4]?=some (.cells #[Nl,Nl,Nl,Nl,I 0] 27 (0,0))) (h6:W.heap[b6]?=some (.cells #[I 0,I 0] 36 (0,0))) (m:b4≠b6) (x1 x2 s f l p h:Value) {V:World} (hV:V=(((((((W.setCell (Ad b6 0) x1).setCell (Ad b6 1) x2).setCell (Ad b4 0) s).setCell (Ad b4 1) f).setCell (Ad b4 2) l).setCell (Ad b4 3) p).setCell (Ad b4 4) h).drew) :
  V.heap[b4]?=some (.cells #[s,f,l,p,h] 27 (0,0))/\V.heap[b6]?=some (.cells #[x1,x2] 36 (0,0))/\aH (fun b=>b=b4∨b=b6) W V:=by
 have p1:((W.setCell (Ad b6 0) x1).setCell (Ad b6 1) x2).heap[b6]?=some (.cells #[x1,x2] 36 (0,0)):=dG (dG h6 0 x1) 1 x2;have p2:aH (fun b=>b=b6) W ((W.setCell (Ad b6 0) x1).setCell (Ad b6 1) x2):=(aH.set (fun b=>b=b6) W (Ad b6 0) x1 rfl).trans (aH.set (fun b=>b=b6) _ (Ad b6 1) x2 rfl) (fun _ _ g=>g);obtain⟨r1,r2⟩:=gY (p2.keep h4 (show ¬b4=b6 from m)) s f l p h rfl;subst hV;exact⟨aH.keep (aH.drew (fun _=>False) _) r1 (fun x=>x),aH.keep (aH.drew (fun _=>False) _) (r2.keep p1 (fun x=>m x.symm)) (fun x=>x),((p2.mono (fun b _ e=>.inr e)).trans r2 (fun b _ e=>.inl e)).trans (aH.drew (fun _=>False) _) (fun _ _ g=>g.elim)⟩
theorem Qa (zw:oD) (k:aN) (a:fP) (sp ad n way:Int) (w:World) (hK:fT w a k) (hF:gW k) (hsp:dY sp) (had:dY ad)
  (hbg:∀V,Calls Tryz.prog 15 #[] V fun e w'=>e=.returned (.bool true)/\Below V.heap.size V w') :
  Calls Tryz.prog 5 #[.agg (aT a k),I sp,I ad,I n,I way] w fun e w'=>e=.returned (.bool true)/\Below w.heap.size w w':=by
 obtain⟨WA,iK⟩:=ex (w.alloc (.cells (aT a k) 27));have hb0:Below w.heap.size w WA:=by grind [Below.refl,Below.alloc]
 have kb:WA.heap[w.heap.size]?=some (.cells (aT a k) 27 (0,0)):=by grind [bG]
 have KB0:Hid (∀V,Below WA.heap.size WA V->V.heap[w.heap.size]?=some (.cells #[.slice a.aS k.aA.length a.cS,.slice a.aF k.frames.length a.cF,.slice a.aL k.slots.length a.cL,.slice a.aP k.aj.length a.cP,I k.hand] 27 (0,0))):=fun V hb=>aQ kb hb (aO kb)
 have iF:∀{V:World},Below WA.heap.size WA V->Below w.heap.size w V:=fun hV=>hb0.trans (hV.mono hb0.size)
 have iG:=ai iK;have eO:=ai hb0;have HBG:=ai hbg;have hC:=ag9 k sp ad n way;have hST:∀V,Below WA.heap.size WA V->_:=fun V hV=>(UI zw k a sp ad n way V (hK.below (iF hV)) hF hsp had)
 have hSL:∀V,Below WA.heap.size WA V->_:=fun V hV=>(Me zw k a sp ad n way V (hK.below (iF hV)) hF hsp had)
 obtain⟨KA,hKA⟩:∃K1,K1=(iC k sp ad n way).1:=⟨_,rfl⟩;obtain⟨x1,hx1⟩:∃f1,f1=(iC k sp ad n way).2.1.1:=⟨_,rfl⟩;obtain⟨x2,hx2⟩:∃f2,f2=(iC k sp ad n way).2.1.2:=⟨_,rfl⟩;obtain⟨er,her⟩:=ex ((iC k sp ad n way).2.2);obtain⟨KL,hKL⟩:∃K1,K1=(gL k sp ad n way).1:=⟨_,rfl⟩;obtain⟨st,hst⟩:∃s,s=(gL k sp ad n way).2.1:=⟨_,rfl⟩;obtain⟨y1,hy1⟩:∃f1,f1=(gL k sp ad n way).2.2.1.1:=⟨_,rfl⟩;obtain⟨y2,hy2⟩:∃f2,f2=(gL k sp ad n way).2.2.1.2:=⟨_,rfl⟩;obtain⟨fr,Ge⟩:∃er,er=(gL k sp ad n way).2.2.2:=⟨_,rfl⟩;rw[<- hKA,<- hx1,<- hx2,<- her,<- hKL,<- hst,<- hy1,<- hy2,<- Ge] at hC;have zx:=ai (qV (JT hC).1);have HFB:=ai (qV (JT hC).2);have HF1:Hid (Calls Tryz.prog 17 #[.agg (aT a k),I sp,I ad,I n,I way] WA fun e w'=>∃Kl n11 Kp s12 Kq Ko Kk n13 Kn Kj n14 Km hd1,e=.returned (.tuple #[.agg #[.slice Kl n11 Kp,.slice s12 Kq Ko,.slice Kk n13 Kn,.slice Kj n14 Km,I hd1],.agg #[I x1,I x2],I er])/\jm WA.heap.size KA #[.slice Kl n11 Kp,.slice s12 Kq Ko,.slice Kk n13 Kn,.slice Kj n14 Km,I hd1] w'/\Below WA.heap.size WA w'):=by
  have:=hST WA (aK _ _);rw[<- hKA,<- hx1,<- hx2,<- her] at this;exact this.mono fun e w' h=>qA h
 have E7:Hid (∀V,Below WA.heap.size WA V->Calls Tryz.prog 25 #[.agg (aT a k),I sp,I ad,I n,I way] V fun e w'=>∃Hz n21 H6 Hy n22 H5 Fp n23 H4 Hx Ia H0 hd2,e=.returned (.tuple #[.agg #[.slice Hz n21 H6,.slice Hy n22 H5,.slice Fp n23 H4,.slice Hx Ia H0,I hd2],.string st,.agg #[I y1,I y2],I fr])/\jm V.heap.size KL #[.slice Hz n21 H6,.slice Hy n22 H5,.slice Fp n23 H4,.slice Hx Ia H0,I hd2] w'/\Below V.heap.size V w'):=fun V hV=>by
  have:=hSL V hV;rw[<- hKL,<- hst,<- hy1,<- hy2,<- Ge] at this;exact this.mono fun e w' h=>qA h
 have sS:Hid (∀V,Below WA.heap.size WA V->Calls Tryz.prog 19 #[.agg (aT a k),I sp,I n,I way] V fun e w'=>e=.returned (I er)/\Below V.heap.size V w'):=fun V hV=>by
  have:=Ae k a sp n way V (hK.below (iF hV)) hF hsp;rw[hC.err] at this;exact this
 have lM:=ai hC.bad;have ajH:=ai hC.ver;have pq:=ai hC.no;have vh:=ai hC.yes;have BQ:Hid (er=0->∃(j:Nat) (pb po:Nat) (aa:Option Addr) (na ca:Nat),sp=(j:Int)/\j<k.aj.length/\a.aP=some (Ad pb po)/\(∀V,Below WA.heap.size WA V->V.cell? (Ad pb (po+j*3+1))=some (.slice aa na ca))/\(∀V,Below WA.heap.size WA V->Calls Tryz.prog 26 #[.slice aa na ca,I ad,I n,I way] V fun e w'=>e=.returned (.agg #[I x1,I x2])/\Below V.heap.size V w')):=fun h0=>by
  obtain⟨j,g1,g2,g3,g4,g5,g6,g7⟩:=hC.good h0;obtain⟨pb,po,aa,na,ca,r1,r2,r3⟩:=JU (hK.below hb0) g3 g2 ad n way had g4.2;rw[g5] at r3;exact⟨j,pb,po,aa,na,ca,g1,g2,r1,r2,r3⟩
 have DY:Hid (er=0->(x1≠0->KA=cJ)/\(x1=0->(∀V,aH (fun b=>WA.heap.size<=b) WA V->Calls Tryz.prog 21 #[.agg (aT a k),I sp,I ad,I n,I way] V fun e w'=>∃KG KQ KM KE n32 KJ KD KO KI Ki KN KH hd3,e=.returned (.agg #[.slice KG KQ KM,.slice KE n32 KJ,.slice KD KO KI,.slice Ki KN KH,I hd3])/\jm V.heap.size KA #[.slice KG KQ KM,.slice KE n32 KJ,.slice KD KO KI,.slice Ki KN KH,I hd3] w'/\Below V.heap.size V w')/\∀N c V U,jm N KA c V->aH (fun b=>b<N) V U->Calls Tryz.prog 27 #[.agg c,I sp,I ad,I n] U fun e w'=>e=.returned (.string (o9 k sp.toNat ad n way))/\Below U.heap.size U w')):=fun h0=>by
  obtain⟨j,g1,g2,g3,g4,g5,g6,g7⟩:=hC.good h0;refine⟨g6,fun hz=>⟨fun V hV=>?_,fun N c V U h1 h2=>?_⟩⟩
  · have QJ:Below WA.heap.size WA V:=aH.below (aK _ _) hV (aM _) (fun b hb=>hb);have:=Et k a j ad n way V (hK.below (iF QJ)) hF g3 g2 g4 (by rw[g5];exact hz);rw[<- g7 hz,<- g1] at this;exact this.mono fun e w' h=>Tv h
  · rw[g7 hz] at h1;have:=Sa g3 g2 g4 (by rw[g5];exact hz) h1 h2;rw[g1,iu];exact this
 obtain⟨k0,k1,k2,k3,k4⟩:=dx (KB0.o WA (aK _ _));unfold aT at iG HF1 E7 sS DY ⊢;clear hb0 kb iK hbg hK hF iF zw hKA hx1 hx2 her hKL hst hy1 hy2 Ge hC hST hSL hsp had;go_enter Tryz.func5,Tryz.ntmps5;go_upto_region 1 with fail;rw[<- iG.o];go_upto_region 2 with(go_at_call 17;refine HF1.o.mono ?_;rintro e w1 ⟨Kl,n11,Kp,s12,Kq,Ko,Kk,n13,Kn,Kj,n14,Km,hd1,rfl,hk1,hb1⟩;have afg:=ai hk1;have cT:=ai hb1;clear hk1 hb1)
 obtain⟨W1,hW1⟩:=ex ((w1.alloc (.cells #[.slice Kl n11 Kp,.slice s12 Kq Ko,.slice Kk n13 Kn,.slice Kj n14 Km,I hd1] 27)).alloc (.cells #[I x1,I x2] 36));have Ib:Hid (Below w1.heap.size w1 W1):=by rw[hW1];exact((aK _ _).alloc (aM _) _).alloc (by simp) _
 have NB1:Hid (W1.heap[w1.heap.size]?=some (.cells #[.slice Kl n11 Kp,.slice s12 Kq Ko,.slice Kk n13 Kn,.slice Kj n14 Km,I hd1] 27 (0,0))):=by rw[hW1];exact bE (bG w1 _ _) _
 have NF1:Hid (W1.heap[w1.heap.size+1]?=some (.cells #[I x1,I x2] 36 (0,0))):=by rw[hW1];exact nN w1 _ _ _
 have HA1:=ai (cT.o.trans (Ib.o.mono cT.o.size));obtain⟨b1,QS⟩:=ex w1.heap.size;have akq:=ai QS;rw[<- hW1];rw[<- QS] at NB1 NF1 ⊢;clear hW1 QS k0 k1 k2 k3 k4;obtain⟨k0,k1,k2,k3,k4⟩:=dx (KB0.o _ HA1.o);go_upto_region 3 with(go_at_call 25;refine(E7.o _ HA1.o).mono ?_;rintro e w2 ⟨Hz,n21,H6,Hy,n22,H5,Fp,n23,H4,Hx,Ia,H0,hd2,rfl,hk2,hb2⟩;have Sk:=ai hk2;have fq:=ai hb2;clear hk2 hb2)
 obtain⟨W2,hW2⟩:=ex ((w2.alloc (.cells #[.slice Hz n21 H6,.slice Hy n22 H5,.slice Fp n23 H4,.slice Hx Ia H0,I hd2] 27)).alloc (.cells #[I y1,I y2] 36));have Sg:Hid (Below w2.heap.size w2 W2):=by rw[hW2];exact((aK _ _).alloc (aM _) _).alloc (by simp) _
 have NB2:Hid (W2.heap[w2.heap.size]?=some (.cells #[.slice Hz n21 H6,.slice Hy n22 H5,.slice Fp n23 H4,.slice Hx Ia H0,I hd2] 27 (0,0))):=by rw[hW2];exact bE (bG w2 _ _) _
 have NF2:Hid (W2.heap[w2.heap.size+1]?=some (.cells #[I y1,I y2] 36 (0,0))):=by rw[hW2];exact nN w2 _ _ _
 have yo:Hid (Below W1.heap.size W1 W2):=fq.o.trans (Sg.o.mono fq.o.size);obtain⟨b2,Oy⟩:=ex w2.heap.size;have arZ:=ai Oy;have GK:Hid (W1.heap.size<=b2):=by rw[Oy];exact fq.o.size
 rw[<- hW2];rw[<- Oy] at NB2 NF2 ⊢;clear hW2 Oy k0 k1 k2 k3 k4;have xD:=ai (HA1.o.trans (yo.o.mono HA1.o.size));obtain⟨k0,k1,k2,k3,k4⟩:=dx (KB0.o _ xD.o);go_upto_region 5 with(go_at_call 19;refine(sS.o _ xD.o).mono ?_;rintro e w3 ⟨rfl,hb3⟩;have jo:=ai hb3;clear hb3)
 clear k0 k1 k2 k3 k4;go_cut [57] (fun c wx=>c=.bool (decide (er=0)&&decide (way=1))/\wx=w3)
 case first =>
  by_cases c:er=0
  · have cb:(er==0)=true:=by simpa using c
    by_cases g:way=1
    · have gb:(way==1)=true:=by simpa using g
      have HV:Hid ((decide (er=0)&&decide (way=1))=true):=by rw[dh c,dh g];rfl
      clear c g;go_wp2;go_meet
      case rel=>exact⟨by rw[HV.o],rfl⟩
    · have gb:(way==1)=false:=by simpa using g
      have HV:Hid ((decide (er=0)&&decide (way=1))=false):=by rw[dh c,dE g];rfl
      clear c g;go_wp2;go_meet
      case rel=>exact⟨by rw[HV.o],rfl⟩
  · have cb:(er==0)=false:=by simpa using c
    have HV:Hid ((decide (er=0)&&decide (way=1))=false):=by rw[dE c];rfl
    clear c;go_wp2;go_meet
    case rel=>exact⟨by rw[HV.o],rfl⟩
 case rest =>
 obtain⟨rfl,hwc⟩:=hcut;have hwc:=hwc.symm;subst hwc;go_upto_if 57 with fail;go_cut [19] (fun x wx=>x=I fr/\wx=w3)
 case first =>
  by_cases c:er=0/\way=1
  · have hv:(decide (er=0)&&decide (way=1))=true:=by rw[dh c.1,dh c.2];rfl
    have hf:fr=10:=by rw[ajH.o,bf c]
    have HV:=ai hf;rw[hv];clear c hv hf;go_wp2;go_meet
    case rel=>exact⟨by rw[HV.o],rfl⟩
  · have hv:(decide (er=0)&&decide (way=1))=false:=by
     by_cases c1:er=0
     · rw[dh c1,dE (fun x=>c ⟨c1,x⟩)];rfl
     · rw[dE c1];rfl
    have hf:fr=er:=by rw[ajH.o,bl c]
    have HV:=ai hf;rw[hv];clear c hv hf;go_wp2;go_meet
    case rel=>exact⟨by rw[HV.o],rfl⟩
 case rest =>
 obtain⟨rfl,hwc⟩:=hcut;have hwc:=hwc.symm;subst hwc;go_upto_region 10 with fail;obtain⟨W3,hW3⟩:=ex ((((w3.alloc (.cells #[Nl,Nl,Nl,Nl,I 0] 27)).alloc (.cells #[Nl,Nl,Nl,Nl,I 0] 27)).alloc (.cells #[I 0,I 0] 36)).alloc (.cells #[I 0,I 0] 36));have LF:Hid (Below w3.heap.size w3 W3):=by rw[hW3];exact((((aK _ _).alloc (aM _) _).alloc (by simp) _).alloc (by simp;omega) _).alloc (by simp;omega) _
 have N3:Hid (W3.heap[w3.heap.size]?=some (.cells #[Nl,Nl,Nl,Nl,I 0] 27 (0,0))):=by rw[hW3];exact bE (bE (bE (bG w3 _ _) _) _) _
 have N4:Hid (W3.heap[w3.heap.size+1]?=some (.cells #[Nl,Nl,Nl,Nl,I 0] 27 (0,0))):=by rw[hW3];exact bE (bE (nN w3 _ _ _) _) _
 have N5:Hid (W3.heap[w3.heap.size+1+1]?=some (.cells #[I 0,I 0] 36 (0,0))):=by rw[hW3];exact bE (qg w3 _ _ _ _) _
 have N6:Hid (W3.heap[w3.heap.size+1+1+1]?=some (.cells #[I 0,I 0] 36 (0,0))):=by rw[hW3];have:=qg (w3.alloc (.cells #[Nl,Nl,Nl,Nl,I 0] 27)) (.cells #[Nl,Nl,Nl,Nl,I 0] 27) (.cells #[I 0,I 0] 36) #[I 0,I 0] 36;rw[iJ] at this;exact this
 have HA4:Hid (Below W2.heap.size W2 W3):=jo.o.trans (LF.o.mono jo.o.size);obtain⟨b3,hb3⟩:∃b,b=w3.heap.size:=⟨_,rfl⟩;obtain⟨b4,hb4⟩:∃b,b=b3+1:=⟨_,rfl⟩;obtain⟨b5,Cf⟩:∃b,b=b4+1:=⟨_,rfl⟩;obtain⟨b6,Bi⟩:∃b,b=b5+1:=⟨_,rfl⟩;have HL3:Hid (W2.heap.size<=b3/\b4=b3+1/\b5=b3+2/\b6=b3+3):=⟨by rw[hb3];exact jo.o.size,by omega,by omega,by omega⟩;rw[<- hW3];rw[<- hb3] at N3 N4 N5 N6 ⊢;rw[<- hb4] at N4 N5 N6 ⊢;rw[<- Cf] at N5 N6 ⊢;rw[<- Bi] at N6 ⊢;have Qn:Hid (b1+1<W1.heap.size/\b2+1<W2.heap.size):=⟨aO NF1.o,aO NF2.o⟩;have JZ:Hid (WA.heap.size<=b1):=by rw[akq.o];exact cT.o.size
 clear hW3 hb3 hb4 Cf Bi;have HA5:=ai (xD.o.trans (HA4.o.mono xD.o.size));go_upto_if 59 with fail;go_cut [18] (fun x18 wx=>x18=I er/\wx.heap[b5]?=some (.cells #[I x1,I x2] 36 (0,0))/\aH (fun b=>b=b5) W3 wx)
 case first =>
  by_cases c:er=0
  · obtain⟨j,pb,po,aa,na,ca,rfl,g2,g3,g4,g5⟩:=BQ.o c;have kk:=KB0.o _ HA5.o;rw[g3] at kk;obtain⟨k0,k1,k2,k3,k4⟩:=dx kk;have v1:=g4 _ HA5.o;have KT:(j:Int)<(k.aj.length:Int):=by omega
    have Uf:(0:Int)<=(j:Int):=by omega
    have cb:(er==0)=true:=by simpa using c
    have HFC:=ai (g5 _ HA5.o);have Wc:Hid (∀V,Below W3.heap.size W3 V->V.heap[b5]?=some (.cells #[I 0,I 0] 36 (0,0))):=fun V hV=>aQ N5.o hV (aO N5.o)
    clear c g2 g3 g4 g5 kk BQ DY lM;go_wp2_with (go_at_call 26;refine HFC.o.mono ?_;rintro e w4 ⟨rfl,hb4⟩;have kO:=ai hb4;obtain⟨y0,y1⟩:=kI (Wc.o _ hb4);have u0:=aJ (Wc.o _ hb4) 0;have u1:=aJ (Wc.o _ hb4) 1;clear hb4)
    go_meet
    case rel=>exact⟨rfl,dG (dG (Wc.o _ kO.o) 0 _) 1 _,((aH.b7 kO.o).trans (aH.set (fun b=>b=b5) w4 (Ad b5 0) _ rfl) (fun _ _ g=>g)).trans (aH.set (fun b=>b=b5) _ (Ad b5 1) _ rfl) (fun _ _ g=>g)⟩
  · have cb:(er==0)=false:=by simpa using c
    obtain⟨_,e1,e2⟩:=lM.o c;have Sm:=ai e1;have Ic:=ai e2;clear c e1 e2 BQ DY lM;go_wp2;go_meet
    case rel=>exact⟨rfl,by rw[Sm.o,Ic.o];exact N5.o,aH.refl _ _⟩
 case rest =>
 obtain⟨rfl,rU,yu⟩:=hcut;obtain⟨W4,L8⟩:=ex wc;subst L8;have N54:=ai rU;have HK4:=ai yu;have N34:Hid (W4.heap[b3]?=some (.cells #[Nl,Nl,Nl,Nl,I 0] 27 (0,0))):=yu.keep N3.o (by have:=HL3.o;omega);have HW4:Hid (aH (fun b=>WA.heap.size<=b) WA W4):=(aH.b7 HA5.o).trans yu (fun b _ e=>by rw[e];have:=HL3.o;have:=Qn.o;have:=GK.o;have:=JZ.o;omega);have HS4:Hid (b6<W4.heap.size):=jt (aO N6.o) yu.size;clear rU yu BQ;obtain⟨d0,d1⟩:=kI N54.o;go_upto_region 12 with fail;go_cut [76] (fun c wx=>c=.bool (decide (er=0)&&decide (x1=0))/\wx=W4)
 case first =>
  by_cases c:er=0
  · have cb:(er==0)=true:=by simpa using c
    by_cases g:x1=0
    · have gb:(x1==0)=true:=by simpa using g
      have HV:Hid ((decide (er=0)&&decide (x1=0))=true):=by rw[dh c,dh g];rfl
      clear c g;go_wp2;go_meet
      case rel=>exact⟨by rw[HV.o],rfl⟩
    · have gb:(x1==0)=false:=by simpa using g
      have HV:Hid ((decide (er=0)&&decide (x1=0))=false):=by rw[dh c,dE g];rfl
      clear c g;go_wp2;go_meet
      case rel=>exact⟨by rw[HV.o],rfl⟩
  · have cb:(er==0)=false:=by simpa using c
    have HV:Hid ((decide (er=0)&&decide (x1=0))=false):=by rw[dE c];rfl
    clear c;go_wp2;go_meet
    case rel=>exact⟨by rw[HV.o],rfl⟩
 case rest =>
 obtain⟨rfl,hwc⟩:=hcut;have hwc:=hwc.symm;subst hwc;go_upto_if 76 with fail;go_cut [18] (fun x18 wx=>x18=I er/\∃N3 KG KQ KM KE n32 KJ KD KO KI Ki KN KH hd3,wx.heap[b3]?=some (.cells #[.slice KG KQ KM,.slice KE n32 KJ,.slice KD KO KI,.slice Ki KN KH,I hd3] 27 (0,0))/\jm N3 KA #[.slice KG KQ KM,.slice KE n32 KJ,.slice KD KO KI,.slice Ki KN KH,I hd3] wx/\aH (fun b=>b=b3) W4 wx/\b6<N3)
 case first =>
  by_cases c:er=0/\x1=0
  · have hv:(decide (er=0)&&decide (x1=0))=true:=by rw[dh c.1,dh c.2];rfl
    rw[hv];have D4:Below WA.heap.size WA W4:=aH.below (aK _ _) HW4.o (aM _) (fun b hb=>hb);obtain⟨k0,k1,k2,k3,k4⟩:=dx (KB0.o _ D4);have HCS:=ai (((DY.o c.1).2 c.2).1 W4 HW4.o);have HNB:Hid (∀V,Below W4.heap.size W4 V->V.heap[b3]?=some (.cells #[Nl,Nl,Nl,Nl,I 0] 27 (0,0))):=fun V hV=>aQ N34.o hV (aO N34.o)
    have HBL:Hid (b3<W4.heap.size):=aO N34.o;clear c hv D4 DY lM d0 d1;go_wp2_with (go_at_call 21;refine HCS.o.mono ?_;rintro e w5 ⟨KG,KQ,KM,KE,n32,KJ,KD,KO,KI,Ki,KN,KH,hd3,rfl,Ou,Cf⟩;have Bj:=ai Ou;have ym:=ai Cf;have BN:=HNB.o _ Cf;obtain⟨y0,y1,y2,y3,y4⟩:=dx BN;have u0:=aJ BN 0;have u1:=aJ BN 1;have u2:=aJ BN 2;have u3:=aJ BN 3;have u4:=aJ BN 4;clear Ou Cf BN)
    go_meet
    case rel =>
     obtain⟨r1,r2⟩:=gY (HNB.o _ ym.o) (.slice KG KQ KM) (.slice KE n32 KJ) (.slice KD KO KI) (.slice Ki KN KH) (I hd3) rfl;exact⟨rfl,_,_,_,_,_,_,_,_,_,_,_,_,_,_,r1,Bj.o.kp (r2.mono (fun b _ e=>by rw[e];exact HBL.o)),(aH.b7 ym.o).trans r2 (fun _ _ g=>g),HS4.o⟩
  · have hv:(decide (er=0)&&decide (x1=0))=false:=by
     by_cases c1:er=0
     · rw[dh c1,dE (fun x=>c ⟨c1,x⟩)];rfl
     · rw[dE c1];rfl
    have hk:KA=cJ:=by
     by_cases c1:er=0
     · exact(DY.o c1).1 (fun x=>c ⟨c1,x⟩)
     · exact(lM.o c1).1
    rw[hv];have ZK:=ai hk;clear c hv hk DY lM d0 d1;go_wp2;go_meet
    case rel=>exact⟨rfl,b6+1,_,_,_,_,_,_,_,_,_,_,_,_,_,N34.o,by rw[ZK.o];exact C8 _ _,aH.refl _ _,Fs _⟩
 case rest =>
 obtain⟨rfl,NA,KG,KQ,KM,KE,n32,KJ,KD,KO,KI,Ki,KN,KH,hd3,hnb,hk3,yu,wh⟩:=hcut;obtain⟨W5,Oz⟩:=ex wc;subst Oz;have N35:=ai hnb;have aff:=ai hk3;have HNA:=ai wh;have Bj:Hid (aH (fun b=>b=b5∨b=b3) W3 W5):=(HK4.o.mono (fun b _ e=>.inl e)).trans yu (fun b _ e=>.inr e);have N55:Hid (W5.heap[b5]?=some (.cells #[I x1,I x2] 36 (0,0))):=yu.keep N54.o (by have:=HL3.o;omega);have N45:Hid (W5.heap[b4]?=some (.cells #[Nl,Nl,Nl,Nl,I 0] 27 (0,0))):=Bj.o.keep N4.o (by have:=HL3.o;omega);have N65:Hid (W5.heap[b6]?=some (.cells #[I 0,I 0] 36 (0,0))):=Bj.o.keep N6.o (by have:=HL3.o;omega);clear hnb hk3 yu wh d0 d1;go_upto_if 84 with fail;go_cut [24] (fun x24 wx=>x24=.string st/\∃N4 Zq Zy Zv Zp Zx Zu Zo n43 Zt Zn Zw Zr SK,wx.heap[b4]?=some (.cells #[.slice Zq Zy Zv,.slice Zp Zx Zu,.slice Zo n43 Zt,.slice Zn Zw Zr,I SK] 27 (0,0))/\wx.heap[b6]?=some (.cells #[I y1,I y2] 36 (0,0))/\jm N4 KL #[.slice Zq Zy Zv,.slice Zp Zx Zu,.slice Zo n43 Zt,.slice Zn Zw Zr,I SK] wx/\aH (fun b=>b=b4∨b=b6) W5 wx/\jm NA KA #[.slice KG KQ KM,.slice KE n32 KJ,.slice KD KO KI,.slice Ki KN KH,I hd3] wx)
 case first =>
  by_cases c:fr=0
  · have cb:(fr==0)=true:=by simpa using c
    obtain⟨e0,e1,e2,e3,e4,e5⟩:=vh.o c;obtain⟨f0,f1⟩:=kI N55.o;obtain⟨k0,k1,k2,k3,k4⟩:=dx N35.o;obtain⟨y0,y1',y2',y3,y4⟩:=dx N45.o;obtain⟨z0,z1⟩:=kI N65.o;have HE0:=ai e0;have Sm:=ai e1;have Ic:=ai e2;have HE3:=ai e3;have HE4:=ai e4;have HE5:=ai e5;have HLL:=HL3.o;have m2:b6≠b3:=by omega
    have m3:b4≠b6:=by omega
    have m4:b6≠b4:=by omega
    have m5:b3≠b4:=by omega
    have m6:b4≠b3:=by omega
    have u0:=aJ N45.o 0;have u1:=aJ N45.o 1;have u2:=aJ N45.o 2;have u3:=aJ N45.o 3;have u4:=aJ N45.o 4;have u5:=aJ N65.o 0;have u6:=aJ N65.o 1;clear c e0 e1 e2 e3 e4 e5 HLL;go_upto_region 16 with fail;go_region;obtain⟨W6,hW6⟩:=ex ((((((((W5.setCell (Ad b6 0) (I x1)).setCell (Ad b6 1) (I x2)).setCell (Ad b4 0) (.slice KG KQ KM)).setCell (Ad b4 1) (.slice KE n32 KJ)).setCell (Ad b4 2) (.slice KD KO KI)).setCell (Ad b4 3) (.slice Ki KN KH)).setCell (Ad b4 4) (I hd3)).drew);obtain⟨r1,r2,r3⟩:=aha N45.o N65.o m3 _ _ _ _ _ _ _ hW6;rw[<- hW6];have HR1:=ai r1;have zC:=ai r2;have Kw:=ai r3;have We:Hid (∀b,b=b4∨b=b6->b<NA):=fun b e=>by have:=HNA.o;have:=HL3.o;omega
    clear hW6 f0 f1 k0 k1 k2 k3 k4 y0 y1' y2' y3 y4 z0 z1 u0 u1 u2 u3 u4 u5 u6 m2 m3 m4 m5 m6;have q1:=r3.keep N55.o (by have:=HL3.o;omega);have q2:=r3.keep N35.o (by have:=HL3.o;omega);obtain⟨f0,f1⟩:=kI q1;obtain⟨k0,k1,k2,k3,k4⟩:=dx q2;clear r1 r2 r3 q1 q2;have E5:Hid (∀V,Below W6.heap.size W6 V->V.heap[b4]?=some (.cells #[.slice KG KQ KM,.slice KE n32 KJ,.slice KD KO KI,.slice Ki KN KH,I hd3] 27 (0,0))/\V.heap[b6]?=some (.cells #[I y1,I y2] 36 (0,0))/\jm NA KL #[.slice KG KQ KM,.slice KE n32 KJ,.slice KD KO KI,.slice Ki KN KH,I hd3] V/\aH (fun b=>b=b4∨b=b6) W5 V/\jm NA KA #[.slice KG KQ KM,.slice KE n32 KJ,.slice KD KO KI,.slice Ki KN KH,I hd3] V):=fun V hV=>by
     have h1:aH (fun b=>b=b4∨b=b6) W5 V:=Kw.o.trans (aH.b7 (D:=fun _=>False) hV) (fun _ _ g=>g.elim);have h2:=aff.o.kp (h1.mono (fun b _ e=>We.o b e));exact⟨aQ HR1.o hV (aO HR1.o),by rw[Sm.o,Ic.o];exact aQ zC.o hV (aO zC.o),by rw[HE3.o];exact h2,h1,h2⟩
    by_cases z:x1=0
    · have zb:(x1==0)=true:=by simpa using z
      have hby:=((DY.o HE0.o).2 z).2 NA _ W5 W6 aff.o (Kw.o.mono (fun b _ e=>We.o b e));rw[<- HE5.o z] at hby;have Y7:=ai hby;clear z hby DY lM pq vh;go_wp2_with (go_at_call 27;refine Y7.o.mono ?_;rintro e w7 ⟨rfl,hb7⟩;have Ns:=ai hb7;clear hb7)
      go_meet
      case rel =>
       obtain⟨t1,t2,t3,t4,t5⟩:=E5.o _ Ns.o;exact⟨rfl,NA,_,_,_,_,_,_,_,_,_,_,_,_,_,t1,t2,t3,t4,t5⟩
    · have zb:(x1==0)=false:=by simpa using z
      have HST:=ai (HE4.o z);clear z DY lM pq vh;go_wp2;go_meet
      case rel =>
       obtain⟨t1,t2,t3,t4,t5⟩:=E5.o _ (aK _ _);exact⟨by rw[HST.o],NA,_,_,_,_,_,_,_,_,_,_,_,_,_,t1,t2,t3,t4,t5⟩
  · have cb:(fr==0)=false:=by simpa using c
    obtain⟨e1,e2,e3,e4⟩:=pq.o c;have Sm:=ai e1;have Ic:=ai e2;have HE3:=ai e3;have HE4:=ai e4;clear c e1 e2 e3 e4;go_wp2;go_meet
    case rel=>exact⟨by rw[HE4.o],0,_,_,_,_,_,_,_,_,_,_,_,_,_,N45.o,by rw[Ic.o,HE3.o];exact N65.o,by rw[Sm.o];exact C8 _ _,aH.refl _ _,aff.o⟩
 case rest =>
 obtain⟨rfl,NL,Zq,Zy,Zv,Zp,Zx,Zu,Zo,n43,Zt,Zn,Zw,Zr,SK,hn4,hn6,hk4,yu,hk3⟩:=hcut;obtain⟨W6,hW6⟩:=ex wc;subst hW6;have hlx:b1+1<b2/\b2+1<b3/\w1.heap.size<=b2/\b2=w2.heap.size/\WA.heap.size<=b1/\b4=b3+1/\b5=b3+2/\b6=b3+3:=by
  have:=Qn.o;have:=GK.o;have:=HL3.o;have:=JZ.o;have:=arZ.o;have:=Ib.o.size;omega
 have ZJ:=ai hlx;clear hlx;have Wh:Hid (aH (fun b=>b3<=b) W2 W6):=((aH.b7 HA4.o).trans Bj.o (fun b _ e=>by have:=ZJ.o;omega)).trans yu (fun b _ e=>by have:=ZJ.o;omega);have M1:Hid (W6.heap[b1]?=some (.cells #[.slice Kl n11 Kp,.slice s12 Kq Ko,.slice Kk n13 Kn,.slice Kj n14 Km,I hd1] 27 (0,0))):=Wh.o.keep (aQ NB1.o yo.o (aO NB1.o)) (by have:=ZJ.o;omega);have M2:Hid (W6.heap[b1+1]?=some (.cells #[I x1,I x2] 36 (0,0))):=Wh.o.keep (aQ NF1.o yo.o (aO NF1.o)) (by have:=ZJ.o;omega);have M3:Hid (W6.heap[b2]?=some (.cells #[.slice Hz n21 H6,.slice Hy n22 H5,.slice Fp n23 H4,.slice Hx Ia H0,I hd2] 27 (0,0))):=Wh.o.keep NB2.o (by have:=ZJ.o;omega);have M4:Hid (W6.heap[b2+1]?=some (.cells #[I y1,I y2] 36 (0,0))):=Wh.o.keep NF2.o (by have:=ZJ.o;omega);have M5:Hid (W6.heap[b3]?=some (.cells #[.slice KG KQ KM,.slice KE n32 KJ,.slice KD KO KI,.slice Ki KN KH,I hd3] 27 (0,0))):=yu.keep N35.o (by have:=ZJ.o;omega);have M6:Hid (W6.heap[b5]?=some (.cells #[I x1,I x2] 36 (0,0))):=yu.keep N55.o (by have:=ZJ.o;omega);have M7:=ai hn4;have M8:=ai hn6;have Y1:Hid (∀V,Below W6.heap.size W6 V->aH (fun b=>b<WA.heap.size) w1 V):=fun V hV=>((aH.b7 (Ib.o.trans (yo.o.mono Ib.o.size))).trans Wh.o (fun b hb e=>by have:=ZJ.o;omega)).trans (aH.b7 (D:=fun _=>False) hV) (fun _ _ g=>g.elim)
 have TA:Hid (∀V,Below W6.heap.size W6 V->aH (fun b=>b<W1.heap.size) w2 V):=fun V hV=>((aH.b7 Sg.o).trans Wh.o (fun b hb e=>by have:=ZJ.o;omega)).trans (aH.b7 (D:=fun _=>False) hV) (fun _ _ g=>g.elim)
 have Di:Hid (∀V,Below W6.heap.size W6 V->Below w.heap.size w V):=fun V hV=>by
  have h1:aH (fun b=>WA.heap.size<=b) WA W6:=(aH.b7 xD.o).trans Wh.o (fun b _ e=>by have:=ZJ.o;omega);have h2:Below WA.heap.size WA W6:=aH.below (aK _ _) h1 (aM _) (fun b hb=>hb);exact eO.o.trans ((h2.trans (hV.mono h2.size)).mono eO.o.size)
 have HSA:Hid (∀V,Below W6.heap.size W6 V->Calls Tryz.prog 20 #[.agg #[.slice Kl n11 Kp,.slice s12 Kq Ko,.slice Kk n13 Kn,.slice Kj n14 Km,I hd1],.agg #[.slice KG KQ KM,.slice KE n32 KJ,.slice KD KO KI,.slice Ki KN KH,I hd3]] V fun e w'=>e=.returned (.bool true)/\Below V.heap.size V w'):=fun V hV=>sG afg.o hk3 zx.o (Y1.o V hV) (aH.b7 hV)
 have DF:Hid (∀V,Below W6.heap.size W6 V->Calls Tryz.prog 20 #[.agg #[.slice Hz n21 H6,.slice Hy n22 H5,.slice Fp n23 H4,.slice Hx Ia H0,I hd2],.agg #[.slice Zq Zy Zv,.slice Zp Zx Zu,.slice Zo n43 Zt,.slice Zn Zw Zr,I SK]] V fun e w'=>e=.returned (.bool true)/\Below V.heap.size V w'):=fun V hV=>sG Sk.o hk4 HFB.o (TA.o V hV) (aH.b7 hV)
 have HN7:Hid (∀V,Below W6.heap.size W6 V->V.heap[b1]?=some (.cells #[.slice Kl n11 Kp,.slice s12 Kq Ko,.slice Kk n13 Kn,.slice Kj n14 Km,I hd1] 27 (0,0))/\V.heap[b1+1]?=some (.cells #[I x1,I x2] 36 (0,0))/\V.heap[b3]?=some (.cells #[.slice KG KQ KM,.slice KE n32 KJ,.slice KD KO KI,.slice Ki KN KH,I hd3] 27 (0,0))/\V.heap[b5]?=some (.cells #[I x1,I x2] 36 (0,0))/\V.heap[b2+1]?=some (.cells #[I y1,I y2] 36 (0,0))/\V.heap[b6]?=some (.cells #[I y1,I y2] 36 (0,0))):=fun V hV=>⟨aQ M1.o hV (aO M1.o),aQ M2.o hV (aO M2.o),aQ M5.o hV (aO M5.o),aQ M6.o hV (aO M6.o),aQ M4.o hV (aO M4.o),aQ M8.o hV (aO M8.o)⟩
 have HN8:Hid (∀V,Below W6.heap.size W6 V->V.heap[b2]?=some (.cells #[.slice Hz n21 H6,.slice Hy n22 H5,.slice Fp n23 H4,.slice Hx Ia H0,I hd2] 27 (0,0))/\V.heap[b4]?=some (.cells #[.slice Zq Zy Zv,.slice Zp Zx Zu,.slice Zo n43 Zt,.slice Zn Zw Zr,I SK] 27 (0,0))):=fun V hV=>⟨aQ M3.o hV (aO M3.o),aQ M7.o hV (aO M7.o)⟩
 clear hn4 hn6 hk4 hk3 yu DY lM pq vh ajH HF1 E7 sS ZJ Wh Y1 TA;go_wp2_with (first
  | (go_at_call 15;refine(HBG.o _).mono ?_;rintro e w6 ⟨rfl,Bi⟩;have Sn:=ai Bi;obtain⟨m1,m2,m3,m4,m5,m6⟩:=HN7.o _ Bi;obtain⟨c0,c1,c2,c3,c4⟩:=dx m1;obtain⟨c5,c6⟩:=kI m2;obtain⟨d0,d1,d2,d3,d4⟩:=dx m3;obtain⟨d5,d6⟩:=kI m4;obtain⟨e5,e6⟩:=kI m5;obtain⟨f5,f6⟩:=kI m6;clear Bi m1 m2 m3 m4 m5 m6)
  | (go_at_call 20;refine(DF.o _ Ns.o).mono ?_;rintro e w8 ⟨rfl,Ui⟩;have HB8:=ai (Ns.o.trans (Ui.mono Ns.o.size));clear Ui)
  | (go_at_call 20;refine(HSA.o _ Sn.o).mono ?_;rintro e w7 ⟨rfl,hb7⟩;have FIRST:=trivial;have Ns:=ai (Sn.o.trans (hb7.mono Sn.o.size));clear hb7;obtain⟨m1,m2⟩:=HN8.o _ Ns.o;obtain⟨g0,g1,g2,g3,g4⟩:=dx m1;obtain⟨h0,h1,h2,h3,h4⟩:=dx m2;clear m1 m2 c0 c1 c2 c3 c4 c5 c6 d0 d1 d2 d3 d4 d5 d6 e5 e6 f5 f6))
 go_ret;exact⟨rfl,Di.o _ HB8.o⟩
end Go.Proofs.YtpgifpeohlllfaaGreat
end Go.Proofs.YtpgifpeohlllfaaGreat
