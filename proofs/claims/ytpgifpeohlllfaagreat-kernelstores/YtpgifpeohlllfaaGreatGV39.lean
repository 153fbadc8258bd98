import Derived.Test.YtpgifpeohlllfaaGreatGV38
set_option maxHeartbeats 20000000
set_option linter.unusedVariables false
set_option maxRecDepth 100000
set_option linter.unusedSimpArgs false
namespace Go.Proofs.YtpgifpeohlllfaaGreat
namespace Go.Proofs.YtpgifpeohlllfaaGreat
open Go.RowKit
theorem Vb (V:World) (S:dN):kL V S none []:=⟨fun h=>absurd h (Ih _),fun b off e=>(by cases e),fun b off e=>(by cases e)⟩
theorem Yp (V:World) {S:dN} (hn:S.lab V.heap.size=.no) (i:Nat):kL (V.alloc (.cells #[I (i:Int)] 3)) S (some (Ad V.heap.size 0)) [(i:Int)] :=
 (wY (S:=S) (l:=[(i:Int)]) (n:=1) (c:=1) (base:=V.heap.size) ⟨rfl,.inr ⟨V.heap.size,1,_,rfl,aM _,bG V _ _,aM _,by grind [maxLen],rfl,rfl⟩⟩ (fun b hb=>by
  have hb:some V.heap.size=some b:=hb
  grind)).2
theorem Mk {lo mb:Nat} {w V U:World} {S:dN} {K:aN} {hs:List bM} {rb:Nat} (h:bQ lo mb 27 [] V S (bu K hs)) (hs2:dw K.aA hs) (hlo:w.heap.size<=lo) (hb:Below w.heap.size w V) (hU:aH (fun b=>b=rb) V U) (hr:rb<lo) (hw:w.heap.size<=rb):qu w K (.returned (.agg #[S.vS,S.vF,S.vL,S.vP,I K.hand])) U :=
 ⟨S,hs,hs2,rfl,(h.toiZ.kp hU (fun b hb2 e=>by have:=(h.qF b hb2).1;omega)).mono hlo,aH.below hb hU hb.size (fun b e=>by omega)⟩
def ag7 (WA:World) (k:aN) (e:Ending) (w':World):Prop:=∃hs S aS nS cS aF nF cF aL nL cL aP nP cP,e=.returned (.agg #[.slice aS nS cS,.slice aF nF cF,.slice aL nL cL,.slice aP nP cP,I k.hand])/\dw k.aA hs/\bQ WA.heap.size w'.heap.size 27 [] (w'.alloc (.cells #[.slice aS nS cS,.slice aF nF cF,.slice aL nL cL,.slice aP nP cP,I k.hand] 27)) S (bu k hs)/\Below WA.heap.size WA (w'.alloc (.cells #[.slice aS nS cS,.slice aF nF cF,.slice aL nL cL,.slice aP nP cP,I k.hand] 27))
theorem Yn {WA V:World} {k:aN} {f:FuncId} {xs:Array Value} (h:Calls Tryz.prog f xs V (qu V k)) (hb:Below WA.heap.size WA V):Calls Tryz.prog f xs V (ag7 WA k) :=
 h.mono fun e w' ⟨S,hs,h1,h2,h3,h4⟩=>by
  obtain⟨aS,nS,cS,eS⟩:∃b n d,S.vS=.slice b n d:=by obtain⟨b,d,e,_⟩:=aY h3.aA;grind
  obtain⟨aF,nF,cF,eF⟩:∃b n d,S.vF=.slice b n d:=by obtain⟨b,d,e,_⟩:=aY h3.frames;grind
  obtain⟨aL,nL,cL,eL⟩:∃b n d,S.vL=.slice b n d:=by obtain⟨b,d,e,_⟩:=aY h3.slots;grind
  obtain⟨aP,nP,cP,eP⟩:∃b n d,S.vP=.slice b n d:=by obtain⟨b,d,e,_⟩:=aY h3.aj;grind
  have hz:WA.heap.size<=w'.heap.size:=gJ hb.size h4.size;have hk:=CU (h3.mono hb.size) hz;rw[eS,eF,eL,eP] at hk;exact⟨hs,_,aS,nS,cS,aF,nF,cF,aL,nL,cL,aP,nP,cP,by grind,h1,hk,(hb.trans (h4.mono hb.size)).alloc hz _⟩
theorem Yq {lo mb:Nat} {tt:TypeId} {X:List Value} {V:World} {S:dN} {K:aN} (h:bQ lo mb tt X V S K):∃aS nS cS aF nF cF aL nL cL aP nP cP,(S.vS=.slice aS nS cS/\S.vF=.slice aF nF cF/\S.vL=.slice aL nL cL/\S.vP=.slice aP nP cP)/\V.cell? (Ad mb 0)=some (.slice aS nS cS)/\V.cell? (Ad mb 1)=some (.slice aF nF cF)/\V.cell? (Ad mb 2)=some (.slice aL nL cL)/\V.cell? (Ad mb 3)=some (.slice aP nP cP)/\V.cell? (Ad mb 4)=some (I K.hand):=by
 obtain⟨aS,nS,cS,eS⟩:∃b n d,S.vS=.slice b n d:=by obtain⟨b,d,e,_⟩:=aY h.aA;grind
 obtain⟨aF,nF,cF,eF⟩:∃b n d,S.vF=.slice b n d:=by obtain⟨b,d,e,_⟩:=aY h.frames;grind
 obtain⟨aL,nL,cL,eL⟩:∃b n d,S.vL=.slice b n d:=by obtain⟨b,d,e,_⟩:=aY h.slots;grind
 obtain⟨aP,nP,cP,eP⟩:∃b n d,S.vP=.slice b n d:=by obtain⟨b,d,e,_⟩:=aY h.aj;grind
 grind [bQ.c0,bQ.c1,bQ.c2,bQ.c3,bQ.c4]
theorem Et (k:aN) (a:fP) (j:Nat) (ad n way:Int) (w:World) (hK:fT w a k) (hF:gW k) (hR:bg k) (hj:j<k.aj.length) (hn:1<=n/\n<=8) (hf:(dQ (ak k.aj j).aZ ad n way).1=0) :
  Calls Tryz.prog 21 #[.agg (aT a k),I (j:Int),I ad,I n,I way] w (qu w (bh k j ad n way).2):=by
 obtain⟨Ov,hal,hau,hmap⟩:=kS hn.1 hn.2 hf;have qP:cV k j (ad/16):=by
  have:=hmap 0 (by omega) (by omega);rw[xM] at this;exact this
 have hm2:cV k j (bK ad n):=by
  have:=hmap (n-1) (by omega) (by omega);unfold bK;rw[show ad+n-1=ad+(n-1) by omega];exact this
 have A1:=(nV hR hj qP way (held:=[]) (by simp)).1;have hsm:=oC hR hF;obtain⟨WA,iK⟩:=ex ((w.alloc (.cells (aT a k) 27)).alloc (.cells #[Nl,Nl,Nl,Nl,I 0] 27));have hb0:Below w.heap.size w WA:=by simp_all [aK,mq]
 have kb:WA.heap[w.heap.size]?=some (.cells (aT a k) 27 (0,0)):=by grind [bE,bG]
 have rb:WA.heap[w.heap.size+1]?=some (.cells #[Nl,Nl,Nl,Nl,I 0] 27 (0,0)):=by
  grind [bG,World.size_alloc]
 have hrl:=aO rb;have RB:=ai rb;obtain⟨k0,k1,k2,k3,k4⟩:=dx kb;have HOW:=ai (Yn (CS k a WA (hK.below hb0) hsm) (aK WA.heap.size WA));obtain⟨K1,Cg⟩:=ex (ft k j ad way);have cT:Hid (∀V S' hs mb,dw k.aA hs->bQ WA.heap.size mb 27 [] V S' (bu k hs)->Calls Tryz.prog 59 #[.pointer (some (Ad mb 0)),I (j:Int),I (ad/16),I way,Nl] V (dK WA.heap.size mb 27 [] V S' (I (K1.1:Int)) (bu K1.2 hs))):=fun V S' hs mb h1 h2=>by
  have:=Jx (bu k hs) S' V j (ad/16) way [] none 0 h2 (hR.Dn h1) hj qP (by simp) (Vb V S');rw[yZ hR (by simp) h1] at this;rw[Cg];exact this
 have hlast:∀V S' hs mb ah,dw k.aA hs->bQ WA.heap.size mb 27 [] V S' (bu K1.2 hs)->kL V S' ah [(K1.1:Int)]->Calls Tryz.prog 59 #[.pointer (some (Ad mb 0)),I (j:Int),I (bK ad n),I way,.slice ah 1 1] V fun e w'=>∃r S2,e=.returned (I r)/\bQ WA.heap.size mb 27 [] w' S2 (bu (iN k j ad n way).2 hs)/\dI S' V S2 w':=fun V S' hs mb ah h1 h2 h3=>by
  have hs1:dw K1.2.aA hs:=by rw[Cg];show dw (dD k j (ad/16) way []).2.aA hs;rw[A1.kept.aA];exact h1
  have DR:bg K1.2:=by rw[Cg];exact A1.right
  have QI:j<K1.2.aj.length:=by rw[Cg];show j<(dD k j (ad/16) way []).2.aj.length;rw[A1.kept.np];exact hj
  have hm3:cV K1.2 j (bK ad n):=by rw[Cg];exact A1.kept.mapped hj hm2
  have:=Jx (bu K1.2 hs) S' V j (bK ad n) way [(K1.1:Int)] ah 1 h2 (DR.Dn hs1) QI hm3 (by simp) h3;rw[yZ DR (by simp) hs1] at this;refine this.mono fun e w' ⟨g1,S2,g2,g3⟩=>⟨_,S2,g1,?_,g3⟩
  unfold iN
  grind
 have fq:=ai hlast;have qN:Hid (∀V U S' hs mb,dw k.aA hs->bQ WA.heap.size mb 27 [] V S' (bu (bh k j ad n way).2 hs)->Below WA.heap.size WA V->aH (fun b=>b=w.heap.size+1) V U->qu w (bh k j ad n way).2 (.returned (.agg #[S'.vS,S'.vF,S'.vL,S'.vP,I (bh k j ad n way).2.hand])) U):=fun V U S' hs mb h1 h2 h3 h4=>by
  have hk:=(l8 hR hj ad n way qP hm2).kept;exact Mk h2 (by rw[hk.aA];exact h1) hb0.size (hb0.trans (h3.mono hb0.size)) h4 hrl (by omega)
 have HR1:Hid (bK ad n=ad/16->(bh k j ad n way).2=K1.2):=fun e=>by rw[Cg];unfold bh;grind
 have zC:Hid (¬bK ad n=ad/16->(bh k j ad n way).2=(iN k j ad n way).2):=fun e=>by unfold bh;grind
 obtain⟨KF,hKF⟩:=ex ((bh k j ad n way).2);rw[<- hKF] at qN HR1 zC ⊢;obtain⟨KB,hKB⟩:=ex ((iN k j ad n way).2);rw[<- hKB] at fq zC;have ha0:0<=ad:=by omega
 have hw1:IntKind.i64.wrap (ad+n)=ad+n:=mP _ (by omega);have hw2:IntKind.i64.wrap (ad+n-1)=ad+n-1:=mP _ (by omega);have hq1:ad.tdiv 16=ad/16:=Cu ha0;have hq2:(ad+n-1).tdiv 16=bK ad n:=Cu (by omega);obtain⟨P1,hP1⟩:∃q,q=ad/16:=⟨_,rfl⟩;obtain⟨P2,OD⟩:∃q,q=bK ad n:=⟨_,rfl⟩;rw[<- hP1] at hq1 cT HR1 zC;rw[<- OD] at hq2 fq HR1 zC;have hpb:-9223372036854775808<=P1/\P1<=9223372036854775807:=by omega
 have avn:-9223372036854775808<=P2/\P2<=9223372036854775807:=by unfold bK at OD;omega
 obtain⟨P,hP⟩:=ex (qu w KF);rw[<- hP] at qN ⊢;have iG:=ai iK;unfold aT at iG HOW ⊢;obtain⟨i1,K1⟩:=K1;simp only at cT fq HR1;clear hK hF hR hj hf Ov hal hau hmap qP hm2 A1 hsm iK hb0 kb rb Cg hlast hKF hKB hP1 OD hP ha0;go_enter Tryz.func21,Tryz.ntmps21;go_upto_region 1 with fail;rw[<- iG.o];go_upto_region 3 with(go_at_call 16;refine HOW.o.mono ?_;rintro e w4 ⟨hs,S,aS,nS,cS,aF,nF,cF,aL,nL,cL,aP,nP,cP,rfl,hs2,hk2,hb2⟩;have qd:=ai hs2;have pH:=ai hk2;have kO:=ai hb2;clear hs2 hk2 hb2)
 obtain⟨W4,L8⟩:=ex (w4.alloc (.cells #[.slice aS nS cS,.slice aF nF cF,.slice aL nL cL,.slice aP nP cP,I k.hand] 27));obtain⟨mb,hmb⟩:=ex w4.heap.size;rw[<- L8] at pH kO ⊢;rw[<- hmb] at pH ⊢;clear L8 hmb k0 k1 k2 k3 k4;have HCA:=ai (cT.o W4 S hs mb qd.o pH.o);have Di:Hid (∀V S',bQ WA.heap.size mb 27 [] V S' (bu KF hs)->dI S W4 S' V->(∃aS nS cS aF nF cF aL nL cL aP nP cP,V.cell? (Ad mb 0)=some (.slice aS nS cS)/\V.cell? (Ad mb 1)=some (.slice aF nF cF)/\V.cell? (Ad mb 2)=some (.slice aL nL cL)/\V.cell? (Ad mb 3)=some (.slice aP nP cP)/\V.cell? (Ad mb 4)=some (I KF.hand)/\V.heap[w.heap.size+1]?=some (.cells #[Nl,Nl,Nl,Nl,I 0] 27 (0,0))/\∀U,aH (fun b=>b=w.heap.size+1) V U->P (.returned (.agg #[.slice aS nS cS,.slice aF nF cF,.slice aL nL cL,.slice aP nP cP,I KF.hand])) U)):=fun V S' h1 h2=>by
  obtain⟨aS,nS,cS,aF,nF,cF,aL,nL,cL,aP,nP,cP,⟨e1,e2,e3,e4⟩,c0,c1,c2,c3,c4⟩:=Yq h1;have QJ:Below WA.heap.size WA V:=aH.below kO.o h2.kp kO.o.size (fun b hb=>(pH.o.qF b hb).1);refine⟨aS,nS,cS,aF,nF,cF,aL,nL,cL,aP,nP,cP,c0,c1,c2,c3,c4,aQ RB.o QJ hrl,fun U hU=>?_⟩;have:=qN.o V U S' hs mb qd.o h1 QJ hU;rw[e1,e2,e3,e4] at this;omega
 by_cases c:P2=P1
 · have pb:(P2==P1)=true:=by grind
   have HE:=ai (HR1.o c);clear c;go_upto_region 6 with(go_at_call 59;refine HCA.o.mono ?_;rintro e w5 ⟨rfl,S5,Ou,hc5⟩;have Bj:=ai Ou;have HC5:=ai hc5;clear Ou hc5)
   obtain⟨aS,nS,cS,aF,nF,cF,aL,nL,cL,aP,nP,cP,c0,c1,c2,c3,c4,r0,hfin⟩:=Di.o w5 S5 (by rw[HE.o];exact Bj.o) HC5.o;have Qo:=ai hfin;have R1:=ai r0;obtain⟨y0,y1,y2,y3,y4⟩:=dx r0;have f0:=aJ r0 0;have f1:=aJ r0 1;have f2:=aJ r0 2;have f3:=aJ r0 3;have f4:=aJ r0 4;have h5:=ai (fun V=>gY R1.o (.slice aS nS cS) (.slice aF nF cF) (.slice aL nL cL) (.slice aP nP cP) (I KF.hand) (V:=V));clear hfin r0;go_wp2;obtain⟨r1,r2⟩:=h5.out _ rfl;obtain⟨z0,z1,z2,z3,z4⟩:=dx r1;refine bR (v:=.agg #[.slice aS nS cS,.slice aF nF cF,.slice aL nL cL,.slice aP nP cP,I KF.hand]) (by simp[results,Tryz.results21,go_sem,z0,z1,z2,z3,z4]) rfl ?_;exact Qo.o _ r2
 · have pb:(P2==P1)=false:=by grind
   have HE:=ai (zC.o c);clear c;go_upto_region 5 with(go_at_call 59;refine HCA.o.mono ?_;rintro e w5 ⟨rfl,S5,Ou,hc5⟩;have Bj:=ai Ou;have HC5:=ai hc5;clear Ou hc5)
   have gK:Hid (Below w5.heap.size w5 (w5.alloc (.cells #[I (i1:Int)] 3))):=(aK _ _).alloc (aM _) _;have vv:=ai (fq.o _ S5 hs mb _ qd.o (Bj.o.below gK.o) (Yp w5 (Bj.o.toiZ.new (aM _)) i1));have HCB:=ai (HC5.o.trans (dI.below gK.o));go_upto_region 6 with(go_at_call 59;refine vv.o.mono ?_;rintro e w6 ⟨r,S6,rfl,Xf,Xk⟩;have HK6:=ai Xf;have HC6:=ai (HCB.o.trans Xk);clear Xf Xk)
   obtain⟨aS,nS,cS,aF,nF,cF,aL,nL,cL,aP,nP,cP,c0,c1,c2,c3,c4,r0,hfin⟩:=Di.o w6 S6 (by rw[HE.o];exact HK6.o) HC6.o;have Qo:=ai hfin;have R1:=ai r0;obtain⟨y0,y1,y2,y3,y4⟩:=dx r0;have f0:=aJ r0 0;have f1:=aJ r0 1;have f2:=aJ r0 2;have f3:=aJ r0 3;have f4:=aJ r0 4;have h5:=ai (fun V=>gY R1.o (.slice aS nS cS) (.slice aF nF cF) (.slice aL nL cL) (.slice aP nP cP) (I KF.hand) (V:=V));clear hfin r0;go_wp2;obtain⟨r1,r2⟩:=h5.out _ rfl;obtain⟨z0,z1,z2,z3,z4⟩:=dx r1;refine bR (v:=.agg #[.slice aS nS cS,.slice aF nF cF,.slice aL nL cL,.slice aP nP cP,I KF.hand]) (by simp[results,Tryz.results21,go_sem,z0,z1,z2,z3,z4]) rfl ?_;exact Qo.o _ r2
def qZ (p a:Int) (s d:ByteArray):Nat->ByteArray
 | 0=>d
 | k+1=>if p=(a+(k:Int))/16 then fU (qZ p a s d k) ((a+(k:Int))%16).toNat (s.extract k (k+1)) else qZ p a s d k
theorem Pv {p a:Int} {s d:ByteArray} (hd:d.size=16) (ha:0<=a):∀k,k<=s.size->(qZ p a s d k).size=16/\∀x:Nat,x<16->(qZ p a s d k).data.toList[x]?=if a<=p*16+(x:Int)/\p*16+(x:Int)<a+(k:Int) then s.data.toList[(p*16+(x:Int)-a).toNat]? else d.data.toList[x]?:=fun k=>by
 induction k with
 | zero =>
  intro _;refine⟨hd,fun x hx=>?_⟩;rw[bl (by omega)];rfl
 | succ k ih =>
  intro hk;obtain⟨i1,i2⟩:=ih (by omega);show((if p=(a+(k:Int))/16 then fU (qZ p a s d k) ((a+(k:Int))%16).toNat (s.extract k (k+1)) else qZ p a s d k):ByteArray).size=16/\∀x:Nat,x<16->((if p=(a+(k:Int))/16 then fU (qZ p a s d k) ((a+(k:Int))%16).toNat (s.extract k (k+1)) else qZ p a s d k):ByteArray).data.toList[x]?=_;have h1:(s.extract k (k+1)).size=1:=by simp_all
  by_cases c:p=(a+(k:Int))/16
  · rw[bf c];have hb:((a+(k:Int))%16).toNat+(s.extract k (k+1)).size<=(qZ p a s d k).size:=by omega
    refine⟨by grind [CY],fun x hx=>?_⟩;rw[MB _ _ _ _ hb,h1];by_cases e:x=((a+(k:Int))%16).toNat
    · rw[bf (by omega),bf (by omega),show x-((a+(k:Int))%16).toNat=0 by omega,y7,bf (by omega),gV];congr 1;omega
    · rw[bl (by omega),i2 x hx]
      grind
  · rw[bl c];refine⟨i1,fun x hx=>?_⟩;rw[i2 x hx]
    grind
theorem CR {f:Int->ByteArray} {a:Int} {d:ByteArray} (h:pX f a d.size) (ha:0<=a) (h1:1<=(d.size:Int)) (h8:(d.size:Int)<=8) (p:Int) (hp:(f p).size=16):qZ p a d (f p) d.size=qT f a d p:=by
 obtain⟨b1,b2⟩:=Pv (p:=p) (s:=d) hp ha d.size (aM _);have b3:=RD h h1 h8 p hp;refine JW fun i=>?_
 by_cases c:i<16
 · grind [Vp]
 simp_all
theorem Px (K:aN) {o:Nat} (ho:o<K.frames.length) (d:ByteArray) (i:Nat):au (nu K o d).frames i=if o=i then ⟨d,(au K.frames o).refs,(au K.frames o).fN,(au K.frames o).seen⟩ else au K.frames i:=by
 show au (K.frames.set o _) i=_
 grind [jc]
theorem Ag (K:aN) (o:Nat) (d:ByteArray):(nu K o d).frames.length=K.frames.length:=jk
theorem Tf {K L:aN} (h1:K.aA=L.aA) (h2:K.frames.length=L.frames.length) (h3:∀i,i<K.frames.length->au K.frames i=au L.frames i) (h4:K.slots=L.slots) (h5:K.aj=L.aj) (h6:K.hand=L.hand):K=L:=by
 obtain⟨a1,a2,a3,a4,a5⟩:=K;obtain⟨b1,b2,b3,b4,b5⟩:=L;have h7:a2=b2:=n7 gD _ _ h2 h3
 grind
def kM (K:aN) (o1 o2:Nat) (p1 p2 a:Int) (s:ByteArray) (m:Nat):aN:=if p2=p1 then nu K o1 (qZ p1 a s (au K.frames o1).data m) else nu (nu K o1 (qZ p1 a s (au K.frames o1).data m)) o2 (qZ p2 a s (au K.frames o2).data m)
structure Ah (K:aN) (o1 o2:Nat) (p1 p2:Int):Prop where
 one:o1<K.frames.length
 two:p2≠p1->o2<K.frames.length/\o1≠o2
def AO (o1 o2:Nat) (p1 p:Int):Nat:=if p=p1 then o1 else o2
theorem tU (K:aN) (o1 o2:Nat) (p1 p2 a:Int) (s:ByteArray) (m:Nat):(kM K o1 o2 p1 p2 a s m).aj=K.aj/\(kM K o1 o2 p1 p2 a s m).aA=K.aA/\(kM K o1 o2 p1 p2 a s m).slots=K.slots/\(kM K o1 o2 p1 p2 a s m).hand=K.hand/\(kM K o1 o2 p1 p2 a s m).frames.length=K.frames.length:=by
 unfold kM;split
 · exact⟨rfl,rfl,rfl,rfl,Ag _ _ _⟩
 · exact⟨rfl,rfl,rfl,rfl,by grind [Ag]⟩
theorem Pt {K:aN} {o1 o2:Nat} {p1 p2:Int} (h:Ah K o1 o2 p1 p2) (a:Int) (s:ByteArray) (m i:Nat):au (kM K o1 o2 p1 p2 a s m).frames i=if i=o1 then ⟨qZ p1 a s (au K.frames o1).data m,(au K.frames o1).refs,(au K.frames o1).fN,(au K.frames o1).seen⟩ else if p2≠p1/\i=o2 then ⟨qZ p2 a s (au K.frames o2).data m,(au K.frames o2).refs,(au K.frames o2).fN,(au K.frames o2).seen⟩ else au K.frames i:=by
 grind [kM,Px,Ag,Ah.one,Ah.two]
theorem aay {K:aN} {o1 o2:Nat} {p1 p2:Int} (h:Ah K o1 o2 p1 p2) {a:Int} {s:ByteArray} {m:Nat} {p:Int} (hp:p=p1∨p=p2) (hm:p=(a+(m:Int))/16) :
  nu (kM K o1 o2 p1 p2 a s m) (AO o1 o2 p1 p) (fU (au (kM K o1 o2 p1 p2 a s m).frames (AO o1 o2 p1 p)).data ((a+(m:Int))%16).toNat (s.extract m (m+1)))=kM K o1 o2 p1 p2 a s (m+1):=by
 have r1:=tU K o1 o2 p1 p2 a s m;have r2:=tU K o1 o2 p1 p2 a s (m+1);have hs:∀q d,qZ q a s d (m+1)=if q=(a+(m:Int))/16 then fU (qZ q a s d m) ((a+(m:Int))%16).toNat (s.extract m (m+1)) else qZ q a s d m:=fun q d=>rfl
 have hol:AO o1 o2 p1 p<(kM K o1 o2 p1 p2 a s m).frames.length:=by
  rw[r1.2.2.2.2];unfold AO;by_cases c:p=p1
  · rw[bf c];exact h.one
  · rw[bl c];rcases hp with g | g
    · omega
    · exact(h.two (by omega)).1
 refine Tf (by show(kM K o1 o2 p1 p2 a s m).aA=_;grind) (by grind [Ag]) (fun i hi=>?_) (by show(kM K o1 o2 p1 p2 a s m).slots=_;grind) (by show(kM K o1 o2 p1 p2 a s m).aj=_;grind) (by show(kM K o1 o2 p1 p2 a s m).hand=_;omega)
 grind [Px,Pt,AO,Ah.two]
theorem aax {K:aN} {o1 o2:Nat} {p1 p2:Int} (h:Ah K o1 o2 p1 p2) (a:Int) (s:ByteArray):kM K o1 o2 p1 p2 a s 0=K:=by
 have r1:=tU K o1 o2 p1 p2 a s 0;refine Tf r1.2.1 r1.2.2.2.2 (fun i hi=>?_) r1.2.2.1 r1.1 r1.2.2.2.1;rw[Pt h a s 0 i];by_cases e:i=o1
 · rw[bf e,e];rfl
 · rw[bl e];by_cases g:p2≠p1/\i=o2
   · rw[bf g,g.2];rfl
   grind
structure Jy (k:aN) (j:Nat) (a:Int) (d:ByteArray) (K:aN) (o1 o2:Nat):Prop where
 ok:Ah K o1 o2 (a/16) (bK a d.size)
 alM:bD (ak K.aj j).aW (a/16)=some ⟨a/16,1,o1⟩
 alL:bK a d.size≠a/16->bD (ak K.aj j).aW (bK a d.size)=some ⟨bK a d.size,1,o2⟩
 size:∀m:Nat,m<=d.size->∀p,p=a/16∨p=bK a d.size->(au (kM K o1 o2 (a/16) (bK a d.size) a d m).frames (AO o1 o2 (a/16) p)).data.size=16
 last:kM K o1 o2 (a/16) (bK a d.size) a d d.size=kR k j a d
theorem adb {k:aN} (h:bg k) {j:Nat} (hj:j<k.aj.length) (a:Int) (ha:0<=a) (d:ByteArray) (hd1:1<=(d.size:Int)) (hd8:(d.size:Int)<=8) (h1:cV k j (a/16)) (h2:cV k j (bK a d.size)):Jy k j a d (bh k j a d.size 1).2 (ft k j a 1).1 (iN k j a d.size 1).1:=by
 have R:=l8 h hj a d.size 1 h1 h2;have A:=EK h hj a d.size h1 h2;have hP:pX (cQ k j) a d.size:=⟨kX h hj h1,kX h hj h2⟩;have hj':=s9 h hj a d.size 1 h1 h2;obtain⟨K,hK⟩:=ex ((bh k j a d.size 1).2);obtain⟨o1,ho1⟩:∃o,o=(ft k j a 1).1:=⟨_,rfl⟩;obtain⟨o2,GZ⟩:∃o,o=(iN k j a d.size 1).1:=⟨_,rfl⟩;have hr:=R.right;have uy:=R.kept;have hone:=R.one;have ad5:=R.two;rw[<- hK] at hr uy A hone ad5;rw[<- ho1] at A hone;rw[<- GZ] at A ad5;have hjK:j<K.aj.length:=by grind [fQ.np]
 have f1:(au K.frames o1).data=cQ k j (a/16):=by rw[<- ye hone.1,uy.QP j hj]
 have f2:bK a d.size≠a/16->(au K.frames o2).data=cQ k j (bK a d.size):=fun c=>by rw[<- ye (ad5 c).1,uy.QP j hj]
 have ok:Ah K o1 o2 (a/16) (bK a d.size):=⟨by grind [fQ.nf],fun c=>⟨by grind [fQ.nf],qM hr hjK hjK hone.1 (ad5 c).1 c⟩⟩;rw[<- hK,<- ho1,<- GZ];refine⟨ok,hone.1,fun c=>(ad5 c).1,fun m hm p hp=>?_,?_⟩
 · grind [Pt,AO,Pv,pX.one,pX.two]
 · unfold kR;rw[hj',<- hK];have es:fU (oI (cQ k j) a d.size) (a%16).toNat d=tj (cQ k j) a d:=rfl;rw[es];unfold kM;by_cases c:bK a d.size=a/16
   · have e:(bh k j a d.size 1).1=[o1]:=by grind [bh]
     rw[e,bf c,f1,CR hP ha hd1 hd8 _ hP.one];show _=nu K o1 ((tj (cQ k j) a d).extract (0*16) (0*16+16))
     grind [qT]
   · have e:(bh k j a d.size 1).1=[o1,o2]:=by grind [bh]
     rw[e,bl c,f1,f2 c,CR hP ha hd1 hd8 _ hP.one,CR hP ha hd1 hd8 _ hP.two];show _=nu (nu K o1 ((tj (cQ k j) a d).extract (0*16) (0*16+16))) o2 ((tj (cQ k j) a d).extract (1*16) (1*16+16))
     grind [qT]
def Mn (lo mb:Nat) (K:aN) (o1 o2:Nat) (p1 p2 a:Int) (d:ByteArray) (hs:List bM) (S:dN) (W:World) (m:Nat) (V:World):Prop:=bQ lo mb 27 [] V S (bu (kM K o1 o2 p1 p2 a d m) hs)/\dI S W S V
structure acd (V:World) (mb j:Nat) (p:Int) (pb nP cP fb nf cF o:Nat) (D:ByteArray):Prop where
 c1:V.cell? (Ad mb 1)=some (.slice (some (Ad fb 0)) nf cF)
 c3:V.cell? (Ad mb 3)=some (.slice (some (Ad pb 0)) nP cP)
 x0:V.cell? (Ad fb (o*4))=some (.string D)
 fz:V.frozen? (Ad fb (o*4))=false
 ol:(o:Int)<(nf:Int)
 ml:mb<V.heap.size
 fl:fb<V.heap.size
 sz:D.size=16
theorem aeT {lo mb:Nat} {k K:aN} {o1 o2 j:Nat} {a:Int} {d:ByteArray} {hs:List bM} {S:dN} {W V:World} {m:Nat} (hh:Jy k j a d K o1 o2) (hm:m<d.size) (hj:j<K.aj.length) (hen:(ak K.aj j).aW.length<=1000) (hd1:1<=(d.size:Int)) (hd8:(d.size:Int)<=8) (h:Mn lo mb K o1 o2 (a/16) (bK a d.size) a d hs S W m V) :
  ∃pb cP fb nf cF o D,acd V mb j ((a+(m:Int))/16) pb K.aj.length cP fb nf cF o D/\(∃lv ax nx cx gb ne ce i,EA V j ((a+(m:Int))/16) pb ⟨(a+(m:Int))/16,1,o⟩ lv ax nx cx gb ne ce i)/\(∀V',Below V.heap.size V V'->Mn lo mb K o1 o2 (a/16) (bK a d.size) a d hs S W (m+1) (V'.setCell (Ad fb (o*4)) (.string (fU D ((a+(m:Int))%16).toNat (d.extract m (m+1)))))):=by
 obtain⟨h1,h2⟩:=h;have wS:(a+(m:Int))/16=a/16∨(a+(m:Int))/16=bK a d.size:=by
  grind [yw]
 have hr:=tU K o1 o2 (a/16) (bK a d.size) a d m;obtain⟨o,ho⟩:=ex (AO o1 o2 (a/16) ((a+(m:Int))/16));have hol:o<K.frames.length:=by
  rw[ho];unfold AO;by_cases c:(a+(m:Int))/16=a/16
  · rw[bf c];exact hh.ok.one
  · rw[bl c];exact(hh.ok.two (by omega)).1
 have hent:bD (ak K.aj j).aW ((a+(m:Int))/16)=some ⟨(a+(m:Int))/16,1,o⟩:=by
  grind [AO,Jy.alM,Jy.alL]
 have alr:o<(bu (kM K o1 o2 (a/16) (bK a d.size) a d m) hs).frames.length:=by show o<(kM K o1 o2 (a/16) (bK a d.size) a d m).frames.length;omega
 have hsp:(bu (kM K o1 o2 (a/16) (bK a d.size) a d m) hs).aj=K.aj:=hr.1;obtain⟨fb,cF,A⟩:=h1.toiZ.fr (by omega);obtain⟨pb,cP,AP⟩:=h1.toiZ.sp (by grind);have c1:=h1.c1;have c3:=h1.c3;rw[A.v] at c1;rw[AP.v,hsp] at c3;obtain⟨lv,ax,nx,cx,gb,ne,ce,i,E⟩:=Lp h1 (j:=j) (by grind) (by grind) AP.v (p:=(a+(m:Int))/16) (e:=⟨(a+(m:Int))/16,1,o⟩) (by grind);have hsz:=hh.size m (by omega) ((a+(m:Int))/16) wS;rw[<- ho] at hsz;refine⟨pb,cP,fb,_,cF,o,(au (kM K o1 o2 (a/16) (bK a d.size) a d m).frames o).data,⟨c1,c3,A.x0 o alr,A.fz _,by omega,h1.lt,A.lt,hsz⟩,⟨lv,ax,nx,cx,gb,ne,ce,i,E⟩,fun V' hV=>⟨?_,(h2.trans (dI.below hV)).trans (tV h1.toiZ A.v)⟩⟩;have hst:=aay hh.ok (a:=a) (s:=d) (m:=m) wS rfl;rw[<- ho] at hst;rw[<- hst];exact(h1.below hV).Ch A.v alr (j:=0) (by omega) rfl
theorem Ps (k:aN) (a:fP) (j:Nat) (ad:Int) (d:ByteArray) (w:World) (hK:fT w a k) (hF:gW k) (hR:bg k) (hj:j<k.aj.length) (hd:1<=(d.size:Int)/\(d.size:Int)<=8) (hf:(dQ (ak k.aj j).aZ ad d.size 1).1=0) :
  Calls Tryz.prog 29 #[.agg (aT a k),I (j:Int),I ad,.string d] w (qu w (kR k j ad d)):=by
 obtain⟨Ov,hal,hau,hmap⟩:=kS hd.1 hd.2 hf;have qP:cV k j (ad/16):=by
  have:=hmap 0 (by omega) (by omega);rw[xM] at this;exact this
 have hm2:cV k j (bK ad d.size):=by
  have:=hmap (d.size-1) (by omega) (by omega);unfold bK;rw[show ad+d.size-1=ad+(d.size-1) by omega];exact this
 have uy:=(l8 hR hj ad d.size 1 qP hm2).kept;have hRK:=(l8 hR hj ad d.size 1 qP hm2).right;have hh:=adb hR hj ad (by omega) d hd.1 hd.2 qP hm2;obtain⟨WA,iK⟩:=ex ((w.alloc (.cells (aT a k) 27)).alloc (.cells #[Nl,Nl,Nl,Nl,I 0] 27));have hb0:Below w.heap.size w WA:=by simp_all [aK,mq]
 have kb:WA.heap[w.heap.size]?=some (.cells (aT a k) 27 (0,0)):=by grind [bE,bG]
 have rb:WA.heap[w.heap.size+1]?=some (.cells #[Nl,Nl,Nl,Nl,I 0] 27 (0,0)):=by
  grind [bG,World.size_alloc]
 have hrl:=aO rb;have RB:=ai rb;obtain⟨k0,k1,k2,k3,k4⟩:=dx kb;have HOW:=ai (Yn (Et k a j ad d.size 1 WA (hK.below hb0) hF hR hj hd hf) (aK WA.heap.size WA));obtain⟨K,ZW⟩:=ex ((bh k j ad d.size 1).2);obtain⟨o1,ho1⟩:∃o,o=(ft k j ad 1).1:=⟨_,rfl⟩;obtain⟨o2,GZ⟩:∃o,o=(iN k j ad d.size 1).1:=⟨_,rfl⟩;rw[<- ZW,<- ho1,<- GZ] at hh;rw[<- ZW] at HOW uy hRK;have hjK:j<K.aj.length:=by rw[uy.np];exact hj
 have hen:(ak K.aj j).aW.length<=1000:=by have:=jC hRK hjK;omega
 have JZ:Hid (∀mb hs S W m V,m<d.size->Mn WA.heap.size mb K o1 o2 (ad/16) (bK ad d.size) ad d hs S W m V->∃pb cP fb nf cF o D,acd V mb j ((ad+(m:Int))/16) pb K.aj.length cP fb nf cF o D/\(∃lv ax nx cx gb ne ce i,EA V j ((ad+(m:Int))/16) pb ⟨(ad+(m:Int))/16,1,o⟩ lv ax nx cx gb ne ce i)/\(∀V',Below V.heap.size V V'->Mn WA.heap.size mb K o1 o2 (ad/16) (bK ad d.size) ad d hs S W (m+1) (V'.setCell (Ad fb (o*4)) (.string (fU D ((ad+(m:Int))%16).toNat (d.extract m (m+1))))))):=fun mb hs S W m V hm h=>aeT hh hm hjK hen hd.1 hd.2 h
 have HL0:Hid (∀mb hs S W,bQ WA.heap.size mb 27 [] W S (bu K hs)->Mn WA.heap.size mb K o1 o2 (ad/16) (bK ad d.size) ad d hs S W 0 W):=fun mb hs S W h=>⟨by rw[aax hh.ok];exact h,dI.refl _ _⟩
 have ZR:(kR k j ad d).hand=K.hand:=by rw[<- hh.last];exact(tU K o1 o2 (ad/16) (bK ad d.size) ad d d.size).2.2.2.1
 have hsh:(kR k j ad d).aA=K.aA:=by rw[<- hh.last];exact(tU K o1 o2 (ad/16) (bK ad d.size) ad d d.size).2.1
 have qN:Hid (∀V U S W hs mb,dw K.aA hs->Mn WA.heap.size mb K o1 o2 (ad/16) (bK ad d.size) ad d hs S W d.size V->Below WA.heap.size WA V->aH (fun b=>b=w.heap.size+1) V U->qu w (kR k j ad d) (.returned (.agg #[S.vS,S.vF,S.vL,S.vP,I K.hand])) U):=fun V U S W hs mb h1 h2 h3 h4=>by
  obtain⟨g1,_⟩:=h2;rw[hh.last] at g1;rw[<- ZR];exact Mk g1 (by grind) hb0.size (hb0.trans (h3.mono hb0.size)) h4 hrl (by omega)
 have hda:0<=ad/\ad<=100000:=by omega
 obtain⟨P,hP⟩:=ex (qu w (kR k j ad d));rw[<- hP] at qN ⊢;have iG:=ai iK;have hd8:d.size<=8:=by omega
 have KT:(j:Int)<(K.aj.length:Int):=by omega
 obtain⟨nsp,alv⟩:∃n,n=K.aj.length:=⟨_,rfl⟩;rw[<- alv] at JZ KT;unfold aT at iG HOW ⊢;clear hK hF hR hj hf Ov hal hau hmap qP hm2 uy hRK hh iK hb0 kb rb ZW ho1 GZ hjK hen ZR hsh hP hd alv;go_enter Tryz.func29,Tryz.ntmps29;go_upto_region 1 with fail;rw[<- iG.o];go_upto_region 2 with(go_at_call 21;refine HOW.o.mono ?_;rintro e w4 ⟨hs,S,aS,nS,cS,aF,nF,cF,aL,nL,cL,aP,nP,cP,rfl,hs2,hk2,hb2⟩;have qd:=ai hs2;have pH:=ai hk2;have kO:=ai hb2;clear hs2 hk2 hb2)
 obtain⟨W4,L8⟩:=ex (w4.alloc (.cells #[.slice aS nS cS,.slice aF nF cF,.slice aL nL cL,.slice aP nP cP,I K.hand] 27));obtain⟨mb,hmb⟩:=ex w4.heap.size;rw[<- L8] at pH kO ⊢;rw[<- hmb] at pH ⊢;clear L8 hmb k0 k1 k2 k3 k4;have HBV:Hid (∀V m,Mn WA.heap.size mb K o1 o2 (ad/16) (bK ad d.size) ad d hs S W4 m V->Below WA.heap.size WA V):=fun V m h=>aH.below kO.o h.2.kp kO.o.size (fun b hb=>(pH.o.qF b hb).1)
 go_wp2;go_loopw [10] (fun iv wr=>∃m:Nat,m<=d.size/\iv=I (m:Int)/\Mn WA.heap.size mb K o1 o2 (ad/16) (bK ad d.size) ad d hs S W4 m wr) (fun iv _=>d.size-(intOf iv).toNat)
 case atStart=>exact⟨0,ql _,rfl,HL0.o _ _ _ _ pH.o⟩
 case round =>
  obtain⟨m,hm,rfl,hl⟩:=hrel;by_cases hlt:m<d.size
  · obtain⟨pb,cP2,fb,nf,cF2,o,D,L,⟨lv2,ax2,nx2,cx2,gb,ne,ce2,ei,E⟩,ahR⟩:=JZ.o mb hs S W4 m wr hlt hl;have rR:=ai ahR;have We:=ai hlt;have hmi:(m:Int)<(d.size:Int):=by omega
    have hw1:IntKind.i64.wrap (ad+(m:Int))=ad+(m:Int):=mP _ (by omega);obtain⟨p,hp⟩:=ex ((ad+(m:Int))/16);rw[<- hp] at E;have hq:(ad+(m:Int)).tdiv 16=p:=by rw[hp];exact Cu (by omega)
    have hpb:-9223372036854775808<=p/\p<=9223372036854775807:=by omega
    have hwp:IntKind.i64.wrap p=p:=mP _ hpb;have hmo:(ad+(m:Int)).tmod 16=(ad+(m:Int))%16:=N8 (by omega);obtain⟨q,hq2⟩:∃q:Nat,((ad+(m:Int))%16)=(q:Int):=⟨((ad+(m:Int))%16).toNat,by omega⟩;have avj:q<16:=by omega
    rw[hq2] at hmo;rw[hq2,iu] at rR;have hwq:IntKind.i64.wrap (q:Int)=(q:Int):=mP _ (by omega);have HOV:Hid (∀V,Calls Tryz.prog 68 #[.string D,I (q:Int),.string (d.extract m (m+1))] V fun e w'=>e=.returned (.string (fU D q (d.extract m (m+1))))/\Below V.heap.size V w'):=fun V=>MG D (d.extract m (m+1)) q V (by rw[L.sz];omega) (by rw[ByteArray.size_extract,L.sz];omega)
    have HML:=ai L;have hol:=L.ol;clear hp hq2 hl ahR hlt hm L;go_upto_region 5 with fail;have ij:Hid (∀V,Below wr.heap.size wr V->V.cell? (Ad pb (j*3))=some (.bool lv2)/\V.cell? (Ad pb (j*3+1))=some (.slice ax2 nx2 cx2)/\V.cell? (Ad pb (j*3+2))=some (.slice (some (Ad gb 0)) ne ce2)/\V.cell? (Ad gb (ei*3))=some (I p)/\V.cell? (Ad gb (ei*3+1))=some (I 1)/\V.cell? (Ad gb (ei*3+2))=some (I (o:Int))/\V.cell? (Ad mb 3)=some (.slice (some (Ad pb 0)) nsp cP2)):=fun V hV=>⟨(hV.cell (p:=(Ad pb (j*3))) E.lt).trans E.y0,(hV.cell (p:=(Ad pb (j*3+1))) E.lt).trans E.y1,(hV.cell (p:=(Ad pb (j*3+2))) E.lt).trans E.y2,(hV.cell (p:=(Ad gb (ei*3))) E.gl).trans E.z0,(hV.cell (p:=(Ad gb (ei*3+1))) E.gl).trans E.z1,(hV.cell (p:=(Ad gb (ei*3+2))) E.gl).trans E.z2,(hV.cell (p:=(Ad mb 3)) HML.o.ml).trans HML.o.c3⟩
    have HEC:=ai E.call;have hil:=E.il;have hi0:(0:Int)<=(ei:Int):=by omega
    clear E;go_cut [11] (fun x wx=>∃g,x=.pointer (some (Ad g 0))/\wr.heap.size<=g/\wx.heap[g]?=some (.cells #[I p,I 1,I (o:Int)] 45 (0,0))/\Below wr.heap.size wr wx)
    case first =>
     refine nB (S:=fun V=>Below wr.heap.size wr V) (z:=19) (by kernel_rfl) ?_;have gj:Hid (Below wr.heap.size wr wr.drew):=(aK _ _).drew;obtain⟨WD,Gn⟩:=ex wr.drew;rw[<- Gn] at gj ⊢;clear Gn;refine cB 0 gj.o ?_ ?_ ?_;rotate_left 1
     · intro V h;obtain⟨k0,k1,k2,k3,k4,k5,k6⟩:=ij.o V h;go_simp;try with_reducible rfl
     refine cB 1 gj.o ?_ ?_ ?_;rotate_left 1
     · intro V h;obtain⟨k0,k1,k2,k3,k4,k5,k6⟩:=ij.o V h;go_simp;try with_reducible rfl
     refine cB 2 gj.o ?_ ?_ ?_;rotate_left 1
     · intro V h;obtain⟨k0,k1,k2,k3,k4,k5,k6⟩:=ij.o V h;go_simp;try with_reducible rfl
     refine cB 3 gj.o ?_ ?_ ?_;rotate_left 1
     · intro V h;obtain⟨k0,k1,k2,k3,k4,k5,k6⟩:=ij.o V h;go_simp;try with_reducible rfl
     refine cB 4 gj.o ?_ ?_ ?_;rotate_left 1
     · intro V h;obtain⟨k0,k1,k2,k3,k4,k5,k6⟩:=ij.o V h;go_simp;try with_reducible rfl
     refine cB 5 gj.o ?_ ?_ ?_;rotate_left 1
     · intro V h;obtain⟨k0,k1,k2,k3,k4,k5,k6⟩:=ij.o V h;go_simp;try with_reducible rfl
     refine cB 6 gj.o ?_ ?_ ?_;rotate_left 1
     · intro V h;obtain⟨k0,k1,k2,k3,k4,k5,k6⟩:=ij.o V h;go_simp;try with_reducible rfl
     refine cB 7 gj.o ?_ ?_ ?_;rotate_left 1
     · intro V h;obtain⟨k0,k1,k2,k3,k4,k5,k6⟩:=ij.o V h;go_simp;try with_reducible rfl
     refine cB 8 gj.o ?_ ?_ ?_;rotate_left 1
     · intro V h;obtain⟨k0,k1,k2,k3,k4,k5,k6⟩:=ij.o V h;go_simp;try with_reducible rfl
     refine cB 9 gj.o ?_ ?_ ?_;rotate_left 1
     · intro V h;obtain⟨k0,k1,k2,k3,k4,k5,k6⟩:=ij.o V h;go_simp;try with_reducible rfl
     refine cB 10 gj.o ?_ ?_ ?_;rotate_left 1
     · intro V h;obtain⟨k0,k1,k2,k3,k4,k5,k6⟩:=ij.o V h;go_simp;try with_reducible rfl
     refine cB 11 gj.o ?_ ?_ ?_;rotate_left 1
     · intro V h;obtain⟨k0,k1,k2,k3,k4,k5,k6⟩:=ij.o V h;go_simp;try with_reducible rfl
     refine cB 12 gj.o ?_ ?_ ?_;rotate_left 1
     · intro V h;obtain⟨k0,k1,k2,k3,k4,k5,k6⟩:=ij.o V h;go_simp;try with_reducible rfl
     refine cB 13 gj.o ?_ ?_ ?_;rotate_left 1
     · intro V h;obtain⟨k0,k1,k2,k3,k4,k5,k6⟩:=ij.o V h;go_simp;try with_reducible rfl
     refine cB 14 gj.o ?_ ?_ ?_;rotate_left 1
     · intro V h;obtain⟨k0,k1,k2,k3,k4,k5,k6⟩:=ij.o V h;go_simp;try with_reducible rfl
     refine ck (rs:=[15,18]) (by kernel_rfl) (by simp) ?_;refine aU.cons rfl (fun K hK=>?_) (aU.cons rfl (fun K hK=>?_) aU.nil)
     · rw[bf (by rfl)];go_simp;go_at_call 67;refine(HEC.o _ (gj.o)).mono ?_;rintro e w1 ⟨rfl,hb1⟩;have mg:=ai ((gj.o).trans (hb1.mono (gj.o).size));clear hb1;try go_simp;refine hK.out _ _ (fun _=>?_) ?_
       · exact mg.o
       clear hK K
       try simp only[Act.put,bW,bV,bU]
       refine cB 16 mg.o ?_ ?_ ?_;rotate_left 1
       · intro V h;obtain⟨k0,k1,k2,k3,k4,k5,k6⟩:=ij.o V h;go_simp;try with_reducible rfl
       refine cB 17 mg.o ?_ ?_ ?_;rotate_left 1
       · intro V h;obtain⟨k0,k1,k2,k3,k4,k5,k6⟩:=ij.o V h;go_simp;try with_reducible rfl
       refine ck (rs:=[18]) (by kernel_rfl) (by simp) ?_;refine aU.cons rfl (fun K hK=>?_) aU.nil;go_simp;refine hK.out _ _ (fun _=>?_) ?_
       · exact mg.o.alloc mg.o.size _
       clear hK K
       try simp only[Act.put,bW,bV,bU]
       refine ck (rs:=[19]) (by kernel_rfl) (by simp) ?_;refine aU.cons rfl (fun K hK=>?_) aU.nil;go_simp;refine hK.out _ _ (fun g=>absurd rfl g) ?_;refine jL (by kernel_rfl) ?_ _;go_wp2_with fail
       go_meet
       case rel=>exact⟨_,rfl,mg.o.size,bG w1 _ _,mg.o.alloc mg.o.size _⟩
     · go_simp;refine hK.out _ _ (fun _=>?_) ?_
       · exact gj.o.alloc gj.o.size (.cells #[I 0,I 0,I 0] 45)
       clear hK K
       try simp only[Act.put,bW,bV,bU]
       refine ck (rs:=[15]) (by kernel_rfl) (by simp) ?_;refine aU.cons rfl (fun K hK=>?_) aU.nil;rw[bf (by rfl)];go_simp;go_at_call 67;refine(HEC.o _ (gj.o.alloc gj.o.size (.cells #[I 0,I 0,I 0] 45))).mono ?_;rintro e w1 ⟨rfl,hb1⟩;have mg:=ai ((gj.o.alloc gj.o.size (.cells #[I 0,I 0,I 0] 45)).trans (hb1.mono (gj.o.alloc gj.o.size (.cells #[I 0,I 0,I 0] 45)).size));have BZ:=ai (aQ (bG WD #[I 0,I 0,I 0] 45) hb1 (by simp));clear hb1;try go_simp;refine hK.out _ _ (fun _=>?_) ?_
       · exact mg.o
       clear hK K
       try simp only[Act.put,bW,bV,bU]
       refine cB 16 mg.o ?_ ?_ ?_;rotate_left 1
       · intro V h;obtain⟨k0,k1,k2,k3,k4,k5,k6⟩:=ij.o V h;go_simp;try with_reducible rfl
       refine cB 17 mg.o ?_ ?_ ?_;rotate_left 1
       · intro V h;obtain⟨k0,k1,k2,k3,k4,k5,k6⟩:=ij.o V h;go_simp;try with_reducible rfl
       obtain⟨t0,t1,t2⟩:=og BZ.o;have f0:=aJ BZ.o 0;have f1:=aJ BZ.o 1;have f2:=aJ BZ.o 2;refine ck (rs:=[19]) (by kernel_rfl) (by simp) ?_;refine aU.cons rfl (fun K hK=>?_) aU.nil;go_simp;refine hK.out _ _ (fun g=>absurd rfl g) ?_;refine jL (by kernel_rfl) ?_ _;go_wp2_with fail
       go_meet
       case rel=>exact⟨_,rfl,gj.o.size,dG (dG (dG BZ.o 0 _) 1 _) 2 _,((mg.o.setCell (p:=(Ad WD.heap.size 0)) gj.o.size _).setCell (p:=(Ad WD.heap.size 1)) gj.o.size _).setCell (p:=(Ad WD.heap.size 2)) gj.o.size _⟩
    case rest =>
    obtain⟨gE,rfl,hgl,hgb,hbc⟩:=hcut;obtain⟨W5,Oz⟩:=ex wc;subst Oz;obtain⟨c1,c3,x0,fz,ol,ml,fl,sz⟩:=HML.o;have ij:Hid (∀V,Below W5.heap.size W5 V->V.cell? (Ad mb 1)=some (.slice (some (Ad fb 0)) nf cF2)/\V.cell? (Ad gE 2)=some (I (o:Int))/\V.cell? (Ad fb (o*4))=some (.string D)/\V.frozen? (Ad fb (o*4))=false):=fun V hV=>by
     have hVr:=hbc.trans (hV.mono hbc.size);exact⟨(hVr.cell (p:=(Ad mb 1)) ml).trans c1,aB (aQ hgb hV (aO hgb)) 2 rfl,(hVr.cell (p:=(Ad fb (o*4))) fl).trans x0,(hVr.frozen (p:=(Ad fb (o*4))) fl).trans fz⟩
    have Gj:=ai hbc;have ho0:(0:Int)<=(o:Int):=by omega
    have hw2:IntKind.i64.wrap ((m:Int)+1)=(m:Int)+1:=mP _ (by omega);have hs0:(0:Int)<=(m:Int)+1:=by omega
    have hs1:(m:Int)+1<=(d.size:Int):=by omega
    have hs2:(m:Int)<=(m:Int)+1:=by omega
    clear c1 c3 x0 fz ml fl sz hgb hbc hgl HEC hil hi0;go_upto_region 6 with fail;refine nB (S:=fun V=>Below W5.heap.size W5 V) (z:=23) (by kernel_rfl) ?_;have gj:Hid (Below W5.heap.size W5 W5.drew):=(aK _ _).drew;obtain⟨WD,Gn⟩:=ex W5.drew;rw[<- Gn] at gj ⊢;clear Gn;refine cB 0 gj.o ?_ ?_ ?_;rotate_left 1
    · intro V h;obtain⟨k0,k1,k2,k3⟩:=ij.o V h;go_simp;try with_reducible rfl
    refine cB 1 gj.o ?_ ?_ ?_;rotate_left 1
    · intro V h;obtain⟨k0,k1,k2,k3⟩:=ij.o V h;go_simp;try with_reducible rfl
    refine cB 2 gj.o ?_ ?_ ?_;rotate_left 1
    · intro V h;obtain⟨k0,k1,k2,k3⟩:=ij.o V h;go_simp;try with_reducible rfl
    refine cB 3 gj.o ?_ ?_ ?_;rotate_left 1
    · intro V h;obtain⟨k0,k1,k2,k3⟩:=ij.o V h;go_simp;try with_reducible rfl
    refine cB 4 gj.o ?_ ?_ ?_;rotate_left 1
    · intro V h;obtain⟨k0,k1,k2,k3⟩:=ij.o V h;go_simp;try with_reducible rfl
    refine cB 5 gj.o ?_ ?_ ?_;rotate_left 1
    · intro V h;obtain⟨k0,k1,k2,k3⟩:=ij.o V h;go_simp;try with_reducible rfl
    refine cB 6 gj.o ?_ ?_ ?_;rotate_left 1
    · intro V h;obtain⟨k0,k1,k2,k3⟩:=ij.o V h;go_simp;try with_reducible rfl
    refine cB 7 gj.o ?_ ?_ ?_;rotate_left 1
    · intro V h;obtain⟨k0,k1,k2,k3⟩:=ij.o V h;go_simp;try with_reducible rfl
    refine cB 8 gj.o ?_ ?_ ?_;rotate_left 1
    · intro V h;obtain⟨k0,k1,k2,k3⟩:=ij.o V h;go_simp;try with_reducible rfl
    refine cB 9 gj.o ?_ ?_ ?_;rotate_left 1
    · intro V h;obtain⟨k0,k1,k2,k3⟩:=ij.o V h;go_simp;try with_reducible rfl
    refine cB 10 gj.o ?_ ?_ ?_;rotate_left 1
    · intro V h;obtain⟨k0,k1,k2,k3⟩:=ij.o V h;go_simp;try with_reducible rfl
    refine cB 11 gj.o ?_ ?_ ?_;rotate_left 1
    · intro V h;obtain⟨k0,k1,k2,k3⟩:=ij.o V h;go_simp;try with_reducible rfl
    refine cB 12 gj.o ?_ ?_ ?_;rotate_left 1
    · intro V h;obtain⟨k0,k1,k2,k3⟩:=ij.o V h;go_simp;try with_reducible rfl
    refine cB 13 gj.o ?_ ?_ ?_;rotate_left 1
    · intro V h;obtain⟨k0,k1,k2,k3⟩:=ij.o V h;go_simp;try with_reducible rfl
    refine cB 14 gj.o ?_ ?_ ?_;rotate_left 1
    · intro V h;obtain⟨k0,k1,k2,k3⟩:=ij.o V h;go_simp;try with_reducible rfl
    refine cB 15 gj.o ?_ ?_ ?_;rotate_left 1
    · intro V h;obtain⟨k0,k1,k2,k3⟩:=ij.o V h;go_simp;try with_reducible rfl
    refine cB 16 gj.o ?_ ?_ ?_;rotate_left 1
    · intro V h;obtain⟨k0,k1,k2,k3⟩:=ij.o V h;go_simp;try with_reducible rfl
    refine cB 17 gj.o ?_ ?_ ?_;rotate_left 1
    · intro V h;obtain⟨k0,k1,k2,k3⟩:=ij.o V h;go_simp;try with_reducible rfl
    refine cB 18 gj.o ?_ ?_ ?_;rotate_left 1
    · intro V h;obtain⟨k0,k1,k2,k3⟩:=ij.o V h;go_simp;try with_reducible rfl
    refine cB 19 gj.o ?_ ?_ ?_;rotate_left 1
    · intro V h;obtain⟨k0,k1,k2,k3⟩:=ij.o V h;go_simp;first | (with_reducible rfl) | (rw[bf (show(0:Int)<=(m:Int)+1/\(m:Int)+1<=(d.size:Int) from⟨hs0,hs1⟩),bf hs2])
    refine ck (rs:=[20]) (by kernel_rfl) (by simp) ?_;refine aU.cons rfl (fun K hK=>?_) aU.nil;rw[bf (by rfl)];go_simp;go_at_call 68;refine(HOV.o _).mono ?_;rintro e w6 ⟨rfl,Bi⟩;have mg:=ai (gj.o.trans (Bi.mono gj.o.size));clear Bi;try go_simp;refine hK.out _ _ (fun _=>?_) ?_
    · exact mg.o
    clear hK K
    try simp only[Act.put,bW,bV,bU]
    obtain⟨x0,x1,x2,x3⟩:=ij.o _ mg.o;refine ck (rs:=[21]) (by kernel_rfl) (by simp) ?_;refine aU.cons rfl (fun K hK=>?_) aU.nil;go_simp;refine hK.out _ _ (fun _=>?_) ?_
    · exact mg.o
    clear hK K
    try simp only[Act.put,bW,bV,bU]
    clear x0 x1 x2 x3;refine cB 22 mg.o ?_ ?_ ?_;rotate_left 1
    · intro V h;obtain⟨k0,k1,k2,k3⟩:=ij.o V h;go_simp;try with_reducible rfl
    obtain⟨y0,y1,y2,y3⟩:=ij.o _ mg.o;refine ck (rs:=[23]) (by kernel_rfl) (by simp) ?_;refine aU.cons rfl (fun K hK=>?_) aU.nil;go_simp;refine hK.out _ _ (fun g=>absurd rfl g) ?_;refine jL (by kernel_rfl) ?_ _;have QM:=ai (rR.o _ (Gj.o.trans (mg.o.mono Gj.o.size)));clear y0 y1 y2 y3;obtain⟨U,hU⟩:=ex (w6.setCell (Ad fb (o*4)) (.string (fU D q (d.extract m (m+1)))));rw[<- hU] at QM ⊢;clear hU;go_wp2;go_roundw
    case rel=>exact⟨m+1,We.o,by go_num,QM.o⟩
    case measure=>simp[intOf];omega
  · obtain rfl:m=d.size:=by omega
    have QJ:=HBV.o wr _ hl;obtain⟨aS,nS,cS,aF,nF,cF,aL,nL,cL,aP,nP,cP,⟨e1,e2,e3,e4⟩,c0,c1,c2,c3,c4e⟩:=Yq hl.1;have c4:wr.cell? (Ad mb 4)=some (I K.hand):=by rw[c4e];show some (I (kM K o1 o2 (ad/16) (bK ad d.size) ad d d.size).hand)=_;rw[(tU K o1 o2 (ad/16) (bK ad d.size) ad d d.size).2.2.2.1]
    have r0:=aQ RB.o QJ hrl;have R1:=ai r0;have Qo:Hid (∀U,aH (fun b=>b=w.heap.size+1) wr U->P (.returned (.agg #[.slice aS nS cS,.slice aF nF cF,.slice aL nL cL,.slice aP nP cP,I K.hand])) U):=fun U hU=>by
     have:=qN.o wr U S W4 hs mb qd.o hl QJ hU;rw[e1,e2,e3,e4] at this;omega
    obtain⟨y0,y1,y2,y3,y4⟩:=dx r0;have f0:=aJ r0 0;have f1:=aJ r0 1;have f2:=aJ r0 2;have f3:=aJ r0 3;have f4:=aJ r0 4;have h5:=ai (fun V=>gY R1.o (.slice aS nS cS) (.slice aF nF cF) (.slice aL nL cL) (.slice aP nP cP) (I K.hand) (V:=V));clear r0 hl QJ e1 e2 e3 e4 hlt hm c4e;go_wp2;obtain⟨U,hU⟩:=ex (((((wr.setCell (Ad (w.heap.size+1) 0) (.slice aS nS cS)).setCell (Ad (w.heap.size+1) 1) (.slice aF nF cF)).setCell (Ad (w.heap.size+1) 2) (.slice aL nL cL)).setCell (Ad (w.heap.size+1) 3) (.slice aP nP cP)).setCell (Ad (w.heap.size+1) 4) (I K.hand));obtain⟨r1,r2⟩:=h5.out U hU;obtain⟨z0,z1,z2,z3,z4⟩:=dx r1;rw[<- hU];clear hU;refine bR (v:=.agg #[.slice aS nS cS,.slice aF nF cF,.slice aL nL cL,.slice aP nP cP,I K.hand]) (by simp[results,Tryz.results29,go_sem,z0,z1,z2,z3,z4]) rfl ?_;exact Qo.o _ r2
end Go.Proofs.YtpgifpeohlllfaaGreat
end Go.Proofs.YtpgifpeohlllfaaGreat
