import Derived.Test.YtpgifpeohlllfaaGreatGR33
set_option maxHeartbeats 20000000
set_option linter.unusedVariables false
set_option maxRecDepth 100000
set_option linter.unusedSimpArgs false
namespace Go.Proofs.YtpgifpeohlllfaaGreat
open Go.RowKit
theorem Wh {lo:Nat} {w:World} {S:dE} {k:aN} (h:Kr lo w S k) (hlo:lo<=w.heap.size):bu lo w.heap.size 27 [] (w.alloc (.cells #[S.vS,S.vF,S.vL,S.vP,I k.hand] 27)) ⟨fun b=>if b=w.heap.size then .head else S.lab b,S.vS,S.vF,S.vL,S.vP,S.L⟩ k:=by
 have hb:Below w.heap.size w (w.alloc (.cells #[S.vS,S.vF,S.vL,S.vP,I k.hand] 27)):=(aK _ _).alloc (aI _) _;have g:=h.below hb;have old:∀b c,S.lab b=c->c≠.no->(if b=w.heap.size then jO.head else S.lab b)=c:=fun b c e hc=>by
  have:=(h.rV b (by rw[e];exact hc)).2;rw[bf (by omega),e]
 refine⟨⟨fun b hx=>?_,g.aD,g.cM,g.frames,g.slots,g.aj,g.len,g.each,fun b hx=>old b _ (h.lS b hx) (by simp),fun i hi b hx=>old b _ (h.lX i hi b hx) (by simp),fun b hx=>old b _ (h.lF b hx) (by simp),fun b hx=>old b _ (h.lL b hx) (by simp),fun b hx=>old b _ (h.lP b hx) (by simp),fun i hi b hx=>old b _ (h.lA i hi b hx) (by simp),fun i hi b hx=>old b _ (h.lE i hi b hx) (by simp)⟩,bO _ _ _,aR rfl⟩;have hx:(if b=w.heap.size then jO.head else S.lab b)≠.no:=hx;rw[ig];by_cases c:b=w.heap.size
 · omega
 · rw[bf c] at hx;have:=h.rV b hx;omega
open Go.RowKit
theorem QU (V:World) (S:dE):jD V S none []:=⟨fun h=>absurd h (EY _),fun b off e=>(by cases e),fun b off e=>(by cases e)⟩
theorem T6 (V:World) {S:dE} (hn:S.lab V.heap.size=.no) (i:Nat):jD (V.alloc (.cells #[I (i:Int)] 3)) S (some (Ad V.heap.size 0)) [(i:Int)] :=
 (uH (S:=S) (l:=[(i:Int)]) (n:=1) (c:=1) (base:=V.heap.size) ⟨rfl,.inr ⟨V.heap.size,1,_,rfl,aI _,bO V _ _,aI _,by unfold maxLen;omega,rfl,rfl⟩⟩ (fun b hb=>by
  have hb:some V.heap.size=some b:=hb;injection hb with hb;rw[<- hb];exact hn)).2
theorem T4 {lo mb:Nat} {w V U:World} {S:dE} {K:aN} {hs:List bR} {rb:Nat} (h:bu lo mb 27 [] V S (bN K hs)) (hs2:cW K.aD hs) (hlo:w.heap.size<=lo) (hb:Below w.heap.size w V) (hU:aM (fun b=>b=rb) V U) (hr:rb<lo) (hw:w.heap.size<=rb):oW w K (.returned (.agg #[S.vS,S.vF,S.vL,S.vP,I K.hand])) U :=
 ⟨S,hs,hs2,rfl,(h.toKr.kp hU (fun b hb2 e=>by have:=(h.rV b hb2).1;omega)).mono hlo,aM.below hb hU hb.size (fun b e=>by omega)⟩
def acW (WA:World) (k:aN) (e:Ending) (w':World):Prop:=∃hs S aS nS cS aF nF cF aL nL cL aP nP cP,e=.returned (.agg #[.slice aS nS cS,.slice aF nF cF,.slice aL nL cL,.slice aP nP cP,I k.hand])/\cW k.aD hs/\bu WA.heap.size w'.heap.size 27 [] (w'.alloc (.cells #[.slice aS nS cS,.slice aF nF cF,.slice aL nL cL,.slice aP nP cP,I k.hand] 27)) S (bN k hs)/\Below WA.heap.size WA (w'.alloc (.cells #[.slice aS nS cS,.slice aF nF cF,.slice aL nL cL,.slice aP nP cP,I k.hand] 27))
theorem aa1 {WA V:World} {k:aN} {f:FuncId} {xs:Array Value} (h:Calls Tryz.prog f xs V (oW V k)) (hb:Below WA.heap.size WA V):Calls Tryz.prog f xs V (acW WA k) :=
 h.mono fun e w' ⟨S,hs,h1,h2,h3,h4⟩=>by
  obtain⟨aS,nS,cS,eS⟩:∃b n d,S.vS=.slice b n d:=by obtain⟨b,d,e,_⟩:=aY h3.aD;exact⟨b,_,d,e⟩
  obtain⟨aF,nF,cF,eF⟩:∃b n d,S.vF=.slice b n d:=by obtain⟨b,d,e,_⟩:=aY h3.frames;exact⟨b,_,d,e⟩
  obtain⟨aL,nL,cL,eL⟩:∃b n d,S.vL=.slice b n d:=by obtain⟨b,d,e,_⟩:=aY h3.slots;exact⟨b,_,d,e⟩
  obtain⟨aP,nP,cP,eP⟩:∃b n d,S.vP=.slice b n d:=by obtain⟨b,d,e,_⟩:=aY h3.aj;exact⟨b,_,d,e⟩
  have hz:WA.heap.size<=w'.heap.size:=gy hb.size h4.size;have hk:=Wh (h3.mono hb.size) hz;rw[eS,eF,eL,eP] at hk;exact⟨hs,_,aS,nS,cS,aF,nF,cF,aL,nL,cL,aP,nP,cP,by rw[h2,eS,eF,eL,eP],h1,hk,(hb.trans (h4.mono hb.size)).alloc hz _⟩
theorem aa4 {lo mb:Nat} {tt:TypeId} {X:List Value} {V:World} {S:dE} {K:aN} (h:bu lo mb tt X V S K):∃aS nS cS aF nF cF aL nL cL aP nP cP,(S.vS=.slice aS nS cS/\S.vF=.slice aF nF cF/\S.vL=.slice aL nL cL/\S.vP=.slice aP nP cP)/\V.cell? (Ad mb 0)=some (.slice aS nS cS)/\V.cell? (Ad mb 1)=some (.slice aF nF cF)/\V.cell? (Ad mb 2)=some (.slice aL nL cL)/\V.cell? (Ad mb 3)=some (.slice aP nP cP)/\V.cell? (Ad mb 4)=some (I K.hand):=by
 obtain⟨aS,nS,cS,eS⟩:∃b n d,S.vS=.slice b n d:=by obtain⟨b,d,e,_⟩:=aY h.aD;exact⟨b,_,d,e⟩
 obtain⟨aF,nF,cF,eF⟩:∃b n d,S.vF=.slice b n d:=by obtain⟨b,d,e,_⟩:=aY h.frames;exact⟨b,_,d,e⟩
 obtain⟨aL,nL,cL,eL⟩:∃b n d,S.vL=.slice b n d:=by obtain⟨b,d,e,_⟩:=aY h.slots;exact⟨b,_,d,e⟩
 obtain⟨aP,nP,cP,eP⟩:∃b n d,S.vP=.slice b n d:=by obtain⟨b,d,e,_⟩:=aY h.aj;exact⟨b,_,d,e⟩
 exact⟨aS,nS,cS,aF,nF,cF,aL,nL,cL,aP,nP,cP,⟨eS,eF,eL,eP⟩,by rw[<- eS];exact h.c0,by rw[<- eF];exact h.c1,by rw[<- eL];exact h.c2,by rw[<- eP];exact h.c3,h.c4⟩
theorem LQ (k:aN) (a:fR) (j:Nat) (ad n way:Int) (w:World) (hK:gD w a k) (hF:iI k) (hR:bc k) (hj:j<k.aj.length) (hn:1<=n/\n<=8) (hf:(eV (ak k.aj j).bk ad n way).1=0) :
  Calls Tryz.prog 21 #[.agg (bg a k),I (j:Int),I ad,I n,I way] w (oW w (aW k j ad n way).2):=by
 obtain⟨Vw,hal,hau,hmap⟩:=nQ hn.1 hn.2 hf;have rZ:dx k j (ad/16):=by
  have:=hmap 0 (by omega) (by omega);rw[CU] at this;exact this
 have hm2:dx k j (cD ad n):=by
  have:=hmap (n-1) (by omega) (by omega);unfold cD;rw[show ad+n-1=ad+(n-1) by omega];exact this
 have A1:=(mj hR hj rZ way (held:=[]) (by simp)).1;have hsm:=sF hR hF;obtain⟨WA,jG⟩:=ex ((w.alloc (.cells (bg a k) 27)).alloc (.cells #[Nl,Nl,Nl,Nl,I 0] 27));have hb0:Below w.heap.size w WA:=by rw[jG];exact((aK _ _).alloc (aI _) _).alloc (by simp) _
 have kb:WA.heap[w.heap.size]?=some (.cells (bg a k) 27 (0,0)):=by rw[jG];exact bM (bO w _ _) _
 have rb:WA.heap[w.heap.size+1]?=some (.cells #[Nl,Nl,Nl,Nl,I 0] 27 (0,0)):=by
  have:=bO (w.alloc (.cells (bg a k) 27)) #[Nl,Nl,Nl,Nl,I 0] 27;rw[ig] at this;rw[jG];exact this
 have hrl:=aT rb;have RB:=ai rb;obtain⟨k0,k1,k2,k3,k4⟩:=fy kb;have HOW:=ai (aa1 (Ev k a WA (hK.below hb0) hsm) (aK WA.heap.size WA));obtain⟨K1,Eg⟩:=ex (eH k j ad way);have dz:Hid (∀V S' hs mb,cW k.aD hs->bu WA.heap.size mb 27 [] V S' (bN k hs)->Calls Tryz.prog 59 #[.pointer (some (Ad mb 0)),I (j:Int),I (ad/16),I way,Nl] V (cT WA.heap.size mb 27 [] V S' (I (K1.1:Int)) (bN K1.2 hs))):=fun V S' hs mb h1 h2=>by
  have:=Gt (bN k hs) S' V j (ad/16) way [] none 0 h2 (hR.Du h1) hj rZ (by simp) (QU V S');rw[xg hR (by simp) h1] at this;rw[Eg];exact this
 have hlast:∀V S' hs mb ah,cW k.aD hs->bu WA.heap.size mb 27 [] V S' (bN K1.2 hs)->jD V S' ah [(K1.1:Int)]->Calls Tryz.prog 59 #[.pointer (some (Ad mb 0)),I (j:Int),I (cD ad n),I way,.slice ah 1 1] V fun e w'=>∃r S2,e=.returned (I r)/\bu WA.heap.size mb 27 [] w' S2 (bN (ir k j ad n way).2 hs)/\bU S' V S2 w':=fun V S' hs mb ah h1 h2 h3=>by
  have hs1:cW K1.2.aD hs:=by rw[Eg];show cW (cQ k j (ad/16) way []).2.aD hs;rw[A1.kept.aD];exact h1
  have Bd:bc K1.2:=by rw[Eg];exact A1.right
  have MV:j<K1.2.aj.length:=by rw[Eg];show j<(cQ k j (ad/16) way []).2.aj.length;rw[A1.kept.np];exact hj
  have hm3:dx K1.2 j (cD ad n):=by rw[Eg];exact A1.kept.mapped hj hm2
  have:=Gt (bN K1.2 hs) S' V j (cD ad n) way [(K1.1:Int)] ah 1 h2 (Bd.Du hs1) MV hm3 (by simp) h3;rw[xg Bd (by simp) hs1] at this;refine this.mono fun e w' ⟨g1,S2,g2,g3⟩=>⟨_,S2,g1,?_,g3⟩
  unfold ir;rw[<- Eg];exact g2
 have gj:=ai hlast;have qK:Hid (∀V U S' hs mb,cW k.aD hs->bu WA.heap.size mb 27 [] V S' (bN (aW k j ad n way).2 hs)->Below WA.heap.size WA V->aM (fun b=>b=w.heap.size+1) V U->oW w (aW k j ad n way).2 (.returned (.agg #[S'.vS,S'.vF,S'.vL,S'.vP,I (aW k j ad n way).2.hand])) U):=fun V U S' hs mb h1 h2 h3 h4=>by
  have hk:=(nz hR hj ad n way rZ hm2).kept;exact T4 h2 (by rw[hk.aD];exact h1) hb0.size (hb0.trans (h3.mono hb0.size)) h4 hrl (by omega)
 have HR1:Hid (cD ad n=ad/16->(aW k j ad n way).2=K1.2):=fun e=>by rw[Eg];unfold aW;rw[aR e]
 have Hh:Hid (¬cD ad n=ad/16->(aW k j ad n way).2=(ir k j ad n way).2):=fun e=>by unfold aW;rw[bf e]
 obtain⟨KF,hKF⟩:=ex ((aW k j ad n way).2);rw[<- hKF] at qK HR1 Hh ⊢;obtain⟨KB,hKB⟩:=ex ((ir k j ad n way).2);rw[<- hKB] at gj Hh;have ha0:0<=ad:=by omega
 have hw1:IntKind.i64.wrap (ad+n)=ad+n:=m8 _ (by omega);have hw2:IntKind.i64.wrap (ad+n-1)=ad+n-1:=m8 _ (by omega);have hq1:ad.tdiv 16=ad/16:=C3 ha0;have hq2:(ad+n-1).tdiv 16=cD ad n:=C3 (by omega);obtain⟨P1,hP1⟩:∃q,q=ad/16:=⟨_,rfl⟩;obtain⟨P2,Sz⟩:∃q,q=cD ad n:=⟨_,rfl⟩;rw[<- hP1] at hq1 dz HR1 Hh;rw[<- Sz] at hq2 gj HR1 Hh;have hpb:-9223372036854775808<=P1/\P1<=9223372036854775807:=by omega
 have arU:-9223372036854775808<=P2/\P2<=9223372036854775807:=by unfold cD at Sz;omega
 obtain⟨P,hP⟩:=ex (oW w KF);rw[<- hP] at qK ⊢;have lI:=ai jG;unfold bg at lI HOW ⊢;obtain⟨i1,K1⟩:=K1;simp only at dz gj HR1;clear hK hF hR hj hf Vw hal hau hmap rZ hm2 A1 hsm jG hb0 kb rb Eg hlast hKF hKB hP1 Sz hP ha0;go_enter Tryz.func21,Tryz.ntmps21;go_upto_region 1 with fail;rw[<- lI.o];go_upto_region 3 with(go_at_call 16;refine HOW.o.mono ?_;rintro e w4 ⟨hs,S,aS,nS,cS,aF,nF,cF,aL,nL,cL,aP,nP,cP,rfl,hs2,hk2,hb2⟩;have lR:=ai hs2;have qa:=ai hk2;have pZ:=ai hb2;clear hs2 hk2 hb2)
 obtain⟨W4,hW4⟩:=ex (w4.alloc (.cells #[.slice aS nS cS,.slice aF nF cF,.slice aL nL cL,.slice aP nP cP,I k.hand] 27));obtain⟨mb,hmb⟩:=ex w4.heap.size;rw[<- hW4] at qa pZ ⊢;rw[<- hmb] at qa ⊢;clear hW4 hmb k0 k1 k2 k3 k4;have Xw:=ai (dz.o W4 S hs mb lR.o qa.o);have Iq:Hid (∀V S',bu WA.heap.size mb 27 [] V S' (bN KF hs)->bU S W4 S' V->(∃aS nS cS aF nF cF aL nL cL aP nP cP,V.cell? (Ad mb 0)=some (.slice aS nS cS)/\V.cell? (Ad mb 1)=some (.slice aF nF cF)/\V.cell? (Ad mb 2)=some (.slice aL nL cL)/\V.cell? (Ad mb 3)=some (.slice aP nP cP)/\V.cell? (Ad mb 4)=some (I KF.hand)/\V.heap[w.heap.size+1]?=some (.cells #[Nl,Nl,Nl,Nl,I 0] 27 (0,0))/\∀U,aM (fun b=>b=w.heap.size+1) V U->P (.returned (.agg #[.slice aS nS cS,.slice aF nF cF,.slice aL nL cL,.slice aP nP cP,I KF.hand])) U)):=fun V S' h1 h2=>by
  obtain⟨aS,nS,cS,aF,nF,cF,aL,nL,cL,aP,nP,cP,⟨e1,e2,e3,e4⟩,c0,c1,c2,c3,c4⟩:=aa4 h1;have hbV:Below WA.heap.size WA V:=aM.below pZ.o h2.kp pZ.o.size (fun b hb=>(qa.o.rV b hb).1);refine⟨aS,nS,cS,aF,nF,cF,aL,nL,cL,aP,nP,cP,c0,c1,c2,c3,c4,aQ RB.o hbV hrl,fun U hU=>?_⟩;have:=qK.o V U S' hs mb lR.o h1 hbV hU;rw[e1,e2,e3,e4] at this;exact this
 by_cases c:P2=P1
 · have pb:(P2==P1)=true:=by simpa using c
   have HE:=ai (HR1.o c);clear c;go_upto_region 6 with(go_at_call 59;refine Xw.o.mono ?_;rintro e w5 ⟨rfl,S5,P9,Yf⟩;have M5:=ai P9;have HC5:=ai Yf;clear P9 Yf)
   obtain⟨aS,nS,cS,aF,nF,cF,aL,nL,cL,aP,nP,cP,c0,c1,c2,c3,c4,r0,hfin⟩:=Iq.o w5 S5 (by rw[HE.o];exact M5.o) HC5.o;have KM:=ai hfin;have R1:=ai r0;obtain⟨y0,y1,y2,y3,y4⟩:=fy r0;have f0:=aO r0 0;have f1:=aO r0 1;have f2:=aO r0 2;have f3:=aO r0 3;have f4:=aO r0 4;have h5:=ai (fun V=>kR R1.o (.slice aS nS cS) (.slice aF nF cF) (.slice aL nL cL) (.slice aP nP cP) (I KF.hand) (V:=V));clear hfin r0;go_wp2;obtain⟨r1,r2⟩:=h5.out _ rfl;obtain⟨z0,z1,z2,z3,z4⟩:=fy r1;refine cm (v:=.agg #[.slice aS nS cS,.slice aF nF cF,.slice aL nL cL,.slice aP nP cP,I KF.hand]) (by simp[results,Tryz.results21,go_sem,z0,z1,z2,z3,z4]) rfl ?_;exact KM.o _ r2
 · have pb:(P2==P1)=false:=by simpa using c
   have HE:=ai (Hh.o c);clear c;go_upto_region 5 with(go_at_call 59;refine Xw.o.mono ?_;rintro e w5 ⟨rfl,S5,P9,Yf⟩;have M5:=ai P9;have HC5:=ai Yf;clear P9 Yf)
   have fV:Hid (Below w5.heap.size w5 (w5.alloc (.cells #[I (i1:Int)] 3))):=(aK _ _).alloc (aI _) _;have tD:=ai (gj.o _ S5 hs mb _ lR.o (M5.o.below fV.o) (T6 w5 (M5.o.toKr.new (aI _)) i1));have HCB:=ai (HC5.o.trans (bU.below fV.o));go_upto_region 6 with(go_at_call 59;refine tD.o.mono ?_;rintro e w6 ⟨r,S6,rfl,Yd,Ta⟩;have ZB:=ai Yd;have HC6:=ai (HCB.o.trans Ta);clear Yd Ta)
   obtain⟨aS,nS,cS,aF,nF,cF,aL,nL,cL,aP,nP,cP,c0,c1,c2,c3,c4,r0,hfin⟩:=Iq.o w6 S6 (by rw[HE.o];exact ZB.o) HC6.o;have KM:=ai hfin;have R1:=ai r0;obtain⟨y0,y1,y2,y3,y4⟩:=fy r0;have f0:=aO r0 0;have f1:=aO r0 1;have f2:=aO r0 2;have f3:=aO r0 3;have f4:=aO r0 4;have h5:=ai (fun V=>kR R1.o (.slice aS nS cS) (.slice aF nF cF) (.slice aL nL cL) (.slice aP nP cP) (I KF.hand) (V:=V));clear hfin r0;go_wp2;obtain⟨r1,r2⟩:=h5.out _ rfl;obtain⟨z0,z1,z2,z3,z4⟩:=fy r1;refine cm (v:=.agg #[.slice aS nS cS,.slice aF nF cF,.slice aL nL cL,.slice aP nP cP,I KF.hand]) (by simp[results,Tryz.results21,go_sem,z0,z1,z2,z3,z4]) rfl ?_;exact KM.o _ r2
open Go.RowKit
open Go.RowKit
open Go.RowKit
theorem Il {w w':World} {K:aN} {e:Ending} (h:oW w K e w'):∃s1 n1 q1 s2 n2 q2 s3 n3 q3 s4 n4 q4 hd,e=.returned (.agg #[.slice s1 n1 q1,.slice s2 n2 q2,.slice s3 n3 q3,.slice s4 n4 q4,I hd])/\og w.heap.size K #[.slice s1 n1 q1,.slice s2 n2 q2,.slice s3 n3 q3,.slice s4 n4 q4,I hd] w'/\Below w.heap.size w w':=by
 obtain⟨c,h1,h2,h3⟩:=Un h;obtain⟨s1,n1,q1,s2,n2,q2,s3,n3,q3,s4,n4,q4,hd,rfl⟩:=h2.cells;exact⟨s1,n1,q1,s2,n2,q2,s3,n3,q3,s4,n4,q4,hd,h1,h2,h3⟩
open Go.RowKit
open Go.RowKit
theorem Us (k:aN) (sp n way:Int):eB k sp n way [0,2]=if eB k sp n way [0,1,2]=0/\way=1 then 10 else eB k sp n way [0,1,2]:=by
 unfold eB;by_cases c:dV k sp=0
 · by_cases z:1<=n/\n<=8
   · have e:∀l:List Int,(if dV k sp≠0 then dV k sp else if ¬(1<=n/\n<=8) then 3 else if way∈l then (0:Int) else 10)=if way∈l then 0 else 10:=fun l=>by rw[bf (fun x=>x c),bf (fun x=>x z)]
     rw[e,e];by_cases w1:way=1
     · subst w1;simp
     · by_cases w0:way=0
       · subst w0;simp
       · by_cases w2:way=2
         · subst w2;simp
         · simp[w0,w1,w2]
   · have e:∀l:List Int,(if dV k sp≠0 then dV k sp else if ¬(1<=n/\n<=8) then 3 else if way∈l then (0:Int) else 10)=3:=fun l=>by rw[bf (fun x=>x c),aR z]
     rw[e,e];simp
 · have e:∀l:List Int,(if dV k sp≠0 then dV k sp else if ¬(1<=n/\n<=8) then 3 else if way∈l then (0:Int) else 10)=dV k sp:=fun l=>by rw[aR c]
   rw[e,e,bf (fun x=>c x.1)]
structure abb (k:aN) (sp ad n way:Int) (KA:aN) (x1 x2 er:Int) (KB:aN) (s:ByteArray) (y1 y2 fr:Int):Prop where
 err:eB k sp n way [0,1,2]=er
 ver:fr=if er=0/\way=1 then 10 else er
 bad:er≠0->KA=dK/\x1=0/\x2=0
 good:er=0->∃j:Nat,sp=(j:Int)/\j<k.aj.length/\bc k/\(1<=n/\n<=8)/\eV (ak k.aj j).bk ad n way=(x1,x2)/\(x1≠0->KA=dK)/\(x1=0->KA=(aW k j ad n way).2)
 no:fr≠0->KB=dK/\y1=0/\y2=0/\s=⟨#[]⟩
 yes:fr=0->er=0/\y1=x1/\y2=x2/\KB=KA/\(x1≠0->s=⟨#[]⟩)/\(x1=0->s=qR k sp.toNat ad n way)
theorem acY (k:aN) (sp ad n way:Int):abb k sp ad n way (gz k sp ad n way).1 (gz k sp ad n way).2.1.1 (gz k sp ad n way).2.1.2 (gz k sp ad n way).2.2 (gH k sp ad n way).1 (gH k sp ad n way).2.1 (gH k sp ad n way).2.2.1.1 (gH k sp ad n way).2.2.1.2 (gH k sp ad n way).2.2.2:=by
 have hw:=Us k sp n way;obtain⟨fr,Nb⟩:=ex (eB k sp n way [0,2]);by_cases c:eB k sp n way [0,1,2]=0
 · have hw0:fr=if (0:Int)=0/\way=1 then 10 else 0:=by rw[Nb,hw,c]
   obtain⟨hl,hz,_⟩:=vH c;obtain⟨hR,hs0,hj,_⟩:=pA hl;have acg:sp=((sp.toNat:Nat):Int):=by omega
   by_cases g:(eV (ak k.aj sp.toNat).bk ad n way).1=0
   · have Vw:=(nQ hz.1 hz.2 g).1;have e:gz k sp ad n way=((aW k sp.toNat ad n way).2,(0,0),0):=by unfold gz;rw[bf (fun x=>x c),bf (fun x=>x g)]
     by_cases c2:fr=0
     · have e2:gH k sp ad n way=((aW k sp.toNat ad n way).2,qR k sp.toNat ad n way,(0,0),0):=by unfold gH;rw[<- Nb,bf (fun x=>x c2),bf (fun x=>x g)]
       rw[e,e2];exact⟨c,c2.symm.trans hw0,fun x=>absurd rfl x,fun _=>⟨sp.toNat,acg,hj,hR,hz,Vw,fun x=>absurd rfl x,fun _=>rfl⟩,fun x=>absurd rfl x,fun _=>⟨rfl,rfl,rfl,rfl,fun x=>absurd rfl x,fun _=>rfl⟩⟩
     · have e2:gH k sp ad n way=(dK,⟨#[]⟩,(0,0),fr):=by unfold gH;rw[<- Nb,aR c2]
       rw[e,e2];exact⟨c,hw0,fun x=>absurd rfl x,fun _=>⟨sp.toNat,acg,hj,hR,hz,Vw,fun x=>absurd rfl x,fun _=>rfl⟩,fun _=>⟨rfl,rfl,rfl,rfl⟩,fun x=>absurd x c2⟩
   · have e:gz k sp ad n way=(dK,eV (ak k.aj sp.toNat).bk ad n way,0):=by unfold gz;rw[bf (fun x=>x c),aR g]
     by_cases c2:fr=0
     · have e2:gH k sp ad n way=(dK,⟨#[]⟩,eV (ak k.aj sp.toNat).bk ad n way,0):=by unfold gH;rw[<- Nb,bf (fun x=>x c2),aR g]
       rw[e,e2];exact⟨c,c2.symm.trans hw0,fun x=>absurd rfl x,fun _=>⟨sp.toNat,acg,hj,hR,hz,rfl,fun _=>rfl,fun x=>absurd x g⟩,fun x=>absurd rfl x,fun _=>⟨rfl,rfl,rfl,rfl,fun _=>rfl,fun x=>absurd x g⟩⟩
     · have e2:gH k sp ad n way=(dK,⟨#[]⟩,(0,0),fr):=by unfold gH;rw[<- Nb,aR c2]
       rw[e,e2];exact⟨c,hw0,fun x=>absurd rfl x,fun _=>⟨sp.toNat,acg,hj,hR,hz,rfl,fun _=>rfl,fun x=>absurd x g⟩,fun _=>⟨rfl,rfl,rfl,rfl⟩,fun x=>absurd x c2⟩
 · have e:gz k sp ad n way=(dK,(0,0),eB k sp n way [0,1,2]):=by unfold gz;rw[aR c]
   have c2:fr≠0:=by rw[Nb,hw,bf (fun x=>c x.1)];exact c
   have e2:gH k sp ad n way=(dK,⟨#[]⟩,(0,0),fr):=by unfold gH;rw[<- Nb,aR c2]
   rw[e,e2];exact⟨rfl,by rw[Nb];exact hw,fun _=>⟨rfl,rfl,rfl⟩,fun x=>absurd x c,fun _=>⟨rfl,rfl,rfl,rfl⟩,fun x=>absurd x c2⟩
theorem Rp {k:aN} {sp ad n way:Int} {KA:aN} {x1 x2 er:Int} {KB:aN} {s:ByteArray} {y1 y2 fr:Int} (h:abb k sp ad n way KA x1 x2 er KB s y1 y2 fr):(KA=dK∨bc KA)/\(KB=dK∨bc KB):=by
 have hA:KA=dK∨bc KA:=by
  by_cases c:er=0
  · obtain⟨j,g1,g2,g3,g4,g5,g6,g7⟩:=h.good c;by_cases e:x1=0
    · rw[g7 e];obtain⟨_,hal,hau,hmap⟩:=nQ g4.1 g4.2 (show(eV (ak k.aj j).bk ad n way).1=0 by rw[g5];exact e);have rZ:dx k j (ad/16):=by have:=hmap 0 (by omega) (by omega);rw[CU] at this;exact this
      have hm2:dx k j (cD ad n):=by have:=hmap (n-1) (by omega) (by omega);unfold cD;rw[show ad+n-1=ad+(n-1) by omega];exact this
      exact .inr (nz g3 g2 ad n way rZ hm2).right
    · exact .inl (g6 e)
  · exact .inl (h.bad c).1
 refine⟨hA,?_⟩;by_cases c:fr=0
 · rw[(h.yes c).2.2.2.1];exact hA
 · exact .inl (h.no c).1
end Go.Proofs.YtpgifpeohlllfaaGreat
