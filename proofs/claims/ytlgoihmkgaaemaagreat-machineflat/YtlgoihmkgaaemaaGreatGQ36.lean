import Derived.Test.YtlgoihmkgaaemaaGreatGQ35
set_option maxHeartbeats 20000000
set_option linter.unusedVariables false
set_option maxRecDepth 100000
set_option linter.unusedSimpArgs false
namespace Go.Proofs.YtlgoihmkgaaemaaGreat
open Go.RowKit Tryz
def mh (l:List aX) (hs:List bC) (en nf ns:Int):iT×Int:=if (px l hs en nf ns).2=0 then (⟨(px l hs en nf ns).1,[jK en],[]⟩,0) else (Ew,(px l hs en nf ns).2)
theorem ahZ {V:World} {g:Nat} {en:Int} {t:TypeId} (h:V.heap[g]?=some (.cells #[I 0,I 0,I 0,I 0,I 0,I 0,I 0,I 0,I en,I 1,I 0,I 0,I 0] t (0,0))):xK V (some (Ad g 0)) [jK en]:=λ_=>⟨g,0,rfl,aQ h,λi hi=>by
 obtain rfl:i=0:=by have:i<1:=hi;omega
 exact⟨aA h 0 rfl,aA h 1 rfl,aA h 2 rfl,aA h 3 rfl,aA h 4 rfl,aA h 5 rfl,aA h 6 rfl,aA h 7 rfl,aA h 8 rfl,aA h 9 rfl,aA h 10 rfl,aA h 11 rfl,aA h 12 rfl⟩⟩
theorem amZ {w:World} {b:Nat} {Ss a1 a2 a3 a4:Value} {t:TypeId} {p:Prop} (h:w.heap[b]?=some (.cells #[Ss,a1,a2,a3,a4] t (0,0))) (hp:p):w.cell? (Ad b 0)=some Ss/\w.cell? (Ad b 1)=some a1/\w.cell? (Ad b 2)=some a2/\w.cell? (Ad b 3)=some a3/\w.cell? (Ad b 4)=some a4/\p :=
 have⟨h0,h1,h2,h3,h4⟩:=o5 h;⟨h0,h1,h2,h3,h4,hp⟩
theorem ahX (l:List aX) (hs:List bC) (en nf ns:Int) (va:Value) (ao:Option Addr) (cap:Nat) (w:World) (ha:gD w va l) (hf:dQ l) (h:kq w ao hs) (Lp:uh hs) (hcap:hs.length<=cap) (he:cH en) :
  Calls prog 10 #[.agg #[va,.slice ao hs.length cap,I en],I nf,I ns] w (wB w (mh l hs en nf ns)):=by
 obtain⟨aa,ca,Ie,_⟩:=id ha;have B:Hid (∀V,Below w.heap.size w V->Calls prog 30 #[.agg #[va,.slice ao hs.length cap,I en],I nf,I ns] V λe w'=>∃s0 n0 q0 s1 n1 q1 s2 n2 q2 s3 n3 q3 hd,e=.returned (.tuple #[.agg #[.slice s0 n0 q0,.slice s1 n1 q1,.slice s2 n2 q2,.slice s3 n3 q3,I hd],I (px l hs en nf ns).2])/\Below V.heap.size V w'/\∃q a,cZ (px l hs en nf ns).1.aR q/\br a (aY (px l hs en nf ns).1 q)=#[.slice s0 n0 q0,.slice s1 n1 q1,.slice s2 n2 q2,.slice s3 n3 q3,I hd]/\∀U,aH (λb=>b<V.heap.size) w' U->ju U a (aY (px l hs en nf ns).1 q)):=λV hV=>by
  refine(ahx yN l hs en nf ns va ao cap V (ha.below hV) hf (h.below hV) Lp hcap he).mono ?_;intro e w' ho;obtain⟨q,a,g1,g2,g3,g4⟩:=ae0 ho;exact⟨_,_,_,_,_,_,_,_,_,_,_,_,_,g2,g4,q,a,g1,rfl,g3⟩
 have a8:Hid (∀V,Calls prog 31 #[I en] V λe w'=>e=.returned (.agg #[I 0,I 0,I 0,I 0,I 0,I 0,I 0,I 0,I en,I 1,I 0,I 0,I 0])/\Below V.heap.size V w'):=λV=>PX en V
 have y:Hid (mh l hs en nf ns=if (px l hs en nf ns).2=0 then (⟨(px l hs en nf ns).1,[jK en],[]⟩,0) else (Ew,(px l hs en nf ns).2)):=rfl;generalize px l hs en nf ns=N at B y;generalize mh l hs en nf ns=R at y ⊢;generalize hP:wB w R=P;have HP:Hid (∀e w',wB w R e w'->P e w'):=λe w' h=>by rw[<- hP];exact h
 generalize N.2=er at B y;generalize hs.length=nh at B hcap ⊢;subst Ie;generalize l.length=na at B ha ⊢;obtain⟨WA,x,z,pU,hx,hz,a9,ac,a2,ah,hV⟩:=Hp w #[.slice aa na ca,.slice ao nh cap,I en] #[Nl,Nl,Nl,Nl,I 0,Nl,Nl] 25 34;have jc:Hid (Below w.heap.size w WA):=by rw[hx];exact a2
 have HV:=ai hV;have Z:Hid (w.heap.size<=z):=by show _<=_;omega
 obtain⟨x0,x1,x2⟩:=zn (hV _ (aN _ _)).1;have z0:=B0 (hV _ (aN _ _)).2;clear ha hf h Lp he hP hcap a2 hV;go_enter func10,ntmps10;go_wp2_with fail;clear pU hx hz x0 x1 x2 z0;refine(B.o _ jc.o).mono ?_;rintro e w1 ⟨s0,n0,q0,s1,n1,q1,s2,n2,q2,s3,n3,q3,hd,rfl,a0,a4⟩;have cD:=ai a0;have Nc:=ai a4;clear a0 a4 B;have hX:=bH w1 #[.slice s0 n0 q0,.slice s1 n1 q1,.slice s2 n2 q2,.slice s3 n3 q3,I hd] 30;have F:=(aN w1.heap.size w1).alloc (aK _) (.cells #[.slice s0 n0 q0,.slice s1 n1 q1,.slice s2 n2 q2,.slice s3 n3 q3,I hd] 30);generalize hWX:w1.alloc (.cells #[.slice s0 n0 q0,.slice s1 n1 q1,.slice s2 n2 q2,.slice s3 n3 q3,I hd] 30)=WX at hX F;have EC:=ai (cD.o.trans (F.mono cD.o.size));obtain⟨z0,z1,z2,z3,z4,z5,z6⟩:=B0 (HV.o _ EC.o).2;have f0:=bG (HV.o _ EC.o).2;have O:=ai hX;have J:=ai F;clear F hX;by_cases c:er=0
 . subst c;have uP:Hid (R=(⟨N.1,[jK en],[]⟩,0)):=y;clear y;go_wp2_with fail;clear hWX z0 z1 z2 z3 z4 z5 z6 f0;have a3:Hid (¬w1.heap.size=z):=by have:=cD.o.size;show ¬_;omega
   generalize w1.heap.size=X at O a3 ⊢;have QP:=ai λV (hb:Below WX.heap.size WX V)=>And.intro (aU O.o hb (aQ O.o)) (HV.o V (EC.o.trans (hb.mono EC.o.size))).1
   have G:=ai λV hb=>amZ (QP.o V hb).1 (zn (QP.o V hb).2).2.2
   have QW:=ai λW (hW:Below WX.heap.size WX W) V (hV:aH (λb=>b=z) W V)=>amZ (hV.keep (QP.o W hW).1 a3.o) (zn (hV.keep (QP.o W hW).2 a9)).2.2
   have pK:=ai (G.o _ (aN WX.heap.size WX).drew);refine zT (S:=λV=>V.cell? (Ad X 0)=some (.slice s0 n0 q0)/\V.cell? (Ad X 1)=some (.slice s1 n1 q1)/\V.cell? (Ad X 2)=some (.slice s2 n2 q2)/\V.cell? (Ad X 3)=some (.slice s3 n3 q3)/\V.cell? (Ad X 4)=some (I hd)/\V.cell? (Ad x 2)=some (I en)) (z:=6) κ ?_;have M:=ai (aN WX.heap.size WX).drew;generalize WX.drew=V0 at pK M ⊢;refine rN 0 pK.o ?_;refine rN 1 pK.o ?_;refine rN 2 pK.o ?_;refine xR 3 (λK hK=>?_);go_simp
   go_at_call 31
   refine(a8.o V0).mono ?_;rintro e w7 ⟨rfl,Y⟩;have Y1:=ai (M.o.trans (Y.mono M.o.size));clear Y;go_simp;refine hK.out _ _ (λ_=>G.o _ Y1.o) ?_;clear hK K;refine xR 4 (λK hK=>?_);go_simp;refine hK.out _ _ (λ_=>G.o _ (Y1.o.alloc Y1.o.size _)) ?_;clear hK K;have A:=ai (Y1.o.alloc Y1.o.size (.cells #[I 0,I 0,I 0,I 0,I 0,I 0,I 0,I 0,I en,I 1,I 0,I 0,I 0] 77));have BP:=ai (bH w7 #[I 0,I 0,I 0,I 0,I 0,I 0,I 0,I 0,I en,I 1,I 0,I 0,I 0] 77);have L:Hid (WX.heap.size<=w7.heap.size):=Y1.o.size;generalize w7.alloc (.cells #[I 0,I 0,I 0,I 0,I 0,I 0,I 0,I 0,I en,I 1,I 0,I 0,I 0] 77)=V8 at A BP ⊢;generalize w7.heap.size=bP at BP L ⊢;refine rN 5 (G.o _ A.o) ?_;have Q:=(HV.o _ (EC.o.trans (A.o.mono EC.o.size))).2;obtain⟨z0,z1,z2,z3,z4,z5,z6⟩:=B0 Q;have f0:=bG Q;clear Q;refine xR 6 (λK hK=>?_);go_simp;refine hK.out _ _ (λg=>absurd rfl g) ?_;clear hK K;refine xR 7 (λK hK=>?_);go_simp;refine hK.out _ _ (λ_=>QW.o _ A.o _ (vt _ z _ _ _ _ _ _ _)) ?_;clear hK K;refine Ho κ ?_ _;go_wp2;refine b9 (v:=.tuple #[.agg #[.slice s0 n0 q0,.slice s1 n1 q1,.slice s2 n2 q2,.slice s3 n3 q3,I hd,.slice (some (Ad bP 0)) 1 1,Nl],I 0]) (by simp[results,results10,go_sem,z0,z1,z2,z3,z4,z5,z6]) rfl ?_;refine HP.o _ _ ?_;rw[uP.o];have T:=vt V8 z (.slice s0 n0 q0) (.slice s1 n1 q1) (.slice s2 n2 q2) (.slice s3 n3 q3) (I hd) (.slice (some (Ad bP 0)) 1 1) Nl;obtain⟨q,a1,g1,g2,g3⟩:=Nc.o;have af:¬bP=z:=by have:=L.o;have:=EC.o.size;omega
   have e7:ir (oC ⟨N.1,[jK en],[]⟩ q) a1 (some (Ad bP 0)) none 1 0=#[.slice s0 n0 q0,.slice s1 n1 q1,.slice s2 n2 q2,.slice s3 n3 q3,I hd,.slice (some (Ad bP 0)) 1 1,Nl]:=by
    have g2:=dC Array.toList g2;unfold br at g2;unfold ir oC;simp only[NI] at g2 ⊢;obtain⟨b0,b1,b2,b3,b4,_⟩:=g2;simp only[b0,b1,b2,b3,b4,tG,NJ]
   have a5:=Z.o;have ae:=jc.o.size;have ad:=cD.o.size;have aj:=J.o.size;have a7:Below w1.heap.size w1 V8:=J.o.trans (A.o.mono J.o.size);have ag:=EC.o.size;refine⟨q,a1,some (Ad bP 0),1,none,0,g1,by rw[e7],λV hV=>?_,aH.below ((jc.o.trans (EC.o.mono jc.o.size)).trans (A.o.mono ω)) T (by have:=A.o.size;omega) (λb e=>by rw[e];exact a5)⟩;have a6:aH (λb=>b<WX.heap.size) V8 V:=(T.mono (λb _ e=>ω)).trans (hV.mono (λb _ g=>ω)) (λ_ _ g=>g);have ab:aH (λb=>b<WA.heap.size) V8 V:=(T.mono (λb _ e=>ω)).trans (hV.mono (λb _ g=>ω)) (λ_ _ g=>g);exact⟨g3 V ((aH.bQ a7).trans ab (λ_ _ g=>g)),ahZ (a6.keep BP.o (by have:=L.o;omega)),λg=>absurd g (iW _)⟩
 have uP:=ai (y.o.trans (aB c));have cb:(er==0)=false:=by grind
 clear c y;go_wp2_with fail;refine b9 (v:=.tuple #[.agg #[Nl,Nl,Nl,Nl,I 0,Nl,Nl],I er]) (by simp[results,results10,go_sem,z0,z1,z2,z3,z4,z5,z6]) rfl ?_;refine HP.o _ _ ?_;rw[uP.o];exact QN er (aH.below (jc.o.trans (EC.o.mono jc.o.size)) (vt WX z _ _ _ _ _ _ _) (eJ jc.o.size EC.o.size) (λb e=>by rw[e];exact Z.o))
open Go.RowKit
def Cb:ByteArray:=⟨#[16,0,0,0,5,0,0,0,11,1,0,0,40,0,0,0]⟩
def Be:ByteArray:=⟨#[10,0,1,8,0,0,0,0,9,0,1,1,0,0,0,0]⟩
def Ca:ByteArray:=⟨#[16,0,0,0,1,0,0,0,16,0,0,0,6,0,0,0]⟩
def WJ:ByteArray:=⟨#[0,0,0,0,0,0,0,0,0,0,0,0,0,0,0,0]⟩
def sB:List aX:=[⟨1,4,3,false⟩]
def anv (a1 a2 a3 a4:Option Addr) (qQ qE qD oP:Nat):List bC:=[⟨1,Cb,[],a1,qQ⟩,⟨2,Be,[],a2,qE⟩,⟨3,Ca,[],a3,qD⟩,⟨4,WJ,[],a4,oP⟩]
def lT:List Int:=[0,1,0,1,0,1,0,1,0,1,0,1,0,1]
variable {σ:Type}
def acO (s:dB σ):Nat×Nat×Int×Int×Int×Int:=(s.ps.length,s.out.length,(qM s.out 0).value,(qM s.out 1).value,(aO s.ps 1).st,(aO s.ps 1).cd)
variable (a1 a2 a3 a4:Option Addr) (qQ qE qD oP:Nat)
def anw:dB aT:=⟨pj sB (anv a1 a2 a3 a4 qQ qE qD oP) 3 8,[jK 16],[]⟩
theorem acQ {Ok:σ->List Bool->Prop} {m:σ} {en:Int} (he:cH en) (h:Ok m [true]):ez Ok (⟨m,[jK en],[]⟩:dB σ):=by
 refine⟨h,λk hk=>?_,λk hk=>?_,λx hx=>(by cases hx),yt _⟩
 . have:k=0:=by have hk:k<1:=hk;omega
   subst this;exact⟨λj hj=>⟨by show -9223372036854775808<=(0:Int);omega,by show(0:Int)<=9223372036854775807;omega⟩,he⟩
 have:k=0:=by have hk:k<1:=hk;omega
 subst this;rfl
def mG (N:Nat) (m:iT) (c:Array Value) (w:World):Prop:=∃hs a ar cr ao co,cZ m.iF.aR hs/\c=ir (oC m hs) a ar ao cr co/\∀U,aH (λb=>b<N) w U->xJ U a ar ao (oC m hs)
theorem mG.cells {N:Nat} {m:iT} {c:Array Value} {w:World} (h:mG N m c w):∃s0 n0 q0 s1 n1 q1 s2 n2 q2 s3 n3 q3 hd s5 q5 s6 q6,c=#[.slice s0 n0 q0,.slice s1 n1 q1,.slice s2 n2 q2,.slice s3 n3 q3,I hd,.slice s5 m.procs.length q5,.slice s6 m.out.length q6]:=by
 obtain⟨hs,a,ar,cr,ao,co,_,h2,_⟩:=h;exact⟨_,_,_,_,_,_,_,_,_,_,_,_,_,ar,cr,ao,co,h2⟩
theorem mG.later {N:Nat} {m:iT} {c:Array Value} {w U:World} (h:mG N m c w) (g:aH (λb=>b<N) w U):mG N m c U:=by
 obtain⟨hs,a,ar,cr,ao,co,h1,h2,h3⟩:=h;exact⟨hs,a,ar,cr,ao,co,h1,h2,λV hV=>h3 V (g.trans hV (λ_ _ x=>x))⟩
theorem mG.below {N:Nat} {m:iT} {c:Array Value} {w U:World} (h:mG N m c w) (g:Below w.heap.size w U):mG N m c U:=h.later (aH.bQ g)
theorem aal {w w':World} {r:iT×Int} {e:Ending} (h:wB w r e w'):∃c,e=.returned (.tuple #[.agg c,I r.2])/\mG w.heap.size r.1 c w'/\Below w.heap.size w w':=by
 obtain⟨hs,a,ar,cr,ao,co,h1,h2,h3,h4⟩:=h;exact⟨_,h2,⟨hs,a,ar,cr,ao,co,h1,rfl,h3⟩,h4⟩
theorem afx {w w':World} {r:iT×Int} {hs:List bC} {e:Ending} (s:cZ r.1.iF.aR hs) (h:wB w (oC r.1 hs,r.2) e w'):wB w r e w':=by
 obtain⟨b,a,ar,cr,ao,co,h1,h2,h3,h4⟩:=h;exact⟨b,a,ar,cr,ao,co,s.trans h1,h2,h3,h4⟩
theorem afz {m:iT} (h:ez fO (mQ m)):m.procs.length<=4:=by
 have:=jr.few _ _ h.mem;simpa [bY,mQ] using this
theorem ane {m:iT} (h:ez fO (mQ m)):Ps m:=⟨tT h.mem.right,by have:=afz h;unfold bD;omega,by have:m.out.length<=2000:=h.out;unfold bD;omega⟩
variable {N:Nat} {m:iT} {c:Array Value} {U:World}
def acA (w:World) (r:iT×Int) (e:Ending) (w':World):Prop:=∃c,e=.returned (.tuple #[.agg c,I r.2])/\mG w.heap.size r.1 c w'/\Below w.heap.size w w'
theorem Su (h:mG N m c U) (hg:ez fO (mQ m)) (picks:List Int) (ap:Option Addr) (cp:Nat) (hn:rI U ap picks) (hps:0<picks.length->∀b,ap=some b->b.block<U.heap.size) (hpl:picks.length<=140737488351232) :
  Calls prog 20 #[.agg c,.slice ap picks.length cp] U (acA U (sL m picks)):=by
 obtain⟨hs,a,ar,cr,ao,co,h1,rfl,h3⟩:=h;have g':ez fO (mQ (oC m hs)):=Sw hg h1;obtain⟨hs',s1,s2⟩:=afw hg h1 picks;refine(ahW (oC m hs) picks ap cp a ar ao cr co U (h3 U (aH.refl _ _)) (ane g') g'.fit hn hps hpl).mono λe w' ho=>?_
 rw[s2] at ho;exact aal (afx s1 ho)
theorem acw {v0 v1 v2 v3 v4 v5 v6:Value} (h:mG N m #[v0,v1,v2,v3,v4,v5,v6] U) (hg:ez fO (mQ m)) (i:Nat) (hi:i<=4) (p:Int) :
  Calls prog 29 #[.agg #[v0,v1,v2,v3,v4],I i,I p] U λe w'=>e=.returned (.tuple #[.string (vA (dD m.iF) i p).1,I (vA (dD m.iF) i p).2])/\Below U.heap.size U w':=by
 obtain⟨hs,a,ar,cr,ao,co,h1,h2,h3⟩:=h;have e:#[v0,v1,v2,v3,v4]=br a (aY m.iF hs):=by
  unfold ir at h2;simp only[aaC,NI,and_true] at h2;obtain⟨rfl,rfl,rfl,rfl,rfl,_,_⟩:=h2;rfl
 have hr:aW m.iF:=hg.mem.right;have q:=aeH (aY m.iF hs) a (i:Int) p U (h3 U (aH.refl _ _)).iF (tT (hr.CZ h1)) ⟨ω,ω⟩;rw[Wk hr h1,acG hr] at q;rw[e];exact q
theorem Sv (l:List aX) (hs:List bC) (en nf ns:Int) (va:Value) (ao:Option Addr) (cap:Nat) (w:World) (ha:gD w va l) (hf:dQ l) (h:kq w ao hs) (Lp:uh hs) (hcap:hs.length<=cap) (he:cH en) :
  Calls prog 10 #[.agg #[va,.slice ao hs.length cap,I en],I nf,I ns] w (acA w (mh l hs en nf ns)) :=
 (ahX l hs en nf ns va ao cap w ha hf h Lp hcap he).mono λe w' ho=>aal ho
theorem Py (l:List aX) (hs:List bC) (en nf ns:Int) (he:cH en):((mh l hs en nf ns).2≠0)\/(gU l hs en=0/\3<=nf/\nf<=64/\0<=ns/\ns<=512/\bf l<=ns/\mh l hs en nf ns=(⟨pj l hs nf ns,[jK en],[]⟩,0)/\ez fO (mQ ⟨pj l hs nf ns,[jK en],[]⟩)):=by
 by_cases c:(px l hs en nf ns).2=0
 . right;have hk:gU l hs en=0/\3<=nf/\nf<=64/\0<=ns/\ns<=512/\bf l<=ns/\px l hs en nf ns=(pj l hs nf ns,0):=by
    unfold px at c ⊢;by_cases c1:gU l hs en=0
    . rw[aB (λx=>x c1)] at c ⊢;by_cases c3:nf<3
      . rw[aC c3] at c;cases c
      rw[aB c3] at c ⊢;by_cases cr:nf>64\/ns<0\/ns>512
      . rw[aC cr] at c;cases c
      rw[aB cr] at c ⊢;by_cases ct:bf l>ns
      . rw[aC ct] at c;cases c
      rw[aB ct] at c ⊢;exact⟨c1,ω,ω,ω,ω,ω,rfl⟩
    rw[aC c1] at c;exact absurd c c1
   obtain⟨g1,g2,g3,g4,g5,g6,g7⟩:=hk;have e:mh l hs en nf ns=(⟨pj l hs nf ns,[jK en],[]⟩,0):=by unfold mh;rw[g7];rfl
   exact⟨g1,g2,g3,g4,g5,g6,e,acQ he ⟨YY (afG g1) g2 g3 g4 g5 g6,rfl⟩⟩
 left;unfold mh;rw[aB c];exact c
def dg (p:dK):List Value:=[I p.page,.string p.data]
structure oV where
 lv:Bool
 va:Value
 vp:Value
def j6 (l:oV):List Value:=[.bool l.lv,l.va,l.vp]
def Ht:oV:=⟨false,Nl,Nl⟩
def cM (l:List oV) (k:Nat):oV:=l.getD k Ht
def dh (v:Value) (b:Nat):Prop:=v.ownBlock=some b
structure rR (lo:Nat) (w:World) (l:oV) (s:ek):Prop where
 live:l.lv=s.live
 aJ:eB lo w l.va s.aJ
 aD:w.ownsRow lo 148 2 l.vp s.aD.length (s.aD.flatMap dg)
theorem rR.kp {lo:Nat} {w w':World} {D:Nat->Prop} {l:oV} {s:ek} (h:rR lo w l s) (hk:aH D w w') (ha:∀b,dh l.va b->¬D b) (hp:∀b,dh l.vp b->¬D b):rR lo w' l s:=⟨h.live,hk.row h.aJ ha,hk.row h.aD hp⟩
theorem rR.mono {lo lo':Nat} {w:World} {l:oV} {s:ek} (h:rR lo w l s) (hl:lo'<=lo):rR lo' w l s:=⟨h.live,h.aJ.mono hl,m9 h.aD (λg hg=>eJ hl (h.aD.lt g hg).1)⟩
theorem Ze {w:World} {ap:Option Addr} {l:List dK} (h:rU w ap l):qK w ap l.length (l.flatMap dg):=λhm=>by
 obtain⟨b,off,rfl,hb,hl⟩:=h hm;exact yO (w:=w) dg 2 (λ_=>rfl) zk l b off (λi hi j hj=>by
   obtain⟨c0,c1⟩:=hl i hi
   match j,hj with
   | 0,_=>exact c0
   | 1,_=>exact c1) hm
theorem adg:∀(l:List dK),∀u∈l.flatMap dg,u.oneCell'=true:=λl u hu=>by
 obtain⟨y,_,hy⟩:=vO.1 hu;simp[dg] at hy;rcases hy with rfl | rfl <;> rfl
def W4 (w:World) (s:ek) (e:Ending) (w':World):Prop:=∃va vp,e=.returned (.agg #[.bool s.live,va,vp])/\rR w.heap.size w' ⟨s.live,va,vp⟩ s/\(∀b,dh vp b->¬dh va b)/\Below w.heap.size w w'
theorem Mq (s:ek) (aa ap:Option Addr) (na ca cp:Nat) (w:World) (ha:gD w (.slice aa na ca) s.aJ) (hp:rU w ap s.aD) (CS:s.aJ.length<=1000000) (C0:s.aD.length<=1000000) :
  Calls prog 182 #[.agg #[.bool s.live,.slice aa na ca,.slice ap s.aD.length cp]] w (W4 w s) :=
 (R8 (.inr ⟨rfl,rfl,rfl⟩) s.live s.aJ _ aa ap na ca _ cp w ha (Ze hp) CS λV h=>aiv ap _ cp _ V (fp dg 2 (λ_=>rfl) _) h (adg _) C0).mono λe w' ⟨va,vp,e,h1,h2,h3⟩=>⟨va,vp,e,⟨rfl,h1,h2⟩,h3⟩
structure iE (lo mb:Nat) (w:World) (D:Nat->Prop) (sl:Int) (v:Value) (L:List oV) (ss:List ek):Prop where
 len:L.length=ss.length
 head:w.heap[mb]?=some (.cells #[I sl,v] 232 (0,0))
 row:w.ownsRow lo 142 3 v L.length (L.flatMap j6)
 each:∀k,k<L.length->rR lo w (cM L k) (aI ss k)
 base:lo<=mb
 n1:¬dh v mb
 n2:∀k,k<L.length->¬dh (cM L k).va mb/\¬dh (cM L k).vp mb
 n3:∀k,k<L.length->∀b,dh v b->¬dh (cM L k).va b/\¬dh (cM L k).vp b
 n4:∀j k,j<L.length->k<L.length->∀b,dh (cM L j).vp b->¬dh (cM L k).va b/\(j≠k->¬dh (cM L k).vp b)
 d1:D mb
 d2:∀b,dh v b->D b
 d3:∀k,k<L.length->∀b,dh (cM L k).va b\/dh (cM L k).vp b->D b
theorem iE.kp {lo mb:Nat} {w w':World} {D E:Nat->Prop} {sl:Int} {v:Value} {L:List oV} {ss:List ek} (h:iE lo mb w D sl v L ss) (hk:aH E w w') (hd:∀b,D b->¬E b):iE lo mb w' D sl v L ss :=
 ⟨h.len,hk.keep h.head (hd _ h.d1),hk.row h.row (λg hg=>hd _ (h.d2 g hg)),λk hl=>(h.each k hl).kp hk (λb hb=>hd _ (h.d3 k hl b (.inl hb))) (λb hb=>hd _ (h.d3 k hl b (.inr hb))),h.base,h.n1,h.n2,h.n3,h.n4,h.d1,h.d2,h.d3⟩
theorem iE.below {lo mb:Nat} {w w':World} {D:Nat->Prop} {sl:Int} {v:Value} {L:List oV} {ss:List ek} (h:iE lo mb w D sl v L ss) (hb:Below w.heap.size w w'):iE lo mb w' D sl v L ss:=h.kp (aH.bQ (D:=λ_=>False) hb) (λ_ _ g=>g)
theorem iE.lt {lo mb:Nat} {w:World} {D:Nat->Prop} {sl:Int} {v:Value} {L:List oV} {ss:List ek} (h:iE lo mb w D sl v L ss) (k:Nat) (hk:k<L.length) (b:Nat) (hb:dh (cM L k).va b\/dh (cM L k).vp b):lo<=b/\b<w.heap.size:=by
 rcases hb with g | g
 . exact(h.each k hk).aJ.lt b g
 exact(h.each k hk).aD.lt b g
theorem PT (L:List oV) (l:oV) (k:Nat):cM (L++[l]) k=if k<L.length then cM L k else if k=L.length then l else Ht:=by
 unfold cM;rw[cB,cB];by_cases h:k<L.length
 . rw[aC h,Eb h]
 rw[aB h,yx ω];by_cases h2:k=L.length
 . rw[aC h2,h2,D4];rfl
 rw[aB h2];obtain⟨d,hd⟩:∃d,k-L.length=d+1:=⟨k-L.length-1,ω⟩;rw[hd];rfl
theorem PO (L:List ek) (l:ek) (k:Nat):aI (L++[l]) k=if k<L.length then aI L k else if k=L.length then l else Kh:=by
 unfold aI;rw[cB,cB];by_cases h:k<L.length
 . rw[aC h,Eb h]
 rw[aB h,yx ω];by_cases h2:k=L.length
 . rw[aC h2,h2,D4];rfl
 rw[aB h2];obtain⟨d,hd⟩:∃d,k-L.length=d+1:=⟨k-L.length-1,ω⟩;rw[hd];rfl
theorem iE.snoc {lo mb:Nat} {w w2:World} {D D':Nat->Prop} {sl:Int} {v v':Value} {L:List oV} {ss:List ek} {l:oV} {s:ek} (h:iE lo mb w D sl v L ss) (hk:aH (dh v) w w2)
  (hrow:w2.ownsRow lo 142 3 v' (L.length+1) ((L++[l]).flatMap j6)) (hat:∀b,dh v' b->dh v b\/w.heap.size<=b) (hs:rR lo w2 l s) (hl:∀b,dh l.va b\/dh l.vp b->w.heap.size<=b)
  (ha:∀b,dh l.vp b->¬dh l.va b) (hv:∀b,dh v' b->¬dh l.va b/\¬dh l.vp b) (hd:∀b,D b->D' b) (hd2:∀b,w.heap.size<=b->b<w2.heap.size->D' b) :
  iE lo mb (w2.setCell (Ad mb 1) v') D' sl v' (L++[l]) (ss++[s]):=by
 have M:=aQ h.head;have G:(L++[l]).length=L.length+1:=by simp
 have uQ:aH (λb=>b=mb) w2 (w2.setCell (Ad mb 1) v'):=aH.set _ _ _ _ rfl;have B:¬dh v' mb:=λg=>by
  rcases hat _ g with g | g
  . exact h.n1 g
  omega
 have A:¬dh l.va mb/\¬dh l.vp mb:=⟨λg=>by have:=hl _ (.inl g);omega,λg=>by have:=hl _ (.inr g);omega⟩;have F:∀k,k<L.length->rR lo w2 (cM L k) (aI ss k):=λk q=>(h.each k q).kp hk (λb hb g=>(h.n3 k q b g).1 hb) (λb hb g=>(h.n3 k q b g).2 hb)
 have y:∀k,k<(L++[l]).length->k<L.length\/k=L.length:=λk q=>by omega
 have old:∀k,k<L.length->cM (L++[l]) k=cM L k:=λk q=>by rw[PT,aC q]
 have new:cM (L++[l]) L.length=l:=by rw[PT,aB ω,aC rfl]
 have J:∀k,k<L.length->aI (ss++[s]) k=aI ss k:=λk q=>by rw[PO,aC (by rw[<- h.len];exact q)]
 have K:aI (ss++[s]) L.length=s:=by rw[PO,aB (by rw[h.len];omega),aC h.len]
 refine⟨by simp[h.len],?_,?_,?_,h.base,B,?_,?_,?_,hd _ h.d1,?_,?_⟩
 . exact gH (hk.keep h.head h.n1) 1 v'
 . rw[G];exact uQ.row hrow (λg hg e=>B (e ▸ hg))
 . intro k q;rcases y k q with g | g
   . rw[old k g,J k g];exact(F k g).kp uQ (λb hb e=>(h.n2 k g).1 (e ▸ hb)) (λb hb e=>(h.n2 k g).2 (e ▸ hb))
   subst g;rw[new,K];exact hs.kp uQ (λb hb e=>A.1 (e ▸ hb)) (λb hb e=>A.2 (e ▸ hb))
 . intro k q;rcases y k q with g | g
   . rw[old k g];exact h.n2 k g
   subst g;rw[new];exact A
 . intro k q b hb;rcases y k q with g | g
   . rw[old k g];rcases hat b hb with e | e
     . exact h.n3 k g b e
     exact⟨λx=>by have:=h.lt k g b (.inl x);omega,λx=>by have:=h.lt k g b (.inr x);omega⟩
   subst g;rw[new];exact hv b hb
 . intro j k hj q b hb;rcases y j hj with g | g
   . rw[old j g] at hb;rcases y k q with g2 | g2
     . rw[old k g2];exact h.n4 j k g g2 b hb
     subst g2;rw[new];have:=h.lt j g b (.inr hb);exact⟨λx=>by have:=hl b (.inl x);omega,λ_ x=>by have:=hl b (.inr x);omega⟩
   subst g;rw[new] at hb;rcases y k q with g2 | g2
   . rw[old k g2];have:=hl b (.inr hb);exact⟨λx=>by have:=h.lt k g2 b (.inl x);omega,λ_ x=>by have:=h.lt k g2 b (.inr x);omega⟩
   subst g2;rw[new];exact⟨ha b hb,λe=>(e rfl).elim⟩
 . intro b hb;rcases hat b hb with e | e
   . exact hd _ (h.d2 b e)
   exact hd2 b e (hrow.lt b hb).2
 intro k q b hb;rcases y k q with g | g
 . rw[old k g] at hb;exact hd _ (h.d3 k g b hb)
 subst g;rw[new] at hb;refine hd2 b (hl b hb) ?_;rcases hb with x | x
 . exact(hs.aJ.lt b x).2
 exact(hs.aD.lt b x).2
theorem iE.push {lo mb:Nat} {w w2 w4:World} {D D':Nat->Prop} {sl:Int} {v v':Value} {L:List oV} {ss:List ek} {l:oV} {s:ek} {O:Obj} (h:iE lo mb w D sl v L ss) (hlo:lo<=w.heap.size) (hb2:Below w.heap.size w w2)
  (hso:rR w.heap.size w2 l s) (hne:∀b,dh l.vp b->¬dh l.va b) (hgr:(w2.alloc O).grownBy w4 v.ownBlock) (hown:w4.ownsRow lo 142 3 v' (L.length+1) (L.flatMap j6++j6 l))
  (hat:v'.ownBlock=v.ownBlock\/v'.ownBlock=some (w2.alloc O).heap.size) (hd:∀b,D b->D' b) (hd2:∀b,w.heap.size<=b->b<w4.heap.size->D' b) :
  iE lo mb (w4.setCell (Ad mb 1) v') D' sl v' (L++[l]) (ss++[s])/\aH (λb=>b=mb\/dh v b) w (w4.setCell (Ad mb 1) v'):=by
 have s1:=hb2.size;have s2:=hgr.size;have hz:(w2.alloc O).heap.size=w2.heap.size+1:=fY _ _;rw[hz] at s2 hat
 have kA:aH (dh v) w w2:=aH.bQ hb2;have kB:aH (dh v) w2 (w2.alloc O):=aH.alloc _ w2 O;have kC:aH (dh v) (w2.alloc O) w4:=aH.grown hgr (λ_ e=>e);have kD:=kA.trans (kB.trans kC (λ_ _ g=>g)) (λ_ _ g=>g);have eA:∀b,dh l.va b\/dh l.vp b->w.heap.size<=b/\b<w2.heap.size:=λb hb=>by
  rcases hb with g | g
  . exact hso.aJ.lt b g
  exact hso.aD.lt b g
 have q:∀b,dh v b->b<w.heap.size:=λb hb=>(h.row.lt b hb).2
 have y:∀b,dh v' b->dh v b\/b=w2.heap.size+1:=λb hb=>by
  unfold dh at hb ⊢;rcases hat with e | e
  . exact .inl (by rw[<- e];exact hb)
  right;rw[e] at hb;injection hb with hb;exact hb.symm
 refine⟨h.snoc kD ?_ (λb hb=>?_) ?_ (λb hb=>(eA b hb).1) hne (λb hb=>?_) hd hd2,?_⟩
 . rw[tH];simpa using hown
 . rcases y b hb with g | g
   . exact .inl g
   exact .inr ω
 . refine(hso.mono hlo).kp (kB.trans kC (λ_ _ g=>g)) (λb hb g=>?_) (λb hb g=>?_)
   . have:=q b g;have:=eA b (.inl hb);omega
   have:=q b g;have:=eA b (.inr hb);omega
 . rcases y b hb with g | g
   . have:=q b g;exact⟨λx=>by have:=eA b (.inl x);omega,λx=>by have:=eA b (.inr x);omega⟩
   exact⟨λx=>by have:=eA b (.inl x);omega,λx=>by have:=eA b (.inr x);omega⟩
 exact(kD.mono (λb _ g=>.inr g)).trans (aH.set (λb=>b=mb\/dh v b) w4 (Ad mb 1) v' (.inl rfl)) (λ_ _ g=>g)
theorem Ay (l:oV):(j6 l).length=3:=rfl
theorem jz (l:dK):(dg l).length=2:=rfl
theorem iE.has {lo mb:Nat} {w:World} {D:Nat->Prop} {sl:Int} {v:Value} {L:List oV} {ss:List ek} (h:iE lo mb w D sl v L ss):∃ao cap,v=.slice ao ss.length cap/\CO w ao ss:=by
 obtain⟨ao,cap,rfl,Q,hg⟩:=aZ h.row;have A:=h.len;refine⟨ao,cap,by rw[A],λhl=>?_⟩;obtain⟨g,rfl,T,J⟩:=hg ω;refine⟨g,0,rfl,J,λk hk=>?_⟩;have B:k<L.length:=by omega
 have hs:=h.each k B;have hc:∀j,j<3->w.cell? (Ad g (k*3+j))=(j6 (cM L k))[j]?:=λj hj=>gw j6 Ay Ht h.row k j B hj
 obtain⟨ap,cp,y,M,G⟩:=aZ hs.aD;have O:=hc 0 ω;have N:=hc 1 ω;have K:=hc 2 ω;rw[nj];refine⟨(cM L k).va,ap,cp,?_,N,?_,hs.aJ.has,?_,M⟩
 . rw[<- hs.live];exact O
 . rw[<- y];exact K
 intro hp;obtain⟨q,rfl,R,F⟩:=G hp;refine⟨q,0,rfl,F,λi hi=>?_⟩;have hr:=hs.aD;rw[y] at hr;have b:∀j,j<2->w.cell? (Ad q (i*2+j))=(dg (bo (aI ss k).aD i))[j]?:=λj hj=>gw dg jz zk hr i j hi hj
 rw[nj];exact⟨b 0 ω,b 1 ω⟩
theorem aaA:(prog.info? 142).map (λi=>(i.zero,i.size,i.bytes))=some (some (.agg #[.bool false,Nl,Nl]),3,56):=by kernel_rfl
theorem aiF {lo mb:Nat} {w:World} {D:Nat->Prop} {sl:Int} (hm:w.heap[mb]?=some (.cells #[I sl,Nl] 232 (0,0))) (hl:lo<=mb) (hd:D mb):iE lo mb w D sl Nl [] [] :=
 ⟨rfl,hm,pT _ _ _ _,(λk hk=>absurd hk (iW _)),hl,(λg=>nomatch g),(λk hk=>absurd hk (iW _)),(λk hk=>absurd hk (iW _)),(λj k hj=>absurd hj (iW _)),hd,(λb g=>nomatch g),(λk hk=>absurd hk (iW _))⟩
def K9 (w:World) (sl:Int) (ss:List ek) (e:Ending) (w':World):Prop:=∃mb v L,e=.returned (.pointer (some (Ad mb 0)))/\iE w.heap.size mb w' (λb=>w.heap.size<=b/\b<w'.heap.size) sl v L ss/\Below w.heap.size w w'
theorem Q4 (f:ky) (az ar ao:Option Addr) (cs cr co:Nat) (w:World) (h:CO w az f.aj) (hf:Kf f.aj) (hn:f.aj.length<=1000) (hsp:∀k,k<f.aj.length->(aI f.aj k).aJ.length<=1000000/\(aI f.aj k).aD.length<=1000000) :
  Calls prog 126 #[.agg (kZ f az ar ao cs cr co)] w (K9 w f.slots f.aj):=by
 have HH:=ai h;have HF:=ai hf;have Ir:=ai hsp;obtain⟨sl,ss,ps,os⟩:=f;unfold kZ;simp only at HH HF Ir hn ⊢;obtain⟨no,Y⟩:=ex os.length;generalize ps.length=nr;rw[<- Y];clear h hf hsp Y;have fU:=ai (((aN w.heap.size w).alloc (aK _) (.cells #[I sl,.slice az ss.length cs,.slice ar nr cr,.slice ao no co] 62)).alloc ξ (.cells #[I sl,Nl] 232));have Y0:Hid (((w.alloc (.cells #[I sl,.slice az ss.length cs,.slice ar nr cr,.slice ao no co] 62)).alloc (.cells #[I sl,Nl] 232)).heap[w.heap.size+1]?=some (.cells #[I sl,Nl] 232 (0,0))):=by
  have:=bH (w.alloc (.cells #[I sl,.slice az ss.length cs,.slice ar nr cr,.slice ao no co] 62)) #[I sl,Nl] 232;rw[fY] at this;exact this
 have fV:Hid (∀v L (w':World),iE w.heap.size (w.heap.size+1) w' (λb=>w.heap.size<=b/\b<w'.heap.size) sl v L ss->Below w.heap.size w w'->K9 w sl ss (.returned (.pointer (some (Ad (w.heap.size+1) 0)))) w'):=λv L w' h1 h2=>⟨_,v,L,rfl,h1,h2⟩
 obtain⟨i0,W,a7,a5,a0⟩:=kI aaA;have Mk:=ai W;have Tn:=ai a7;have Nr:=ai a5;have DY:=ai a0;clear W a7 a5 a0;generalize K9 w sl ss=P at fV ⊢;obtain⟨ns,R⟩:=ex ss.length;rw[<- R] at fU Y0 hn ⊢;have q:=ai R;clear R;go_enter func126,ntmps126;go_wp2;generalize (w.alloc (.cells #[I sl,.slice az ns cs,.slice ar nr cr,.slice ao no co] 62)).alloc (.cells #[I sl,Nl] 232)=WA at fU Y0 ⊢;obtain⟨mb,K⟩:=ex (w.heap.size+1);rw[<- K] at fV Y0 ⊢;have Q:=ai K;clear K;obtain⟨lo,hlo⟩:=ex w.heap.size;have PC:=ai fU.o;rw[<- hlo] at fV fU Q ⊢;have al:=ai hlo;clear hlo;go_loopw [13] (λiv wr=>∃(k:Nat) (v:Value) (L:List oV),k<=ns/\iv=I (k:Int)/\iE lo mb wr (λb=>lo<=b/\b<wr.heap.size) sl v L (ss.take k)/\Below lo w wr) (λiv _=>ns-(intOf iv).toNat)
 case atStart=>exact⟨0,Nl,[],ω,rfl,aiF Y0.o (by have:=Q.o;omega) ⟨by have:=Q.o;omega,aQ Y0.o⟩,fU.o⟩
 case round =>
  obtain⟨k,v,L,hk,rfl,hm,hb⟩:=hrel;have HM:=ai hm;have HB:=ai hb;have a3:L.length=k:=by rw[hm.len,o7];have:=q.o;omega
  have au:=aQ hm.head;have an:=hm.base;clear fU PC Y0;by_cases hlt:k<ns
  . have zE:Below w.heap.size w wr:=al.o ▸ hb;obtain⟨b,off,af,av,di⟩:=(HH.o.below zE) (by rw[<- q.o];omega);subst af;obtain⟨va,ap,cp,c0,c1,c2,c3,c4,c5⟩:=di k (by rw[<- q.o];omega);have O:=Ir.o k (by rw[<- q.o];omega);have a6:Hid (ss.take (k+1)=ss.take k++[aI ss k]):=by
     have J:k<ss.length:=by rw[<- q.o];exact hlt
     show _=_;rw[Ui J];unfold aI;rw[cB,fF J];rfl
    obtain⟨aa,na,ca,rfl⟩:=adl c3;have B:Hid (∀V,Below wr.heap.size wr V->Calls prog 182 #[.agg #[.bool (aI ss k).live,.slice aa na ca,.slice ap (aI ss k).aD.length cp]] V (W4 V (aI ss k))):=λV hV=>Mq (aI ss k) aa ap na ca cp V (c3.below hV) (c4.below hV) O.1 O.2
    generalize aI ss k=s at c0 c2 a6 B;obtain⟨lv,F⟩:=ex s.live;rw[<- F] at c0;generalize s.aD.length=np at c2 B;rw[<- F] at B;have aw:=ai F;have C2:(k:Int)<(ns:Int):=by omega
    have m1:wr.cell? (Ad mb 1)=some v:=aA hm.head 1 rfl;have a9:¬b=wr.heap.size:=by omega
    clear F O di c3 c4 c5 zE hb hm;go_wp2;have jc:=ai (HB.o.alloc ω (.cells #[.bool lv,.slice aa na ca,.slice ap np cp] 142));have A:=ai ((aN wr.heap.size wr).alloc (aK _) (.cells #[.bool lv,.slice aa na ca,.slice ap np cp] 142));have BX:=ai (bH wr #[.bool lv,.slice aa na ca,.slice ap np cp] 142);have Nb:Hid (iE lo mb (wr.alloc (.cells #[.bool lv,.slice aa na ca,.slice ap np cp] 142)) (λb=>lo<=b/\b<wr.heap.size) sl v L (ss.take k)):=HM.o.below A.o;have Z:Hid (lo<=(wr.alloc (.cells #[.bool lv,.slice aa na ca,.slice ap np cp] 142)).heap.size):=by show _<=_;rw[fY];omega
    have m2:(wr.alloc (.cells #[.bool lv,.slice aa na ca,.slice ap np cp] 142)).cell? (Ad mb 1)=some v:=aA Nb.o.head 1 rfl;generalize wr.alloc (.cells #[.bool lv,.slice aa na ca,.slice ap np cp] 142)=WB at jc A BX Nb m2 Z ⊢;obtain⟨sb,Bl⟩:=ex wr.heap.size;have G:=ai A.o;rw[<- Bl] at BX av au ⊢;have YQ:=ai Bl;clear Bl c0 c1 c2 m1 a9 A;have HS:Hid (∀V,Below WB.heap.size WB V->V.cell? (Ad sb 0)=some (.bool lv)/\V.cell? (Ad sb 1)=some (.slice aa na ca)/\V.cell? (Ad sb 2)=some (.slice ap np cp)):=λV hb=>by
     have h1:=aU BX.o hb (aQ BX.o);exact⟨aA h1 0 rfl,aA h1 1 rfl,aA h1 2 rfl⟩
    have uM:Hid (∀V,Below WB.heap.size WB V->Calls prog 182 #[.agg #[.bool lv,.slice aa na ca,.slice ap np cp]] V λe w'=>∃a1 n1 c1 a2 n2 c2,e=.returned (.agg #[.bool lv,.slice a1 n1 c1,.slice a2 n2 c2])/\rR V.heap.size w' ⟨lv,.slice a1 n1 c1,.slice a2 n2 c2⟩ s/\(∀b,dh (.slice a2 n2 c2) b->¬dh (.slice a1 n1 c1) b)/\Below V.heap.size V w'):=λV hV=>(B.o V (G.o.trans (hV.mono G.o.size))).mono λe w' ⟨va,vp,h1,h2,h3,h4⟩=>by
     rw[<- aw.o] at h1 h2;obtain⟨a1,c1,e1,_⟩:=aZ h2.aJ;obtain⟨a2,c2,e2,_⟩:=aZ h2.aD;have ac:va=_:=e1;have ag:vp=_:=e2;subst ac ag;exact⟨_,_,_,_,_,_,h1,h2,h3,h4⟩
    have tV:=ai (aN WB.heap.size WB).drew;have pK:=ai (HS.o _ tV.o);have g0:=(pK.o).1;have g1:=(pK.o).2.1;have g2:=(pK.o).2.2
    go_region_law (first
     | (refine tX (P:=prog) rfl _ _ 60 rfl lo 142 i0 (.agg #[.bool false,Nl,Nl]) 3 56 underlying60 Mk.o Tn.o Nr.o DY.o rfl Δ v k (L.flatMap j6) rfl ae.o (some (Ad w2.heap.size 0)) 1 1 [.bool lv,.slice a1 n1 c1,.slice a2 n2 c2] rfl rfl (λ_=>⟨_,rfl,xY (bH w2 _ _)⟩) (by intro u hu;simp at hu;rcases hu with rfl | rfl | rfl <;> rfl) (by unfold maxLen;omega) ω a8.o ?_;intro v3 w4 y T X;obtain⟨a4,c4,rfl,_⟩:=aZ y;have M7:=ai y;have Y4:=ai T;have am:=ai X;have N:=AK (bu (Nb.o.below uD.o).head (.cells #[.bool lv,.slice a1 n1 c1,.slice a2 n2 c2] 142)) T (λe=>Nb.o.n1 e.symm);have y1:w4.cell? (Ad mb 1)=some v:=aA N 1 rfl;have y2:w4.frozen? (Ad mb 1)=false:=bG N 1;clear y T X N)
     | (go_simp;go_at_call 182;refine(uM.o _ tV.o).mono ?_;rintro e w2 ⟨a1,n1,c1,a2,n2,c2,rfl,U,KI,M⟩;have uD:=ai (tV.o.trans (M.mono tV.o.size));have ad:=ai U;have ab:=ai KI;have iJ:=ai M;have m3:w2.cell? (Ad mb 1)=some v:=aA (Nb.o.below uD.o).head 1 rfl;have m4:(w2.alloc (.cells #[.bool lv,.slice a1 n1 c1,.slice a2 n2 c2] 142)).cell? (Ad mb 1)=some v:=aA (bu (Nb.o.below uD.o).head _) 1 rfl;have ae:Hid ((w2.alloc (.cells #[.bool lv,.slice a1 n1 c1,.slice a2 n2 c2] 142)).ownsRow lo 142 3 v k (L.flatMap j6)):=a3 ▸ ((Nb.o.below uD.o).row.alloc _);have a8:Hid (lo<=(w2.alloc (.cells #[.bool lv,.slice a1 n1 c1,.slice a2 n2 c2] 142)).heap.size):=(by show _<=_;have:=uD.o.size;have:=G.o.size;have:=YQ.o;simp;omega);clear M U KI;go_simp))
    all_goals
     go_wp2;go_roundw
     case rel =>
      have s0:=G.o.size;have s1:=Z.o;have hp:=Nb.o.push (D':=λb=>lo<=b/\b<(w4.setCell (Ad mb 1) (.slice a4 (k+1) c4)).heap.size) s1 uD.o ad.o ab.o Y4.o (a3 ▸ M7.o) am.o (λb hb=>⟨hb.1,by have:=uD.o.size;have:=Y4.o.size;rw[fY] at this;have:=(aH.set (λ_=>True) w4 (Ad mb 1) (.slice a4 (k+1) c4) trivial).size;omega⟩) (λb h1 h2=>⟨ω,by have:=(aH.set (λ_=>True) w4 (Ad mb 1) (.slice a4 (k+1) c4) trivial).size;omega⟩);refine⟨k+1,.slice a4 (k+1) c4,L++[⟨lv,.slice a1 n1 c1,.slice a2 n2 c2⟩],ω,by go_num,by rw[a6.o];exact hp.1,?_⟩;exact aH.below jc.o hp.2 s1 (λb hb=>by
       rcases hb with g | g
       . rw[g];exact an
       exact(Nb.o.row.lt b g).1)
     case measure=>simp[intOf];omega
  obtain rfl:k=ns:=by omega
  clear hb;have ah:Hid (ss.take k=ss):=by show _=_;rw[q.o,qJ]
  go_wp2;have:=HM.o;rw[ah.o] at this;exact fV.o _ _ _ this HB.o
def zi (l:List dK):Nat->ByteArray
 | 0=>⟨#[]⟩
 | k+1=>zi l k++(bo l k).data
theorem SL (l:List dK) (h:∀k,k<l.length->(bo l k).data.size=16):∀k,k<=l.length->(zi l k).size=16*k
 | 0,_=>rfl
 | k+1,hk=>by
  show(zi l k++(bo l k).data).size=_;rw[Uc,SL l h k ω,h k ω];omega
theorem SK (l:List dK) (ao:Option Addr) (cap:Nat) (w:World) (h:rU w ao l) (hz:∀k,k<l.length->(bo l k).data.size=16) (hn:l.length<=1000) :
  Calls prog 315 #[.slice ao l.length cap] w λe w'=>e=.returned (.string (zi l l.length))/\Below w.heap.size w w':=by
 have HH:=ai h;have HZ:=ai hz;have J:=ai (SL l hz);have F:Hid (∀k,zi l (k+1)=zi l k++(bo l k).data):=λk=>rfl
 clear h hz;go_enter func315,ntmps315;go_wp2;go_loopw [3,8] (λsv iv wr=>∃k:Nat,k<=l.length/\iv=I (k:Int)/\sv=.string (zi l k)/\Below w.heap.size w wr) (λ_ iv _=>l.length-(intOf iv).toNat)
 case atStart=>exact⟨0,ω,rfl,rfl,aN _ _⟩
 case round =>
  obtain⟨k,hk,rfl,rfl,hb⟩:=hrel;have HB:=ai hb;by_cases hlt:k<l.length
  . obtain⟨b,off,G,K,di⟩:=(HH.o.below hb) ω;subst G;obtain⟨c0,c1⟩:=di k hlt;have Xw:=HZ.o k hlt;have B:=J.o k hk;have y:=F.o k;obtain⟨⟨pg,dt⟩,hq⟩:∃q,q=bo l k:=⟨_,rfl⟩;rw[<- hq] at c0 c1 Xw y;simp only at c0 c1 Xw y;generalize zi l k=A at B y ⊢;have Mf:=ai y;have L:A.size+dt.size<=20000:=by omega
    clear hq di hb y B Xw;go_wp2;go_roundw
    case rel=>exact⟨k+1,ω,by go_num,by rw[Mf.o],HB.o.alloc HB.o.size _⟩
    case measure=>simp[intOf];omega
  obtain rfl:k=l.length:=by omega
  clear hb;go_wp2;go_ret;exact⟨rfl,HB.o⟩
end Go.Proofs.YtlgoihmkgaaemaaGreat
