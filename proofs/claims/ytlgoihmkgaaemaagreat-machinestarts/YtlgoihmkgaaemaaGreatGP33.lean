import Derived.Test.YtlgoihmkgaaemaaGreatGP32
set_option maxHeartbeats 20000000
set_option linter.unusedVariables false
set_option maxRecDepth 100000
set_option linter.unusedSimpArgs false
namespace Go.Proofs.YtlgoihmkgaaemaaGreat
open Go.RowKit Tryz
def kz (l:List aU) (hs:List bD) (en nf ns:Int):iM×Int:=if (nz l hs en nf ns).2=0 then (⟨(nz l hs en nf ns).1,[lq en],[]⟩,0) else (wY,(nz l hs en nf ns).2)
theorem Si {V:World} {g:Nat} {en:Int} {t:TypeId} (h:V.heap[g]?=some (.cells #[I 0,I 0,I 0,I 0,I 0,I 0,I 0,I 0,I en,I 1,I 0,I 0,I 0] t (0,0))):sZ V (some (Ad g 0)) [lq en]:=λ_=>⟨g,0,rfl,aM h,λi hi=>by
 obtain rfl:i=0:=by have:i<1:=hi;omega
 exact⟨aA h 0 rfl,aA h 1 rfl,aA h 2 rfl,aA h 3 rfl,aA h 4 rfl,aA h 5 rfl,aA h 6 rfl,aA h 7 rfl,aA h 8 rfl,aA h 9 rfl,aA h 10 rfl,aA h 11 rfl,aA h 12 rfl⟩⟩
theorem adR (l:List aU) (hs:List bD) (en nf ns:Int) (va:Value) (ao:Option Addr) (cap:Nat) (w:World) (ha:eN w va l) (hf:dG l) (h:gz w ao hs) (Jv:m6 hs) (hcap:hs.length<=cap) (he:cR en) :
  Calls prog 10 #[.agg #[va,.slice ao hs.length cap,I en],I nf,I ns] w (uh w (kz l hs en nf ns)):=by
 obtain⟨aa,ca,Ec,_⟩:=id ha;have B:Hid (∀V,Below w.heap.size w V->Calls prog 30 #[.agg #[va,.slice ao hs.length cap,I en],I nf,I ns] V λe w'=>∃s0 n0 q0 s1 n1 q1 s2 n2 q2 s3 n3 q3 hd,e=.returned (.tuple #[.agg #[.slice s0 n0 q0,.slice s1 n1 q1,.slice s2 n2 q2,.slice s3 n3 q3,I hd],I (nz l hs en nf ns).2])/\Below V.heap.size V w'/\∃A a,cD (nz l hs en nf ns).1.aD A/\bj a (aV (nz l hs en nf ns).1 A)=#[.slice s0 n0 q0,.slice s1 n1 q1,.slice s2 n2 q2,.slice s3 n3 q3,I hd]/\∀U,aI (λb=>b<V.heap.size) w' U->iB U a (aV (nz l hs en nf ns).1 A)):=λV hV=>by
  refine(ac9 wM l hs en nf ns va ao cap V (ha.below hV) hf (h.below hV) Jv hcap he).mono ?_;intro e w' ho;obtain⟨A,a,g1,g2,g3,g4⟩:=aaV ho;exact⟨_,_,_,_,_,_,_,_,_,_,_,_,_,g2,g4,A,a,g1,rfl,g3⟩
 have aj:Hid (∀V,Calls prog 31 #[I en] V λe w'=>e=.returned (.agg #[I 0,I 0,I 0,I 0,I 0,I 0,I 0,I 0,I en,I 1,I 0,I 0,I 0])/\Below V.heap.size V w'):=λV=>Zd en V
 obtain⟨N,hN⟩:=ex (nz l hs en nf ns);have F:Hid (kz l hs en nf ns=if N.2=0 then (⟨N.1,[lq en],[]⟩,0) else (wY,N.2)):=by rw[hN];exact rfl
 rw[<- hN] at B;obtain⟨R,hR⟩:=ex (kz l hs en nf ns);rw[<- hR] at F ⊢;obtain⟨P,hP⟩:=ex (uh w R);have HP:Hid (∀e w',uh w R e w'->P e w'):=λe w' h=>by rw[hP];exact h
 rw[<- hP];obtain⟨er,ae⟩:=ex N.2;rw[<- ae] at B F;obtain⟨nh,a6⟩:=ex hs.length;rw[<- a6] at B ⊢;subst Ec;obtain⟨na,tR⟩:=ex l.length;rw[<- tR] at B ⊢;obtain⟨va,Ec⟩:=ex (Value.slice aa na ca);have av:=ai Ec;clear Ec;have mh:=ai (((aN w.heap.size w).alloc (aJ _) (.cells #[.slice aa na ca,.slice ao nh cap,I en] 25)).alloc ξ (.cells #[Nl,Nl,Nl,Nl,I 0,Nl,Nl] 34));have BX:=ai (bB (bG w #[.slice aa na ca,.slice ao nh cap,I en] 25) (.cells #[Nl,Nl,Nl,Nl,I 0,Nl,Nl] 34));have BZ:=ai (bG (w.alloc (.cells #[.slice aa na ca,.slice ao nh cap,I en] 25)) #[Nl,Nl,Nl,Nl,I 0,Nl,Nl] 34);clear ha hf h Jv hcap he hN hR hP ae a6 tR av va;go_enter func10,ntmps10;go_wp2_with fail;obtain⟨WA,lQ⟩:=ex ((w.alloc (.cells #[.slice aa na ca,.slice ao nh cap,I en] 25)).alloc (.cells #[Nl,Nl,Nl,Nl,I 0,Nl,Nl] 34));have Q:(w.alloc (.cells #[.slice aa na ca,.slice ao nh cap,I en] 25)).heap.size=w.heap.size+1:=by simp
 rw[Q] at BZ;rw[<- lQ] at mh BX BZ ⊢;obtain⟨x,ad⟩:=ex w.heap.size;obtain⟨z,a5⟩:=ex (w.heap.size+1);rw[<- a5] at BZ ⊢;rw[<- ad] at BX ⊢;have ar:¬x=z:=by omega
 have aP:¬z=x:=by omega
 have Uq:Hid (∀V,Below WA.heap.size WA V->V.cell? (Ad x 0)=some (.slice aa na ca)/\V.cell? (Ad x 1)=some (.slice ao nh cap)/\V.cell? (Ad x 2)=some (I en)):=λV hb=>uo (aO BX.o hb (aM BX.o))
 have a7:Hid (∀V,Below WA.heap.size WA V->V.heap[z]?=some (.cells #[Nl,Nl,Nl,Nl,I 0,Nl,Nl] 34 (0,0))):=λV hb=>aO BZ.o hb (aM BZ.o)
 have aG:=aM BZ.o;have ah:Hid (w.heap.size<=z):=(by rw[a5];omega:w.heap.size<=z);clear lQ Q ad a5 BX BZ;refine(B.o _ mh.o).mono ?_;rintro e w1 ⟨s0,n0,q0,s1,n1,q1,s2,n2,q2,s3,n3,q3,hd,rfl,a9,ac⟩;have dz:=ai a9;have Dg:=ai ac;clear a9 ac B;obtain⟨WX,M⟩:=ex (w1.alloc (.cells #[.slice s0 n0 q0,.slice s1 n1 q1,.slice s2 n2 q2,.slice s3 n3 q3,I hd] 30));have a3:Below w1.heap.size w1 WX:=by rw[M];exact(aN _ _).alloc (aJ _) _
 have hX:=bG w1 #[.slice s0 n0 q0,.slice s1 n1 q1,.slice s2 n2 q2,.slice s3 n3 q3,I hd] 30;rw[<- M] at hX;have EO:=ai (dz.o.trans (a3.mono dz.o.size));have O:=ai M;have r:=a7.o _ EO.o;obtain⟨z0,z1,z2,z3,z4,z5,z6⟩:=lD r;have f0:=br r 0;have f1:=br r 1;have f2:=br r 2;have f3:=br r 3;have f4:=br r 4;have f5:=br r 5;have f6:=br r 6;have Y:=ai hX;have Z:=ai a3;rw[M] at z0 z1 z2 z3 z4 z5 z6 f0 f1 f2 f3 f4 f5 f6;clear M a3 r hX;by_cases c:er=0
 . subst c;have yZ:Hid (R=(⟨N.1,[lq en],[]⟩,0)):=F;clear F;go_wp2_with fail;rw[<- O.o];rw[<- O.o] at z0 z1 z2 z3 z4 z5 z6 f0 f1 f2 f3 f4 f5 f6;obtain⟨X,af⟩:=ex w1.heap.size;rw[<- af] at Y ⊢;have L:Hid (∀V,Below WX.heap.size WX V->V.cell? (Ad X 0)=some (.slice s0 n0 q0)/\V.cell? (Ad X 1)=some (.slice s1 n1 q1)/\V.cell? (Ad X 2)=some (.slice s2 n2 q2)/\V.cell? (Ad X 3)=some (.slice s3 n3 q3)/\V.cell? (Ad X 4)=some (I hd)/\V.cell? (Ad x 2)=some (I en)):=λV hb=>by
    obtain⟨k0,k1,k2,k3,k4⟩:=kj (aO Y.o hb (aM Y.o));exact⟨k0,k1,k2,k3,k4,(Uq.o V (EO.o.trans (hb.mono EO.o.size))).2.2⟩
   have o5:=ai (L.o _ (aN WX.heap.size WX).drew);have ab:¬X=z:=by have:=dz.o.size;omega
   have J:=ai ab;have al:Hid (∀V,Below WX.heap.size WX V->Calls prog 31 #[I en] V λe w'=>e=.returned (.agg #[I 0,I 0,I 0,I 0,I 0,I 0,I 0,I 0,I en,I 1,I 0,I 0,I 0])/\Below WX.heap.size WX w'):=λV hV=>(aj.o V).mono λe w' ⟨g1,g2⟩=>⟨g1,hV.trans (g2.mono hV.size)⟩
   have UG:Hid (∀W,Below WX.heap.size WX W->∀V,aI (λb=>b=z) (W.alloc (.cells #[I 0,I 0,I 0,I 0,I 0,I 0,I 0,I 0,I en,I 1,I 0,I 0,I 0] 77)) V->V.cell? (Ad X 0)=some (.slice s0 n0 q0)/\V.cell? (Ad X 1)=some (.slice s1 n1 q1)/\V.cell? (Ad X 2)=some (.slice s2 n2 q2)/\V.cell? (Ad X 3)=some (.slice s3 n3 q3)/\V.cell? (Ad X 4)=some (I hd)/\V.cell? (Ad x 2)=some (I en)):=λW hW V hV=>by
    obtain⟨k0,k1,k2,k3,k4,k5⟩:=L.o _ (hW.alloc hW.size (.cells #[I 0,I 0,I 0,I 0,I 0,I 0,I 0,I 0,I en,I 1,I 0,I 0,I 0] 77));exact⟨hV.cell k0 J.o,hV.cell k1 J.o,hV.cell k2 J.o,hV.cell k3 J.o,hV.cell k4 J.o,hV.cell k5 ar⟩
   have ay:Hid (∀W,Below WX.heap.size WX W->(W.alloc (.cells #[I 0,I 0,I 0,I 0,I 0,I 0,I 0,I 0,I en,I 1,I 0,I 0,I 0] 77)).heap[z]?=some (.cells #[Nl,Nl,Nl,Nl,I 0,Nl,Nl] 34 (0,0))):=λW hW=>a7.o _ (EO.o.trans ((hW.alloc hW.size _).mono EO.o.size))
   clear z0 z1 z2 z3 z4 z5 z6 f0 f1 f2 f3 f4 f5 f6 af ab;refine uj (S:=λV=>V.cell? (Ad X 0)=some (.slice s0 n0 q0)/\V.cell? (Ad X 1)=some (.slice s1 n1 q1)/\V.cell? (Ad X 2)=some (.slice s2 n2 q2)/\V.cell? (Ad X 3)=some (.slice s3 n3 q3)/\V.cell? (Ad X 4)=some (I hd)/\V.cell? (Ad x 2)=some (I en)) (z:=6) κ ?_;obtain⟨V0,a4⟩:=ex WX.drew;have ap:Hid (Below WX.heap.size WX V0):=by rw[a4];exact(aN WX.heap.size WX).drew
   rw[<- a4] at o5 ⊢;clear a4;refine lO 0 o5.o ?_;refine lO 1 o5.o ?_;refine lO 2 o5.o ?_;refine gS (rs:=[3]) κ ξ ?_;refine b7.cons rfl (λK hK=>?_) b7.nil;go_simp
   go_at_call 31
   refine(al.o _ ap.o).mono ?_;rintro e w7 ⟨rfl,a8⟩;have y:=ai a8;clear a8;go_simp;refine hK.out _ _ (λ_=>?_) ?_
   . exact L.o _ y.o
   clear hK K
   try simp only[Act.put,eQ,eI,ed]
   refine gS (rs:=[4]) κ ξ ?_;refine b7.cons rfl (λK hK=>?_) b7.nil;go_simp;refine hK.out _ _ (λ_=>?_) ?_
   . exact L.o _ (y.o.alloc y.o.size _)
   clear hK K
   try simp only[Act.put,eQ,eI,ed]
   have G:=ai (y.o.alloc y.o.size (.cells #[I 0,I 0,I 0,I 0,I 0,I 0,I 0,I 0,I en,I 1,I 0,I 0,I 0] 77));have BP:=ai (bG w7 #[I 0,I 0,I 0,I 0,I 0,I 0,I 0,I 0,I en,I 1,I 0,I 0,I 0] 77);have q:=ai (ay.o _ y.o);obtain⟨V8,a0⟩:=ex (w7.alloc (.cells #[I 0,I 0,I 0,I 0,I 0,I 0,I 0,I 0,I en,I 1,I 0,I 0,I 0] 77));obtain⟨bP,a2⟩:=ex w7.heap.size;have ag:Hid (WX.heap.size<=bP):=(by rw[a2];exact y.o.size:WX.heap.size<=bP);have an:Hid (∀V,aI (λb=>b=z) V8 V->V.cell? (Ad X 0)=some (.slice s0 n0 q0)/\V.cell? (Ad X 1)=some (.slice s1 n1 q1)/\V.cell? (Ad X 2)=some (.slice s2 n2 q2)/\V.cell? (Ad X 3)=some (.slice s3 n3 q3)/\V.cell? (Ad X 4)=some (I hd)/\V.cell? (Ad x 2)=some (I en)):=by rw[a0];exact UG.o _ y.o
   rw[<- a0] at G BP q ⊢;rw[<- a2] at BP ⊢;clear a0 a2;refine lO 5 (L.o _ G.o) ?_;obtain⟨z0,z1,z2,z3,z4,z5,z6⟩:=lD q.o;have f0:=br q.o 0;have f1:=br q.o 1;have f2:=br q.o 2;have f3:=br q.o 3;have f4:=br q.o 4;have f5:=br q.o 5;have f6:=br q.o 6;refine gS (rs:=[6]) κ ξ ?_;refine b7.cons rfl (λK hK=>?_) b7.nil;go_simp;refine hK.out _ _ (λg=>absurd rfl g) ?_;clear hK K
   try simp only[Act.put,eQ,eI,ed]
   refine gS (rs:=[7]) κ ξ ?_;refine b7.cons rfl (λK hK=>?_) b7.nil;go_simp;refine hK.out _ _ (λ_=>?_) ?_
   . exact(an.o _ (pC _ z _ _ _ _ _ _ _))
   clear hK K
   try simp only[Act.put,eQ,eI,ed]
   refine Ab κ ?_ _;go_wp2;refine bW (v:=.tuple #[.agg #[.slice s0 n0 q0,.slice s1 n1 q1,.slice s2 n2 q2,.slice s3 n3 q3,I hd,.slice (some (Ad bP 0)) 1 1,Nl],I 0]) (by simp[results,results10,go_sem,z0,z1,z2,z3,z4,z5,z6]) rfl ?_;refine HP.o _ _ ?_;rw[yZ.o];have T:=pC V8 z (.slice s0 n0 q0) (.slice s1 n1 q1) (.slice s2 n2 q2) (.slice s3 n3 q3) (I hd) (.slice (some (Ad bP 0)) 1 1) Nl;obtain⟨A,a1,g1,g2,g3⟩:=Dg.o;have az:¬bP=z:=by have:=ag.o;have:=EO.o.size;omega
   have e7:eU (m8 ⟨N.1,[lq en],[]⟩ A) a1 (some (Ad bP 0)) none 1 0=#[.slice s0 n0 q0,.slice s1 n1 q1,.slice s2 n2 q2,.slice s3 n3 q3,I hd,.slice (some (Ad bP 0)) 1 1,Nl]:=by
    have g2:=dO Array.toList g2;unfold bj at g2;unfold eU m8;simp only[rE] at g2 ⊢;obtain⟨b0,b1,b2,b3,b4,_⟩:=g2;simp only[b0,b1,b2,b3,b4,D5,P8]
   have am:=ah.o;have aF:=mh.o.size;have aC:=dz.o.size;have aE:=Z.o.size;have au:Below w1.heap.size w1 V8:=Z.o.trans (G.o.mono Z.o.size);have aL:=EO.o.size;refine⟨A,a1,some (Ad bP 0),1,none,0,g1,by rw[e7],λV hV=>?_,aI.below ((mh.o.trans (EO.o.mono mh.o.size)).trans (G.o.mono ω)) T (by have:=G.o.size;omega) (λb e=>by rw[e];exact am)⟩;have aw:aI (λb=>b<WX.heap.size) V8 V:=(T.mono (λb _ e=>ω)).trans (hV.mono (λb _ g=>ω)) (λ_ _ g=>g);have aq:aI (λb=>b<WA.heap.size) V8 V:=(T.mono (λb _ e=>ω)).trans (hV.mono (λb _ g=>ω)) (λ_ _ g=>g);exact⟨g3 V ((aI.cA au).trans aq (λ_ _ g=>g)),Si (aw.keep BP.o (by have:=ag.o;omega)),λg=>absurd g (gY _)⟩
 have yZ:Hid (R=(wY,er)):=by rw[F.o,aH c];exact rfl
 have cb:(er==0)=false:=by grind
 clear c F;go_wp2_with fail;rw[<- O.o];rw[<- O.o] at z0 z1 z2 z3 z4 z5 z6 f0 f1 f2 f3 f4 f5 f6;refine bW (v:=.tuple #[.agg #[Nl,Nl,Nl,Nl,I 0,Nl,Nl],I er]) (by simp[results,results10,go_sem,z0,z1,z2,z3,z4,z5,z6]) rfl ?_;refine HP.o _ _ ?_;rw[yZ.o];exact Nn er (aI.below (mh.o.trans (EO.o.mono mh.o.size)) (pC WX z _ _ _ _ _ _ _) (gj mh.o.size EO.o.size) (λb e=>by rw[e];exact ah.o))
def zx:ByteArray:=⟨#[16,0,0,0,5,0,0,0,11,1,0,0,40,0,0,0]⟩
def y8:ByteArray:=⟨#[10,0,1,8,0,0,0,0,9,0,1,1,0,0,0,0]⟩
def zw:ByteArray:=⟨#[16,0,0,0,1,0,0,0,16,0,0,0,6,0,0,0]⟩
def Sw:ByteArray:=⟨#[0,0,0,0,0,0,0,0,0,0,0,0,0,0,0,0]⟩
def qB:List aU:=[⟨1,4,3,false⟩]
def l9 (a1 a2 a3 a4:Option Addr) (pM pE pD nO:Nat):List bD:=[⟨1,zx,[],a1,pM⟩,⟨2,y8,[],a2,pE⟩,⟨3,zw,[],a3,pD⟩,⟨4,Sw,[],a4,nO⟩]
def qY:List Int:=[0,1,0,1,0,1,0,1,0,1,0,1,0,1]
variable {σ:Type}
def YM (s:dC σ):Nat×Nat×Int×Int×Int×Int:=(s.ps.length,s.out.length,(mD s.out 0).value,(mD s.out 1).value,(aR s.ps 1).st,(aR s.ps 1).cd)
variable (a1 a2 a3 a4:Option Addr) (pM pE pD nO:Nat)
def ai3:dC aT:=⟨lK qB (l9 a1 a2 a3 a4 pM pE pD nO) 3 8,[lq 16],[]⟩
theorem YP {Ok:σ->List Bool->Prop} {m:σ} {en:Int} (he:cR en) (h:Ok m [true]):fZ Ok (⟨m,[lq en],[]⟩:dC σ):=by
 refine⟨h,λk hk=>?_,λk hk=>?_,λx hx=>(by cases hx),rB _⟩
 . have:k=0:=by have hk:k<1:=hk;omega
   subst this;exact⟨λj hj=>⟨by show -9223372036854775808<=(0:Int);omega,by show(0:Int)<=9223372036854775807;omega⟩,he⟩
 have:k=0:=by have hk:k<1:=hk;omega
 subst this;rfl
def ic (N:Nat) (m:iM) (c:Array Value) (w:World):Prop:=∃hs a ar cr ao co,cD m.fA.aD hs/\c=eU (m8 m hs) a ar ao cr co/\∀U,aI (λb=>b<N) w U->rR U a ar ao (m8 m hs)
theorem ic.cells {N:Nat} {m:iM} {c:Array Value} {w:World} (h:ic N m c w):∃s0 n0 q0 s1 n1 q1 s2 n2 q2 s3 n3 q3 hd s5 q5 s6 q6,c=#[.slice s0 n0 q0,.slice s1 n1 q1,.slice s2 n2 q2,.slice s3 n3 q3,I hd,.slice s5 m.procs.length q5,.slice s6 m.out.length q6]:=by
 obtain⟨hs,a,ar,cr,ao,co,_,h2,_⟩:=h;exact⟨_,_,_,_,_,_,_,_,_,_,_,_,_,ar,cr,ao,co,h2⟩
theorem ic.later {N:Nat} {m:iM} {c:Array Value} {w U:World} (h:ic N m c w) (g:aI (λb=>b<N) w U):ic N m c U:=by
 obtain⟨hs,a,ar,cr,ao,co,h1,h2,h3⟩:=h;exact⟨hs,a,ar,cr,ao,co,h1,h2,λV hV=>h3 V (g.trans hV (λ_ _ x=>x))⟩
theorem ic.below {N:Nat} {m:iM} {c:Array Value} {w U:World} (h:ic N m c w) (g:Below w.heap.size w U):ic N m c U:=h.later (aI.cA g)
theorem ic.mono {N N':Nat} {m:iM} {c:Array Value} {w:World} (h:ic N m c w) (g:N'<=N):ic N' m c w:=by
 obtain⟨hs,a,ar,cr,ao,co,h1,h2,h3⟩:=h;exact⟨hs,a,ar,cr,ao,co,h1,h2,λV hV=>h3 V (hV.mono (λ_ _ x=>ω))⟩
theorem VI {w w':World} {r:iM×Int} {e:Ending} (h:uh w r e w'):∃c,e=.returned (.tuple #[.agg c,I r.2])/\ic w.heap.size r.1 c w'/\Below w.heap.size w w':=by
 obtain⟨hs,a,ar,cr,ao,co,h1,h2,h3,h4⟩:=h;exact⟨_,h2,⟨hs,a,ar,cr,ao,co,h1,rfl,h3⟩,h4⟩
theorem abt {w w':World} {r:iM×Int} {hs:List bD} {e:Ending} (s:cD r.1.fA.aD hs) (h:uh w (m8 r.1 hs,r.2) e w'):uh w r e w':=by
 obtain⟨b,a,ar,cr,ao,co,h1,h2,h3,h4⟩:=h;exact⟨b,a,ar,cr,ao,co,s.trans h1,h2,h3,h4⟩
theorem aiM {m:iM} (h:fZ gQ (nN m)):m.procs.length<=4:=by
 have:=jF.few _ _ h.mem;simpa [cI,nN] using this
theorem aiL {m:iM} (h:fZ gQ (nN m)):Ct m:=⟨ug h.mem.right,by have:=aiM h;unfold bM;omega,by have:m.out.length<=2000:=h.out;unfold bM;omega⟩
variable {N:Nat} {m:iM} {c:Array Value} {U:World}
def YB (w:World) (r:iM×Int) (e:Ending) (w':World):Prop:=∃c,e=.returned (.tuple #[.agg c,I r.2])/\ic w.heap.size r.1 c w'/\Below w.heap.size w w'
theorem abr (h:ic N m c U) (hg:fZ gQ (nN m)) (picks:List Int) (ap:Option Addr) (cp:Nat) (hn:yE U ap picks) (hps:0<picks.length->∀b,ap=some b->b.block<U.heap.size) (hpl:picks.length<=140737488351232) :
  Calls prog 20 #[.agg c,.slice ap picks.length cp] U (YB U (yC m picks)):=by
 obtain⟨hs,a,ar,cr,ao,co,h1,rfl,h3⟩:=h;have g':fZ gQ (nN (m8 m hs)):=OH hg h1;obtain⟨hs',s1,s2⟩:=abq hg h1 picks;refine(adP (m8 m hs) picks ap cp a ar ao cr co U (h3 U (aI.refl _ _)) (aiL g') g'.fit hn hps hpl).mono λe w' ho=>?_
 rw[s2] at ho;exact VI (abt s1 ho)
theorem OG (l:List aU) (hs:List bD) (en nf ns:Int) (va:Value) (ao:Option Addr) (cap:Nat) (w:World) (ha:eN w va l) (hf:dG l) (h:gz w ao hs) (Jv:m6 hs) (hcap:hs.length<=cap) (he:cR en) :
  Calls prog 10 #[.agg #[va,.slice ao hs.length cap,I en],I nf,I ns] w (YB w (kz l hs en nf ns)) :=
 (adR l hs en nf ns va ao cap w ha hf h Jv hcap he).mono λe w' ho=>VI ho
theorem Mg (l:List aU) (hs:List bD) (en nf ns:Int) (he:cR en):((kz l hs en nf ns).2≠0)\/(iF l hs en=0/\3<=nf/\nf<=64/\0<=ns/\ns<=512/\bR l<=ns/\kz l hs en nf ns=(⟨lK l hs nf ns,[lq en],[]⟩,0)/\fZ gQ (nN ⟨lK l hs nf ns,[lq en],[]⟩)):=by
 by_cases c:(nz l hs en nf ns).2=0
 . right;have hk:iF l hs en=0/\3<=nf/\nf<=64/\0<=ns/\ns<=512/\bR l<=ns/\nz l hs en nf ns=(lK l hs nf ns,0):=by
    unfold nz at c ⊢;by_cases c1:iF l hs en=0
    . rw[aH (λx=>x c1)] at c ⊢;by_cases c3:nf<3
      . rw[aQ c3] at c;cases c
      rw[aH c3] at c ⊢;by_cases cr:nf>64\/ns<0\/ns>512
      . rw[aQ cr] at c;cases c
      rw[aH cr] at c ⊢;by_cases ct:bR l>ns
      . rw[aQ ct] at c;cases c
      rw[aH ct] at c ⊢;exact⟨c1,ω,ω,ω,ω,ω,rfl⟩
    rw[aQ c1] at c;exact absurd c c1
   obtain⟨g1,g2,g3,g4,g5,g6,g7⟩:=hk;have e:kz l hs en nf ns=(⟨lK l hs nf ns,[lq en],[]⟩,0):=by unfold kz;rw[g7];rfl
   exact⟨g1,g2,g3,g4,g5,g6,e,YP he ⟨Uz (aiP g1) g2 g3 g4 g5 g6,rfl⟩⟩
 left;unfold kz;rw[aH c];exact c
structure Q6 (l:List kI) (ao:Option Addr) (w:World):Prop where
 has:Lg w ao l
 few:l.length<=1000
 chk:∀k,k<l.length->mM (dX l k).i=0
 fit:∀k,k<l.length->KL (dX l k).i
 base:∀k,k<l.length->1<=(dX l k).base/\(dX l k).base<=2000
theorem Q6.below {l:List kI} {ao:Option Addr} {w w':World} (h:Q6 l ao w) (hb:Below w.heap.size w w'):Q6 l ao w':=⟨h.has.below hb,h.few,h.chk,h.fit,h.base⟩
structure aai (xs ys:List bD):Prop where
 len:xs.length=ys.length
 page:∀k,k<xs.length->(aZ ys k).page=(aZ xs k).page
 data:∀k,k<xs.length->(aZ ys k).data=(aZ xs k).data
 df:∀k,k<xs.length->(aZ ys k).df=(aZ xs k).df
theorem KQ (xs ys:List bD) (ax ay:Option Addr) (cx cy:Nat) (w:World) (hx:gz w ax xs) (hy:gz w ay ys) (hs:aai xs ys) (hn:bM xs.length) (hfn:∀k,k<xs.length->bM (aZ xs k).df.length) :
  Calls prog 85 #[.slice ax xs.length cx,.slice ay ys.length cy] w λe w'=>e=.returned (.bool true)/\Below w.heap.size w w':=by
 have HX:=aB hx;have M:=aB hy;have HS:=aB hs;have Mk:=aB hfn;rw[<- hs.len];unfold bM at hn;clear hx hy hs hfn;go_enter func85,ntmps85;go_wp2;go_loopw [5] (λi wr=>∃k:Nat,k<=xs.length/\i=I k/\Below w.heap.size w wr) (λi _=>xs.length-(intOf i).toNat)
 case atStart=>grind [Below.refl]
 case round =>
  obtain⟨i,hi,rfl,hb⟩:=hrel;have pI:=aB hb;by_cases hlt:i<xs.length
  . obtain⟨bx,ox,Q,E7,J⟩:=HX.o ω;obtain⟨q,oy,L,N,G⟩:=M.o (by rw[<- HS.o.len];omega);subst Q L;have HF:Hid (∀V,Below w.heap.size w V->(V.cell? (Ad bx (ox+i*3))=some (I (aZ xs i).page)/\V.cell? (Ad bx (ox+i*3+1))=some (.string (aZ xs i).data)/\V.cell? (Ad bx (ox+i*3+2))=some (.slice (aZ xs i).ao (aZ xs i).df.length (aZ xs i).cap)/\mS V (aZ xs i).ao (aZ xs i).df)/\(V.cell? (Ad q (oy+i*3))=some (I (aZ xs i).page)/\V.cell? (Ad q (oy+i*3+1))=some (.string (aZ xs i).data)/\V.cell? (Ad q (oy+i*3+2))=some (.slice (aZ ys i).ao (aZ xs i).df.length (aZ ys i).cap)/\mS V (aZ ys i).ao (aZ xs i).df)):=λV hV=>by
     obtain⟨a0,a1,a2,a3⟩:=Qx hV E7 J i hlt;obtain⟨b0,b1,b2,b3⟩:=Qx hV N G i (by rw[<- HS.o.len];exact hlt);rw[HS.o.page i hlt] at b0;rw[HS.o.data i hlt] at b1;rw[HS.o.df i hlt] at b2 b3;exact⟨⟨a0,a1,a2,a3⟩,b0,b1,b2,b3⟩
    have r:=Mk.o i hlt;obtain⟨⟨pg,dt,fs,af,cf⟩,h⟩:∃s,s=aZ xs i:=⟨_,rfl⟩;obtain⟨ag,b⟩:∃a,a=(aZ ys i).ao:=⟨_,rfl⟩;obtain⟨cg,y⟩:∃a,a=(aZ ys i).cap:=⟨_,rfl⟩;rw[<- h,<- b,<- y] at HF;rw[<- h] at r;simp only at HF r;unfold bM at r;clear h b y J G;obtain⟨⟨a0,a1,a2,-⟩,b0,b1,b2,-⟩:=HF.o _ hb;have Z:(i:Int)<(xs.length:Int):=by omega
    have Y:(0:Int)<=(i:Int):=by omega
    clear hb;go_wp2
    go_quiet (fail)
    go_wp2;go_loopw [6] (λi2 wr=>∃k:Nat,k<=fs.length/\i2=I k/\Below w.heap.size w wr) (λi2 _=>fs.length-(intOf i2).toNat)
    case atStart=>exact⟨0,ω,rfl,lJ pI.o _⟩
    case round =>
     obtain⟨k,hk,rfl,hb⟩:=hrel;have A:=aB hb;obtain⟨⟨d0,d1,d2,d3⟩,e0,e1,e2,e3⟩:=HF.o _ hb;clear hb a0 a1 a2 b0 b1 b2;by_cases hlk:k<fs.length
     . obtain⟨fb,fo,O,Zu,K⟩:=d3 ω;obtain⟨gb,go,b,U,B⟩:=e3 ω;subst O b;obtain⟨f0,f1⟩:=K k hlk;obtain⟨g0,g1⟩:=B k hlk;obtain⟨⟨T,R⟩,F⟩:∃f,f=l8 fs k:=⟨_,rfl⟩;rw[<- F] at f0 f1 g0 g1;simp only at f0 f1 g0 g1;clear F K B d3 e3;have W:(k:Int)<(fs.length:Int):=by omega
       have X:(0:Int)<=(k:Int):=by omega
       go_wp2
       go_quiet (fail)
       go_wp2;go_roundw
       case rel=>exact⟨k+1,ω,by go_num,lJ A.o _⟩
       case measure=>simp[intOf];omega
     obtain rfl:k=fs.length:=by omega
     clear d3 e3;go_wp2;go_roundw
     case rel=>exact⟨i+1,ω,by go_num,A.o⟩
     case measure=>simp[intOf];omega
  obtain rfl:i=xs.length:=by omega
  go_wp2;go_ret;exact⟨rfl,pI.o⟩
theorem S0 (F:Nat->dg) (hF:nI F) (w:World) :
  Calls prog 137 #[.agg (jD (λn=>qF (F n)))] w λe w'=>∃v,e=.returned v/\eO w.heap.size w' v (gH F)/\Below w.heap.size w w':=by
 have HF:Hid (nI F):=hF;clear hF;obtain⟨C,hC⟩:=ex (jD (λn=>qF (F n)));have U:Hid (∀n,n<256->C[n]?=some (I (qF (F n)))):=by show ∀n,_;grind [Jq]
 rw[<- hC];clear hC;obtain⟨i0,hi,ab,aa,a6⟩:=mQ V9;have HX:Hid ((w.alloc (.cells C 245)).heap[w.heap.size]?=some (.cells C 245 (0,0))):=bG w C 245;have eB:Hid (Below w.heap.size w (w.alloc (.cells C 245))):=(aN _ _).alloc (aJ _) _;go_enter func137,ntmps137;go_wp2;go_loopw [3,4] (λv i wr=>∃k:Nat,1<=k/\k<=256/\i=I k/\wr.ownsRow (w.heap.size+1) 139 4 v (cj F k).length (b9 (cj F k))/\wr.heap[w.heap.size]?=some (.cells C 245 (0,0))/\Below w.heap.size w wr) (λ_ i _=>256-(intOf i).toNat)
 case atStart =>
  have e:cj F 1=[]:=by grind [cj,Hid.o,nI.zero]
  refine⟨1,ω,ω,rfl,?_,HX.o,eB.o⟩;rw[e];exact nt _ _ _ _
 case round =>
  obtain⟨k,ah,hk,rfl,L,hx,hb⟩:=hrel;have HO:Hid (wr.ownsRow (w.heap.size+1) 139 4 u3 (cj F k).length (b9 (cj F k))):=L;have J:Hid (wr.heap[w.heap.size]?=some (.cells C 245 (0,0))):=hx;have HB:Hid (Below w.heap.size w wr):=hb;by_cases hlt:k<256
  . have l0:=aA hx k (U.out k hlt);have l1:=aA hx (k-1) (U.out (k-1) ω);have Il:(k:Int)<=255:=by omega
    have ap:(1:Int)<=(k:Int):=by omega
    have au:(k:Int)<256:=by omega
    clear L hx hb;have B:gV F k=F (k-1):=by
     cases k with
     | zero=>omega
     | succ k=>rfl
    have r:=HF.o.gh k;have Q:=HF.o.gh (k-1);obtain⟨s,hs⟩:=ex (F k);obtain⟨t,ht⟩:=ex (gV F k);rw[<- B,<- ht] at l1 Q;rw[<- hs] at l0 r;have HS:Hid (s=F k):=hs;have HT:Hid (t=gV F k):=ht;clear hs ht B;by_cases hm:s.m=true
    . have X:=acd s r hm;have q:=aeR s t r Q hm;obtain⟨y,hy⟩:=ex (qF t);generalize qF s=x at l0 X q;rw[<- hy] at l1 q;obtain⟨a0,a2,ao,ag⟩:=X;have a9:Hid ((x-1)%8/2=s.p):=a0;have Cv:Hid (decide (8<=x-1)=s.z):=a2;have HI:Hid (y=x↔qO s t=true):=q;have R:(x==0)=false:=jx.2 ω;clear hy a0 a2 q r Q;by_cases hyx:y=x
      . have he:qO s t=true:=HI.o.1 hyx;have a5:(y==x)=true:=by simp[hyx]
        have HG:Hid (cj F (k+1)=yK (cj F k)):=by show _=_;simp only[cj];rw[<- HS.o,<- HT.o,hm,he];rfl
        have W:=Bn F k (by rw[<- HT.o,<- J8 s t he];exact hm);have K:=sN F k;have QG:=zt F k ((cj F k).length-1) ω;generalize cj F k=G at HO HG W K QG;clear he hm hyx;rcases HO.o.2 with⟨_,h0⟩ | ⟨g,cap,ar,hv,aq,hg,al,ac,a4,T⟩
        . omega
        have Kf:=HO.o;rw[hv] at Kf;have p1:wr.cell? ⟨g,(G.length-1)*4+1,none⟩=some (I (bw G (G.length-1)).aY):=by
         rw[Kf.cellAt _ ω,l7 G _ 1 ω ω];rfl
        have pf:=Kf.frozenAt;have Z:Hid (wr.ownsRow (w.heap.size+1) 139 4 (.slice (some (Ad g 0)) G.length cap) G.length (b9 G)):=Kf;rw[hv];clear HO Kf hv hg T a4;obtain⟨pp,Ib⟩:=ex ((bw G (G.length-1)).aY);rw[<- Ib] at p1 QG;have HP:Hid (pp=(bw G (G.length-1)).aY):=Ib;clear Ib;have af:(G.length:Int)<=256:=by omega
        go_wp2
        go_quiet (fail)
        obtain⟨V,hV⟩:∃V:World,V=wr.drewN nq:=⟨_,rfl⟩;rw[<- hV];have ae:V.cell? ⟨g,(G.length-1)*4+1,none⟩=some (I pp):=by rw[hV];exact p1
        have an:∀j,V.frozen? (Ad g j)=false:=by rw[hV];exact pf
        have O:Hid (V.heap[w.heap.size]?=some (.cells C 245 (0,0))):=by show _=_;rw[hV];exact J.o
        have N:Hid (V.ownsRow (w.heap.size+1) 139 4 (.slice (some (Ad g 0)) G.length cap) G.length (b9 G)):=by show World.ownsRow _ _ _ _ _ _ _;rw[hV];exact Z.o
        have M:Hid (Below w.heap.size w V):=by show Below _ _ _;rw[hV];exact lJ HB.o _
        clear hV p1 pf l0 l1 J Z HB;go_wp2;go_roundw
        case rel =>
         have ho:=(N.o.stored ((G.length-1)*4+1) (I (pp+1))).1;have e:(b9 G).set ((G.length-1)*4+1) (I (pp+1))=b9 (yK G):=by
          rw[HP.o];exact(xZ G (G.length-1) _ ω).symm
         rw[e] at ho;refine⟨k+1,ω,ω,by go_num,?_,jy O.o _ _ _ ω,M.o.setCell (by simp;omega) _⟩;rw[HG.o,tQ];exact ho
        case measure=>simp[intOf];omega
      have he:qO s t=false:=by
       cases e:qO s t
       . rfl
       exact absurd (HI.o.2 e) hyx
      have a5:(y==x)=false:=jx.2 hyx;have HG:Hid (cj F (k+1)=cj F k++[⟨(k:Int),1,s.p,s.z⟩]):=by show _=_;simp only[cj];rw[<- HS.o,<- HT.o,hm,he];rfl
      have K:=sN F k;generalize cj F k=G at HO HG K;clear he hm hyx;go_wp2
      go_quiet (fail)
      obtain⟨V,hV⟩:∃V:World,V=wr.drewN nq:=⟨_,rfl⟩;rw[<- hV];have am:V.cell? (Ad w.heap.size k)=some (I x):=by rw[hV];exact l0
      have O:Hid (V.heap[w.heap.size]?=some (.cells C 245 (0,0))):=by show _=_;rw[hV];exact J.o
      have N:Hid (V.ownsRow (w.heap.size+1) 139 4 u3 G.length (b9 G)):=by show World.ownsRow _ _ _ _ _ _ _;rw[hV];exact HO.o
      have M:Hid (Below w.heap.size w V):=by show Below _ _ _;rw[hV];exact lJ HB.o _
      have a1:Hid (∀j,u3.ownBlock=some j->w.heap.size+1<=j/\j<V.heap.size):=N.o.lt;have aj:w.heap.size<V.heap.size:=aM O.o;clear hV l0 l1 J HO HB;have HN:Hid ((V.alloc (.cells #[I (k:Int),I 1,I ((x-1)%8/2),.bool (decide (8<=x-1))] 139)).heap[V.heap.size]?=some (.cells #[I (k:Int),I 1,I ((x-1)%8/2),.bool (decide (8<=x-1))] 139 (0,0))):=bG _ _ _;go_wp2_with (at_builtin;refine Ku _ rfl _ _ 22 rfl (w.heap.size+1) 139 i0 (.agg #[I 0,I 0,I 0,.bool false]) 4 32 underlying22 hi ab aa a6 rfl Δ _ _ _ rfl (N.o.alloc _) (Ad V.heap.size 0) 1 1 [I (k:Int),I 1,I ((x-1)%8/2),.bool (decide (8<=x-1))] rfl rfl (EW HN.o) (rq [⟨(k:Int),1,(x-1)%8/2,decide (8<=x-1)⟩]) Δ (by unfold maxLen;omega) ω (by simp;omega) (V.heap.size+1) ξ ?_);intro g cap w1 A b a8 ad;have bX:=EY (bB O.o (.cells #[I (k:Int),I 1,I ((x-1)%8/2),.bool (decide (8<=x-1))] 139)) b (λe=>by have:=a1.out _ e.symm;omega);have a7:Hid (w1.ownsRow (w.heap.size+1) 139 4 (Value.slice (some (Ad g 0)) (G.length+1) cap) (G.length+1) (b9 G++[I (k:Int),I 1,I ((x-1)%8/2),.bool (decide (8<=x-1))])):=A;have a3:Hid (w1.heap[w.heap.size]?=some (.cells C 245 (0,0))):=bX;have dz:Hid (Below w.heap.size w w1):=(M.o.alloc M.o.size _).grown b (by simp;omega) (λk' e=>by have:=a1.out _ e;omega);clear bX A b a8
      go_wp2;go_roundw
      case rel =>
       refine⟨k+1,ω,ω,by go_num,?_,a3.o,dz.o⟩;rw[HG.o,gM,uC];have h:=a7.o;rw[a9.o,Cv.o] at h;exact h
      case measure=>simp[intOf];omega
    have Y:s.m=false:=by simpa using hm
    have R:=(acb s r.1).2 Y;have HG:Hid (cj F (k+1)=cj F k):=by show _=_;simp only[cj];rw[<- HS.o,Y];rfl
    rw[R] at l0;clear hm R;go_wp2;go_roundw
    case rel =>
     refine⟨k+1,ω,ω,by go_num,?_,J.o,HB.o⟩;rw[HG.o];exact HO.o
    case measure=>simp[intOf];omega
  obtain rfl:k=256:=by omega
  clear L hx hb;go_wp2;go_ret;refine⟨_,rfl,?_,HB.o⟩;exact eO.mono (lo:=w.heap.size+1) HO.o (iO _)
theorem S4 (F:Nat->dg) (hF:nI F) (w:World) :
  Calls prog 137 #[.agg (jD (λn=>qF (F n)))] w λe w'=>∃v,e=.returned v/\eN w' v (gH F)/\Below w.heap.size w w':=(S0 F hF w).mono λ_ _ ⟨v,h1,h2,h3⟩=>⟨v,h1,h2.has,h3⟩
theorem agW (l m:List aU) (hl:l.length=m.length) (h:∀i,i<l.length->bw l i=bw m i):l=m:=by
 apply D7
 grind [bw]
theorem Zm (l m:List aU) (b off cap b2 ZL cap2:Nat) (w:World) (hl:ru w b off l) (hm:ru w b2 ZL m) (hlen:l.length=m.length) (hn:l.length<=140737488351232) :
  Calls prog 86 #[.slice (some (Ad b off)) l.length cap,.slice (some (Ad b2 ZL)) m.length cap2] w λe w'=>∃r:Bool,e=.returned (.bool r)/\(r=true↔l=m)/\Below w.heap.size w w':=by
 rw[<- hlen];have A:Hid (l.length=m.length):=hlen;clear hlen;go_enter func86,ntmps86;go_wp2;go_loopw [5] (λi wr=>∃k:Nat,k<=l.length/\i=I k/\(∀j,j<k->bw l j=bw m j)/\Below w.heap.size w wr) (λi _=>l.length-(intOf i).toNat)
 case atStart=>grind [Below.refl]
 case round =>
  obtain⟨k,hk,rfl,hj,hb⟩:=hrel;have HJ:Hid (∀j,j<k->bw l j=bw m j):=hj;have HB:Hid (Below w.heap.size w wr):=hb;by_cases hlt:k<l.length
  . obtain⟨c0,c1,c2,c3⟩:=hl.below hb k hlt;obtain⟨e0,e1,e2,e3⟩:=hm.below hb k (by rw[<- A.out];exact hlt);obtain⟨a,ha⟩:=ex (bw l k);obtain⟨d,hd⟩:=ex (bw m k);rw[<- ha] at c0 c1 c2 c3;rw[<- hd] at e0 e1 e2 e3;have HA:Hid (a=bw l k):=ha;have HD:Hid (d=bw m k):=hd;clear ha hd hj hb;have Il:(k:Int)<(l.length:Int):=by omega
    obtain⟨p1,n1,q1,z1⟩:=a;obtain⟨p2,n2,q2,z2⟩:=d;simp only at c0 c1 c2 c3 e0 e1 e2 e3;have G:(p1==p2)=false\/(p1=p2/\(n1==n2)=false)\/(p1=p2/\n1=n2/\(q1==q2)=false)\/(p1=p2/\n1=n2/\q1=q2/\z2=!z1)\/(p1=p2/\n1=n2/\q1=q2/\z1=z2):=by
     by_cases h1:p1=p2
     . by_cases h2:n1=n2
       . by_cases h3:q1=q2
         . by_cases h4:z1=z2
           . exact .inr (.inr (.inr (.inr ⟨h1,h2,h3,h4⟩)))
           exact .inr (.inr (.inr (.inl ⟨h1,h2,h3,by cases z1 <;> cases z2 <;> simp_all⟩)))
         exact .inr (.inr (.inl ⟨h1,h2,by simp[h3]⟩))
       grind
     grind
    have B:∀h:¬((⟨p1,n1,q1,z1⟩:aU)=⟨p2,n2,q2,z2⟩),l≠m:=λh e=>h (by rw[HA.o,HD.o,e])
    have q:Hid (¬((⟨p1,n1,q1,z1⟩:aU)=⟨p2,n2,q2,z2⟩)->l≠m):=B;clear B;rcases G with h1 | ⟨h1,h2⟩ | ⟨h1,h2,h3⟩ | ⟨h1,h2,h3,h4⟩ | ⟨h1,h2,h3,h4⟩
    . have y:Hid (l≠m):=q.o (λe=>by have:=dO aU.page e;simp at this;simp[this] at h1);clear q HA HD;go_wp2
      go_quiet (fail)
      go_wp2;go_ret;exact⟨false,rfl,⟨λh=>(by cases h),λh=>absurd h y.out⟩,lJ HB.o _⟩
    . have y:Hid (l≠m):=q.o (λe=>by have:=dO aU.aY e;simp at this;simp[this] at h2);clear q HA HD;subst h1;go_wp2
      go_quiet (fail)
      go_wp2;go_ret;exact⟨false,rfl,⟨λh=>(by cases h),λh=>absurd h y.out⟩,lJ HB.o _⟩
    . have y:Hid (l≠m):=q.o (λe=>by have:=dO aU.gh e;simp at this;simp[this] at h3);clear q HA HD;subst h1;subst h2;go_wp2
      go_quiet (fail)
      go_wp2;go_ret;exact⟨false,rfl,⟨λh=>(by cases h),λh=>absurd h y.out⟩,lJ HB.o _⟩
    . have y:Hid (l≠m):=q.o (λe=>by have:=dO aU.zero e;simp at this;rw[h4] at this;cases z1 <;> simp at this);clear q HA HD;subst h1;subst h2;subst h3;subst h4;go_wp2
      go_quiet (fail)
      go_wp2;go_ret;exact⟨false,rfl,⟨λh=>(by cases h),λh=>absurd h y.out⟩,lJ HB.o _⟩
    have F:Hid (bw l k=bw m k):=by show _=_;rw[<- HA.o,<- HD.o,h1,h2,h3,h4]
    clear q HA HD;subst h1;subst h2;subst h3;subst h4;go_wp2
    go_quiet (fail)
    go_wp2;go_roundw
    case rel=>exact⟨k+1,ω,by go_num,λj hj=>if e:j=k then by rw[e];exact F.out else HJ.o j ω,lJ HB.o _⟩
    case measure=>simp[intOf];omega
  obtain rfl:k=l.length:=by omega
  go_wp2;go_ret;exact⟨true,rfl,⟨λ_=>agW l m A.out HJ.o,λ_=>rfl⟩,HB.o⟩
theorem ab2 (n m:Nat) (ao bo:Option Addr) (c d:Nat) (w:World) (h:n≠m) (hn:n<=140737488351232) (hm:m<=140737488351232) :
  Calls prog 86 #[.slice ao n c,.slice bo m d] w λe w'=>e=.returned (.bool false)/\w=w':=by
 have h':((n:Int) != (m:Int))=true:=by grind
 go_enter func86,ntmps86;go_wp2;go_ret
 simp_all
theorem OS (ao bo:Option Addr) (c d:Nat) (w:World) :
  Calls prog 86 #[.slice ao 0 c,.slice bo 0 d] w λe w'=>e=.returned (.bool true)/\w=w':=by
 go_enter func86,ntmps86;go_wp2;refine zE 1 ?_;rw[zz];go_wp2;go_ret
 simp_all
theorem OT (l m:List aU) (v u:Value) (w:World) (hl:eN w v l) (hm:eN w u m) (hn:l.length<=140737488351232) (Br:m.length<=140737488351232) :
  Calls prog 86 #[v,u] w λe w'=>∃r:Bool,e=.returned (.bool r)/\(r=true↔l=m)/\Below w.heap.size w w':=by
 obtain⟨ao,cap,rfl,h⟩:=hl;obtain⟨bo,q,rfl,h2⟩:=hm;by_cases hlen:l.length=m.length
 . rcases h with rfl | ⟨b,off,rfl,hl⟩
   . have y:m=[]:=mR hlen.symm;subst y;exact(OS ao bo cap q w).mono λe w' ⟨he,hw⟩=>⟨true,he,ξ,by grind [Below.refl]⟩
   rcases h2 with rfl | ⟨b2,ZL,rfl,hm⟩
   . have A:l=[]:=mR hlen;subst A;exact(OS _ bo cap q w).mono λe w' ⟨he,hw⟩=>⟨true,he,ξ,by grind [Below.refl]⟩
   exact Zm l m b off cap b2 ZL q w hl hm hlen hn
 exact(ab2 l.length m.length ao bo cap q w hlen hn Br).mono λe w' ⟨he,hw⟩=>⟨false,he,⟨λh=>(by cases h),λh=>absurd (dO List.length h) hlen⟩,by grind [Below.refl]⟩
end Go.Proofs.YtlgoihmkgaaemaaGreat
