import Derived.Test.YtlgoihmkgaaemaaGreatGP26
set_option maxHeartbeats 20000000
set_option linter.unusedVariables false
set_option maxRecDepth 100000
set_option linter.unusedSimpArgs false
namespace Go.Proofs.YtlgoihmkgaaemaaGreat
open Go.RowKit Tryz
variable {lo mb:Nat} {w w':World} {D:Nat->Prop} {k:aT} {fl:List Bool} {j:Nat}
theorem tM.past {w0 w2 w3:World} {k':aT} (hb:Below w.heap.size w w0) (hD:∀b,D b->b<w.heap.size) (hz:w.heap.size<w0.heap.size) (h:tM lo mb w0 D k' w2) (hk:aI (λb=>b=w.heap.size) w2 w3):tM lo mb w D k' w3:=by
 obtain⟨D',h1,h2,h3⟩:=h;refine⟨D',h1.kp hk (λb hb1 e=>?_),(aI.cA hb).trans ((h2.mono (D1:=λb=>D b\/b=w.heap.size) (λb _ g=>.inl g)).trans (hk.mono (λb _ g=>.inr g)) (λ_ _ g=>g)) (λb hb g=>g.elim id (λe=>ω)),λb hb1=>(h3 b hb1).imp id (λg=>gj hb.size g)⟩;rcases h3 b hb1 with g | g
 . have:=hD b g;omega
 omega
theorem L9 (ho:gQ k fl) (hl:fl.getD j false=true):cR (j:Int):=by
 have:=(ho.at_ hl).1;have:=ho.right.c.2.2.1.2;exact⟨ω,ω⟩
theorem GL (N:List aU×Int) (F G:FuncId) (xs:Array Value) (hF:(F=255/\G=263/\∃p n q:Int,xs=#[I p,I n,I q])\/(F=258/\G=266/\∃p n:Int,xs=#[I p,I n])\/(F=256/\G=264/\∃p n q:Int,xs=#[I p,I n,I q]))
  (h:iC lo mb w D k) (ho:gQ k fl) (hl:fl.getD j false=true) (hcl:∀hs a,iB w a (aV k hs)->kN (aV k hs)->cR (j:Int)->Calls prog G (#[.agg (bj a (aV k hs)),I (j:Int)]++xs) w (dY w (jM (aV k hs) j N).1 [I (jM (aV k hs) j N).2])) :
  Calls prog F (#[.pointer (some (Ad mb 0)),I (j:Int)]++xs) w (qA (iC lo mb) w D (I (je k j N).1) (je k j N).2):=by
 obtain⟨⟨hs,a,_,_,s,hc,hK,_,_,_,_⟩,hb⟩:=id h;obtain⟨K,eK,hA⟩:=aa6 ho hl s N;generalize je k j N=R at eK hA ⊢;obtain⟨er,k'⟩:=R;simp only at eK hA ⊢;have hC:=hcl hs a (hK w (aI.refl _ _)) (ug (ho.right.Al s)) (L9 ho hl);rw[eK] at hC;have HC:Hid (Calls prog G (#[.agg (bj a (aV k hs)),I (j:Int)]++xs) w λe w1=>∃s0 n0 q0 s1 n1 q1 s2 n2 q2 s3 n3 q3 hd,e=.returned (.tuple #[.agg #[.slice s0 n0 q0,.slice s1 n1 q1,.slice s2 n2 q2,.slice s3 n3 q3,I hd],I er])/\Below w.heap.size w w1/\∀w2,aI (λb=>b=mb) w1 w2->w2.heap[mb]?=some (.cells (if er=0 then #[.slice s0 n0 q0,.slice s1 n1 q1,.slice s2 n2 q2,.slice s3 n3 q3,I hd] else bj a (aV k hs)) 185 (0,0))->tM lo mb w D k' w2):=hC.mono λe w1 ho=>by
  obtain⟨s0,n0,q0,s1,n1,q1,s2,n2,q2,s3,n3,q3,hd,rfl,A,r⟩:=GM h hc s hA ho;exact⟨_,_,_,_,_,_,_,_,_,_,_,_,_,rfl,A,λw2 x y=>r w2 x y⟩
 have HP:Hid (∀w2,tM lo mb w D k' w2->qA (iC lo mb) w D (I er) k' (.returned (I er)) w2):=λw2 ⟨D',a1,a2,a3⟩=>⟨D',rfl,a1,a2,a3⟩
 generalize qA (iC lo mb) w D (I er) k'=P at HP ⊢;have A6:=ai hc;clear hC eK hA h hK ho hl hc hcl;generalize aV k hs=K0 at HC A6;unfold bj at HC A6;generalize K0.aD.length=m0,K0.frames.length=m1,K0.slots.length=m2,K0.aj.length=m3,K0.hand=m4 at HC A6;clear s;obtain⟨c0,c1,c2,c3,c4⟩:=kj A6.o;rcases hF with⟨rfl,rfl,p,n,q,rfl⟩ | ⟨rfl,rfl,p,n,rfl⟩ | ⟨rfl,rfl,p,n,q,rfl⟩
 all_goals
  simp only[List.append_toArray,Hi,P9] at HC ⊢
  first | go_enter func255,ntmps255 | go_enter func258,ntmps258 | go_enter func256,ntmps256
  go_wp2_with (first
   | ((first | go_at_call 263 | go_at_call 266 | go_at_call 264);refine HC.o.mono ?_;rintro e w1 ⟨s0,n0,q0,s1,n1,q1,s2,n2,q2,s3,n3,q3,hd,rfl,A,r⟩;have dz:=ai A;have L:=ai r;clear A r)
   | (go_at_call 259;refine(yY mb _ _ _ _ _ _ _ _ _ _ _ _ _ _ _ _ _ _ _ _ (aO A6.o dz.o (aM A6.o))).mono ?_;rintro e w2 ⟨rfl,J,B⟩;have PF:=ai (L.o _ J B);clear J B))
  exact HP.o _ PF.o
theorem aa9  (h:iC lo mb w D k) (ho:gQ k fl) (hl:fl.getD j false=true) :
  Calls prog 253 #[.pointer (some (Ad mb 0)),I (j:Int)] w (qA (iC lo mb) w D (I (jf k j).1) (jf k j).2):=by
 obtain⟨⟨hs,a,_,_,s,hc,hK,_,_,_,_⟩,hb⟩:=id h;obtain⟨K,x,eK,hA⟩:=aba ho hl s;generalize jf k j=R at eK hA ⊢;obtain⟨er,k'⟩:=R;simp only at eK hA ⊢;have hC:=aaq wM (aV k hs) a j w (hK w (aI.refl _ _)) (ug (ho.right.Al s)) (L9 ho hl);rw[eK] at hC;have HC:Hid (Calls prog 261 #[.agg (bj a (aV k hs)),I (j:Int)] w λe w1=>∃s0 n0 q0 s1 n1 q1 s2 n2 q2 s3 n3 q3 hd,e=.returned (.tuple #[.agg #[.slice s0 n0 q0,.slice s1 n1 q1,.slice s2 n2 q2,.slice s3 n3 q3,I hd],I x,I er])/\Below w.heap.size w w1/\∀w2,aI (λb=>b=mb) w1 w2->w2.heap[mb]?=some (.cells (if er=0 then #[.slice s0 n0 q0,.slice s1 n1 q1,.slice s2 n2 q2,.slice s3 n3 q3,I hd] else bj a (aV k hs)) 185 (0,0))->tM lo mb w D k' w2):=hC.mono λe w1 ho=>by
  obtain⟨s0,n0,q0,s1,n1,q1,s2,n2,q2,s3,n3,q3,hd,rfl,r,q⟩:=GM h hc s hA ho;exact⟨_,_,_,_,_,_,_,_,_,_,_,_,_,rfl,r,λw2 x y=>q w2 x y⟩
 obtain⟨P,hP⟩:=ex (qA (iC lo mb) w D (I er) k');have HP:Hid (∀w2,tM lo mb w D k' w2->P (.returned (I er)) w2):=λw2 ⟨D',a1,a2,a3⟩=>by rw[hP];exact⟨D',rfl,a1,a2,a3⟩
 rw[<- hP];have A6:=ai hc;clear hC eK hA hP h hK ho hl hc;generalize aV k hs=K0 at HC A6;unfold bj at HC A6;generalize K0.aD.length=m0,K0.frames.length=m1,K0.slots.length=m2,K0.aj.length=m3,K0.hand=m4 at HC A6;clear s;obtain⟨c0,c1,c2,c3,c4⟩:=kj A6.o;go_enter func253,ntmps253;go_wp2_with (first
  | (go_at_call 261;refine HC.o.mono ?_;rintro e w1 ⟨s0,n0,q0,s1,n1,q1,s2,n2,q2,s3,n3,q3,hd,rfl,r,q⟩;have dz:=ai r;have F:=ai q;have HX:=ai ((aN w1.heap.size w1).alloc (aJ _) (.cells #[.slice s0 n0 q0,.slice s1 n1 q1,.slice s2 n2 q2,.slice s3 n3 q3,I hd] 30));clear r q)
  | (go_at_call 259;refine(yY mb _ _ _ _ _ _ _ _ _ _ _ _ _ _ _ _ _ _ _ _ (aO (aO A6.o dz.o (aM A6.o)) HX.o (gm (aM A6.o) dz.o.size))).mono ?_;rintro e w2 ⟨rfl,B,A⟩;have PF:=ai (F.o _ ((aI.cA HX.o).trans B (λ_ _ g=>g)) A);clear B A))
 exact HP.o _ PF.o
theorem abb  (h:iC lo mb w D k) (ho:gQ k fl) (hl:fl.getD j false=true) :
  Calls prog 252 #[.pointer (some (Ad mb 0)),I (j:Int)] w (qA (iC lo mb) w D (.tuple #[]) (ql k j)):=by
 obtain⟨⟨hs,a,_,_,s,hc,hK,_,_,_,_⟩,hb⟩:=id h;obtain⟨eK,hS⟩:=abc ho hl s;generalize ql k j=k' at eK hS ⊢;have hA:Np k (aV k' hs) k' hs True:=⟨λ_=>⟨rfl,hS⟩,λg=>absurd trivial g⟩;have hC:=aar wM (aV k hs) a j w (hK w (aI.refl _ _)) (ug (ho.right.Al s)) (L9 ho hl);rw[eK] at hC;have HC:Hid (Calls prog 260 #[.agg (bj a (aV k hs)),I (j:Int)] w λe w1=>∃s0 n0 q0 s1 n1 q1 s2 n2 q2 s3 n3 q3 hd,e=.returned (.tuple #[.agg #[.slice s0 n0 q0,.slice s1 n1 q1,.slice s2 n2 q2,.slice s3 n3 q3,I hd],I 0])/\Below w.heap.size w w1/\∀w2,aI (λb=>b=mb) w1 w2->w2.heap[mb]?=some (.cells (if True then #[.slice s0 n0 q0,.slice s1 n1 q1,.slice s2 n2 q2,.slice s3 n3 q3,I hd] else bj a (aV k hs)) 185 (0,0))->tM lo mb w D k' w2):=hC.mono λe w1 ho=>by
  obtain⟨s0,n0,q0,s1,n1,q1,s2,n2,q2,s3,n3,q3,hd,rfl,r,q⟩:=GM h hc s hA ho;exact⟨_,_,_,_,_,_,_,_,_,_,_,_,_,rfl,r,λw2 x y=>q w2 x y⟩
 obtain⟨P,hP⟩:=ex (qA (iC lo mb) w D (.tuple #[]) k');have HP:Hid (∀w2,tM lo mb w D k' w2->P (.returned (.tuple #[])) w2):=λw2 ⟨D',a1,a2,a3⟩=>by rw[hP];exact⟨D',rfl,a1,a2,a3⟩
 rw[<- hP];have A6:=ai hc;clear hC eK hA hP h hK ho hl hc;generalize aV k hs=K0 at HC A6;unfold bj at HC A6;generalize K0.aD.length=m0,K0.frames.length=m1,K0.slots.length=m2,K0.aj.length=m3,K0.hand=m4 at HC A6;clear s;obtain⟨c0,c1,c2,c3,c4⟩:=kj A6.o;go_enter func252,ntmps252;go_wp2_with (first
  | (go_at_call 260;refine HC.o.mono ?_;rintro e w1 ⟨s0,n0,q0,s1,n1,q1,s2,n2,q2,s3,n3,q3,hd,rfl,r,q⟩;have dz:=ai r;have F:=ai q;clear r q)
  | (go_at_call 259;refine(yY mb _ _ _ _ _ _ _ _ _ _ _ _ _ _ _ _ _ _ _ _ (aO A6.o dz.o (aM A6.o))).mono ?_;rintro e w2 ⟨rfl,B,A⟩;have PF:=ai (F.o _ B (by rw[aQ trivial];exact A));clear B A))
 exact vY (v:=.tuple #[]) (by simp[results,results252,go_sem]) rfl (HP.o _ PF.o)
variable {lo mb:Nat} {w w':World} {D:Nat->Prop} {k:aT} {fl:List Bool} {j:Nat}
theorem aa7 (ad n way:Int) (h:iC lo mb w D k) (ho:gQ k fl) (hl:fl.getD j false=true) (had:cR ad) (h1:1<=n) (h8:n<=8) (hw:way=0\/way=2) :
  Calls prog 254 #[.pointer (some (Ad mb 0)),I (j:Int),I ad,I n,I way] w (qA (iC lo mb) w D (.tuple #[.string (iG k j ad n way).1.1,.agg (il (iG k j ad n way).1.2)]) (iG k j ad n way).2):=by
 obtain⟨WA,lQ⟩:=ex (w.alloc (.cells #[I 0,I 0] 75));have F:Below w.heap.size w WA:=by rw[lQ];exact(aN _ _).alloc (aJ _) _
 have hz:=bG w #[I 0,I 0] 75;rw[<- lQ] at hz;have hD:∀b,D b->b<w.heap.size:=λb g=>(h.dom b g).2
 have O:w.heap.size<WA.heap.size:=by rw[lQ];simp
 have h:=h.kp (aI.cA (D:=λ_=>False) F) (λ_ _ g=>g);obtain⟨⟨hs,a,_,_,s,hc,hK,_,_,_,_⟩,hb⟩:=id h;obtain⟨K,eK,hA⟩:=aa8 ho hl s ad n way h1 h8 hw;generalize iG k j ad n way=R at eK hA ⊢;obtain⟨⟨str,f1,f2⟩,k'⟩:=R;simp only at eK hA ⊢;have hC:=aap wM (aV k hs) a j ad n way WA (hK WA (aI.refl _ _)) (ug (ho.right.Al s)) (L9 ho hl) had;rw[eK] at hC;have HC:Hid (Calls prog 262 #[.agg (bj a (aV k hs)),I (j:Int),I ad,I n,I way] WA λe w1=>∃s0 n0 q0 s1 n1 q1 s2 n2 q2 s3 n3 q3 hd,e=.returned (.tuple #[.agg #[.slice s0 n0 q0,.slice s1 n1 q1,.slice s2 n2 q2,.slice s3 n3 q3,I hd],.string str,.agg #[I f1,I f2],I 0])/\Below WA.heap.size WA w1/\∀w2,aI (λb=>b=mb) w1 w2->w2.heap[mb]?=some (.cells (if f1=0 then #[.slice s0 n0 q0,.slice s1 n1 q1,.slice s2 n2 q2,.slice s3 n3 q3,I hd] else bj a (aV k hs)) 185 (0,0))->tM lo mb WA D k' w2):=hC.mono λe w1 ho=>by
  obtain⟨s0,n0,q0,s1,n1,q1,s2,n2,q2,s3,n3,q3,hd,rfl,r,q⟩:=GM h hc s hA ho;exact⟨_,_,_,_,_,_,_,_,_,_,_,_,_,rfl,r,λw2 x y=>q w2 x y⟩
 obtain⟨P,hP⟩:=ex (qA (iC lo mb) w D (.tuple #[.string str,.agg (il (f1,f2))]) k');have HP:Hid (∀w2 w3,tM lo mb WA D k' w2->aI (λb=>b=w.heap.size) w2 w3->P (.returned (.tuple #[.string str,.agg #[I f1,I f2]])) w3):=λw2 w3 g1 g2=>by obtain⟨D',a1,a2,a3⟩:=g1.past F hD O g2;rw[hP];exact⟨D',rfl,a1,a2,a3⟩
 rw[<- hP];have HZ:=ai (λV (g:Below WA.heap.size WA V)=>aO hz g (aM hz));have eB:=ai F;have ot:=ai lQ;have U:Hid (mb<w.heap.size):=hD mb h.inD;have A6:=ai hc;clear hz F hD O h1 h8 hw had hC eK hA hP h hK ho hl hc;generalize aV k hs=K0 at HC A6;unfold bj at HC A6;generalize K0.aD.length=m0,K0.frames.length=m1,K0.slots.length=m2,K0.aj.length=m3,K0.hand=m4 at HC A6;clear s;obtain⟨c0,c1,c2,c3,c4⟩:=kj A6.o;rw[lQ] at c0 c1 c2 c3 c4;have HC:Hid (Calls _ _ _ (w.alloc (.cells #[I 0,I 0] 75)) _):=lQ ▸ HC;clear lQ;by_cases c:f1=0
 . subst c;go_enter func254,ntmps254;go_wp2_with (first
    | (go_at_call 262;refine HC.o.mono ?_;rintro e w1 ⟨s0,n0,q0,s1,n1,q1,s2,n2,q2,s3,n3,q3,hd,rfl,r,q⟩;rw[<- ot.o] at r;have dz:=ai r;have J:=ai q;have HX:=ai (((aN w1.heap.size w1).alloc (aJ _) (.cells #[.slice s0 n0 q0,.slice s1 n1 q1,.slice s2 n2 q2,.slice s3 n3 q3,I hd] 30)).alloc ξ (.cells #[I 0,I f2] 75));have hq:=bG (w1.alloc (.cells #[.slice s0 n0 q0,.slice s1 n1 q1,.slice s2 n2 q2,.slice s3 n3 q3,I hd] 30)) #[I 0,I f2] 75;rw[fp] at hq;have HQ:=ai hq;have L:=ai (HZ.o _ (dz.o.trans (HX.o.mono dz.o.size)));clear hq;clear r q)
    | (go_at_call 259;refine(yY mb _ _ _ _ _ _ _ _ _ _ _ _ _ _ _ _ _ _ _ _ (aO (aO A6.o dz.o (aM A6.o)) HX.o (gm (aM A6.o) dz.o.size))).mono ?_;rintro e w2 ⟨rfl,M,G⟩;have PF:=ai (J.o _ ((aI.cA HX.o).trans M (λ_ _ g=>g)) (by first | exact G | simpa using G));have Aa:=ai M;clear M G;have Q:¬w.heap.size=mb:=(λg=>by have:=U.o;omega);have B:=Aa.o.keep L.o Q;have N:=Aa.o.keep HQ.o (λg=>by have:=aM A6.o;have:=dz.o.size;omega);obtain⟨y0,y1⟩:=s8 N;obtain⟨z0,z1⟩:=s8 B;have g0:=br B 0;have g1:=br B 1;clear B N Q))
   have Mk:Hid (tM lo mb WA D k' w2):=by rw[ot.o];exact PF.o
   go_region;go_wp2;refine bW (v:=.tuple #[.string str,.agg #[I 0,I f2]]) (by simp[results,results254,go_sem,z0,z1]) rfl ?_;refine HP.o _ _ Mk.o ?_;have kk:∀(A:World) (i:Nat) (v:Value),aI (λb=>b=w.heap.size) A (A.setCell (Ad w.heap.size i) v):=λA i v=>aI.set _ A (Ad w.heap.size i) v rfl
   first | exact((kk _ _ _).trans (kk _ _ _) (λ_ _ g=>g)).trans (aI.drew _ _) (λ_ _ g=>g) | exact(aI.drew _ _).trans ((kk _ _ _).trans (kk _ _ _) (λ_ _ g=>g)) (λ_ _ g=>g)
 have cb:(f1==0)=false:=by grind
 have T:=ai c;clear c;go_enter func254,ntmps254;go_wp2_with (first
  | (go_at_call 262;refine HC.o.mono ?_;rintro e w1 ⟨s0,n0,q0,s1,n1,q1,s2,n2,q2,s3,n3,q3,hd,rfl,r,q⟩;rw[<- ot.o] at r;have dz:=ai r;have J:=ai q;have HX:=ai (((aN w1.heap.size w1).alloc (aJ _) (.cells #[.slice s0 n0 q0,.slice s1 n1 q1,.slice s2 n2 q2,.slice s3 n3 q3,I hd] 30)).alloc ξ (.cells #[I f1,I f2] 75));have hq:=bG (w1.alloc (.cells #[.slice s0 n0 q0,.slice s1 n1 q1,.slice s2 n2 q2,.slice s3 n3 q3,I hd] 30)) #[I f1,I f2] 75;rw[fp] at hq;have HQ:=ai hq;have L:=ai (HZ.o _ (dz.o.trans (HX.o.mono dz.o.size)));clear hq;have B:=L.o;obtain⟨y0,y1⟩:=s8 HQ.o;obtain⟨z0,z1⟩:=s8 B;have g0:=br B 0;have g1:=br B 1;clear B;clear r q)
  | fail)
 have Mk:=ai (J.o _ (aI.cA HX.o) (by rw[aH T.o];exact(aO (aO A6.o dz.o (aM A6.o)) HX.o (gm (aM A6.o) dz.o.size))));rw[<- ot.o] at Mk;go_region;go_wp2;refine bW (v:=.tuple #[.string str,.agg #[I f1,I f2]]) (by simp[results,results254,go_sem,z0,z1]) rfl ?_;refine HP.o _ _ Mk.o ?_;have kk:∀(A:World) (i:Nat) (v:Value),aI (λb=>b=w.heap.size) A (A.setCell (Ad w.heap.size i) v):=λA i v=>aI.set _ A (Ad w.heap.size i) v rfl
 first | exact((kk _ _ _).trans (kk _ _ _) (λ_ _ g=>g)).trans (aI.drew _ _) (λ_ _ g=>g) | exact(aI.drew _ _).trans ((kk _ _ _).trans (kk _ _ _) (λ_ _ g=>g)) (λ_ _ g=>g)
theorem Ym (ad:Int) (d:ByteArray) (h:iC lo mb w D k) (ho:gQ k fl) (hl:fl.getD j false=true) (had:cR ad) (h1:1<=d.size) (h8:d.size<=8) :
  Calls prog 257 #[.pointer (some (Ad mb 0)),I (j:Int),I ad,.string d] w (qA (iC lo mb) w D (.agg (il (jQ k j ad d).1)) (jQ k j ad d).2):=by
 obtain⟨WA,lQ⟩:=ex (w.alloc (.cells #[I 0,I 0] 75));have F:Below w.heap.size w WA:=by rw[lQ];exact(aN _ _).alloc (aJ _) _
 have hz:=bG w #[I 0,I 0] 75;rw[<- lQ] at hz;have hD:∀b,D b->b<w.heap.size:=λb g=>(h.dom b g).2
 have O:w.heap.size<WA.heap.size:=by rw[lQ];simp
 have h:=h.kp (aI.cA (D:=λ_=>False) F) (λ_ _ g=>g);obtain⟨⟨hs,a,_,_,s,hc,hK,_,_,_,_⟩,hb⟩:=id h;obtain⟨K,eK,hA⟩:=Yn ho hl s ad d h1 h8;generalize jQ k j ad d=R at eK hA ⊢;obtain⟨⟨f1,f2⟩,k'⟩:=R;simp only at eK hA ⊢;have hC:=Xl wM (aV k hs) a j ad d WA (hK WA (aI.refl _ _)) (ug (ho.right.Al s)) (L9 ho hl) had;rw[eK] at hC;have HC:Hid (Calls prog 265 #[.agg (bj a (aV k hs)),I (j:Int),I ad,.string d] WA λe w1=>∃s0 n0 q0 s1 n1 q1 s2 n2 q2 s3 n3 q3 hd,e=.returned (.tuple #[.agg #[.slice s0 n0 q0,.slice s1 n1 q1,.slice s2 n2 q2,.slice s3 n3 q3,I hd],.agg #[I f1,I f2],I 0])/\Below WA.heap.size WA w1/\∀w2,aI (λb=>b=mb) w1 w2->w2.heap[mb]?=some (.cells (if f1=0 then #[.slice s0 n0 q0,.slice s1 n1 q1,.slice s2 n2 q2,.slice s3 n3 q3,I hd] else bj a (aV k hs)) 185 (0,0))->tM lo mb WA D k' w2):=hC.mono λe w1 ho=>by
  obtain⟨s0,n0,q0,s1,n1,q1,s2,n2,q2,s3,n3,q3,hd,rfl,r,q⟩:=GM h hc s hA ho;exact⟨_,_,_,_,_,_,_,_,_,_,_,_,_,rfl,r,λw2 x y=>q w2 x y⟩
 obtain⟨P,hP⟩:=ex (qA (iC lo mb) w D (.agg (il (f1,f2))) k');have HP:Hid (∀w2 w3,tM lo mb WA D k' w2->aI (λb=>b=w.heap.size) w2 w3->P (.returned (.agg #[I f1,I f2])) w3):=λw2 w3 g1 g2=>by obtain⟨D',a1,a2,a3⟩:=g1.past F hD O g2;rw[hP];exact⟨D',rfl,a1,a2,a3⟩
 rw[<- hP];have HZ:=ai (λV (g:Below WA.heap.size WA V)=>aO hz g (aM hz));have eB:=ai F;have ot:=ai lQ;have U:Hid (mb<w.heap.size):=hD mb h.inD;have A6:=ai hc;clear hz F hD O h1 h8 had hC eK hA hP h hK ho hl hc;generalize aV k hs=K0 at HC A6;unfold bj at HC A6;generalize K0.aD.length=m0,K0.frames.length=m1,K0.slots.length=m2,K0.aj.length=m3,K0.hand=m4 at HC A6;clear s;obtain⟨c0,c1,c2,c3,c4⟩:=kj A6.o;rw[lQ] at c0 c1 c2 c3 c4;have HC:Hid (Calls _ _ _ (w.alloc (.cells #[I 0,I 0] 75)) _):=lQ ▸ HC;clear lQ;by_cases c:f1=0
 . subst c;go_enter func257,ntmps257;go_wp2_with (first
    | (go_at_call 265;refine HC.o.mono ?_;rintro e w1 ⟨s0,n0,q0,s1,n1,q1,s2,n2,q2,s3,n3,q3,hd,rfl,r,q⟩;rw[<- ot.o] at r;have dz:=ai r;have J:=ai q;have HX:=ai (((aN w1.heap.size w1).alloc (aJ _) (.cells #[.slice s0 n0 q0,.slice s1 n1 q1,.slice s2 n2 q2,.slice s3 n3 q3,I hd] 30)).alloc ξ (.cells #[I 0,I f2] 75));have hq:=bG (w1.alloc (.cells #[.slice s0 n0 q0,.slice s1 n1 q1,.slice s2 n2 q2,.slice s3 n3 q3,I hd] 30)) #[I 0,I f2] 75;rw[fp] at hq;have HQ:=ai hq;have L:=ai (HZ.o _ (dz.o.trans (HX.o.mono dz.o.size)));clear hq;clear r q)
    | (go_at_call 259;refine(yY mb _ _ _ _ _ _ _ _ _ _ _ _ _ _ _ _ _ _ _ _ (aO (aO A6.o dz.o (aM A6.o)) HX.o (gm (aM A6.o) dz.o.size))).mono ?_;rintro e w2 ⟨rfl,M,G⟩;have PF:=ai (J.o _ ((aI.cA HX.o).trans M (λ_ _ g=>g)) (by first | exact G | simpa using G));have Aa:=ai M;clear M G;have Q:¬w.heap.size=mb:=(λg=>by have:=U.o;omega);have B:=Aa.o.keep L.o Q;have N:=Aa.o.keep HQ.o (λg=>by have:=aM A6.o;have:=dz.o.size;omega);obtain⟨y0,y1⟩:=s8 N;obtain⟨z0,z1⟩:=s8 B;have g0:=br B 0;have g1:=br B 1;clear B N Q))
   have Mk:Hid (tM lo mb WA D k' w2):=by rw[ot.o];exact PF.o
   skip
   refine bW (v:=.agg #[I 0,I f2]) (by simp[results,results257,go_sem,z0,z1]) rfl ?_;refine HP.o _ _ Mk.o ?_;have kk:∀(A:World) (i:Nat) (v:Value),aI (λb=>b=w.heap.size) A (A.setCell (Ad w.heap.size i) v):=λA i v=>aI.set _ A (Ad w.heap.size i) v rfl
   exact(kk _ _ _).trans (kk _ _ _) (λ_ _ g=>g)
 have cb:(f1==0)=false:=by grind
 have T:=ai c;clear c;go_enter func257,ntmps257;go_wp2_with (first
  | (go_at_call 265;refine HC.o.mono ?_;rintro e w1 ⟨s0,n0,q0,s1,n1,q1,s2,n2,q2,s3,n3,q3,hd,rfl,r,q⟩;rw[<- ot.o] at r;have dz:=ai r;have J:=ai q;have HX:=ai (((aN w1.heap.size w1).alloc (aJ _) (.cells #[.slice s0 n0 q0,.slice s1 n1 q1,.slice s2 n2 q2,.slice s3 n3 q3,I hd] 30)).alloc ξ (.cells #[I f1,I f2] 75));have hq:=bG (w1.alloc (.cells #[.slice s0 n0 q0,.slice s1 n1 q1,.slice s2 n2 q2,.slice s3 n3 q3,I hd] 30)) #[I f1,I f2] 75;rw[fp] at hq;have HQ:=ai hq;have L:=ai (HZ.o _ (dz.o.trans (HX.o.mono dz.o.size)));clear hq;have B:=L.o;obtain⟨y0,y1⟩:=s8 HQ.o;obtain⟨z0,z1⟩:=s8 B;have g0:=br B 0;have g1:=br B 1;clear B;clear r q)
  | fail)
 have Mk:=ai (J.o _ (aI.cA HX.o) (by rw[aH T.o];exact(aO (aO A6.o dz.o (aM A6.o)) HX.o (gm (aM A6.o) dz.o.size))));rw[<- ot.o] at Mk
 skip
 refine bW (v:=.agg #[I f1,I f2]) (by simp[results,results257,go_sem,z0,z1]) rfl ?_;refine HP.o _ _ Mk.o ?_;have kk:∀(A:World) (i:Nat) (v:Value),aI (λb=>b=w.heap.size) A (A.setCell (Ad w.heap.size i) v):=λA i v=>aI.set _ A (Ad w.heap.size i) v rfl
 exact(kk _ _ _).trans (kk _ _ _) (λ_ _ g=>g)
theorem QA (lo mb:Nat):jc lo mb (iC lo mb) gQ dN where
 kp:=λw w' D E s h hk hd=>h.kp hk hd
 dom:=λw D s h=>h.dom
 ok:=jF
 load:=λw D s fl k a n way h ho hl ha h1 h8 hw=>aa7 a n way h ho hl ha h1 h8 hw
 store:=λw D s fl k a d h ho hl ha h1 h8=>Ym a d h ho hl ha h1 h8
 map:=λw D s fl k p n q h ho hl hp hn=>GL (jz (iD s k) p n q) _ _ #[I p,I n,I q] (.inl ⟨rfl,rfl,p,n,q,rfl⟩) h ho hl (λhs a hK hF hj=>ada wM (aV s hs) a k p n q w hK hF hj hp hn)
 ry:=λw D s fl k p n h ho hl hp hn=>GL (gL (iD s k) p n) _ _ #[I p,I n] (.inr (.inl ⟨rfl,rfl,p,n,rfl⟩)) h ho hl (λhs a hK hF hj=>Xk wM (aV s hs) a k p n w hK hF hj hp hn)
 kL:=λw D s fl k p n q h ho hl hp hn=>GL (fV (iD s k) p n q) _ _ #[I p,I n,I q] (.inr (.inr ⟨rfl,rfl,p,n,q,rfl⟩)) h ho hl (λhs a hK hF hj=>Rk wM (aV s hs) a k p n q w hK hF hj hp hn)
 fork:=λw D s fl k h ho hl=>aa9 h ho hl
 drop:=λw D s fl k h ho hl=>abb h ho hl
theorem Sh (l:List bQ) (o:List ra) (lv:Nat->Bool) (ar ao:Option Addr) (cr co P:Nat) (w:World) (h:sZ w ar l) (ho:um w ao o) (hn:l.length<=140737488351232) (hno:o.length<=140737488351232)
  (hlv:∀k,k<l.length->∀V,Below w.heap.size w V->Calls prog 89 #[I (k:Int),.pointer (some (Ad P 0))] V λe w'=>e=.returned (.bool (lv k))/\Below V.heap.size V w') :
  Calls prog 88 #[.slice ar l.length cr,.slice ao o.length co,.func (.func 89) #[] #[.pointer (some (Ad P 0))]] w λe w'=>e=.returned (.bool (iK l o lv))/\Below w.heap.size w w':=by
 have HH:=ai h;have HO:=ai ho;have YI:=ai hlv;have a5:Hid (∀k,gT l lv (k+1)=(gT l lv k&&vV l lv k)):=λk=>rfl
 have R:Hid (∀k,k<=l.length->gT l lv k=false->iK l o lv=false):=λk hk e=>by
  unfold iK;rw[Bi e _ hk,qK]
 have a4:Hid (∀k,k<=o.length->fK o l.length k=false->iK l o lv=false):=λk hk e=>by
  unfold iK;rw[Bg e _ hk,Hh]
 have a0:Hid (gT l lv l.length=true->fK o l.length o.length=true->iK l o lv=true):=λh1 h2=>by
  unfold iK;rw[h1,h2];rfl
 generalize iK l o lv=A at R a4 a0 ⊢;clear h ho hlv;go_enter func88,ntmps88;go_wp2;go_loopw [13] (λiv wr=>∃k:Nat,k<=l.length/\iv=I (k:Int)/\gT l lv k=true/\Below w.heap.size w wr) (λiv _=>l.length-(intOf iv).toNat)
 case atStart=>exact⟨0,ω,rfl,rfl,aN _ _⟩
 case round =>
  obtain⟨k,hk,rfl,J,hb⟩:=hrel;have HB:=ai hb;have UG:=ai J;clear J;by_cases hlt:k<l.length
  . obtain⟨b,off,U,a9,dZ⟩:=(HH.o.below hb) ω;subst U;obtain⟨c0,c1,c2,c3,c4,c5,c6,lD,c8,c9,a7,a6,a3⟩:=dZ k hlt;have VH:Hid (gT l lv (k+1)=(eX (aR l k)&&lv k==((aR l k).st==1))):=by
     show _=_;rw[a5.o,UG.o,ju];unfold vV;congr 2
    have K:=ai (R.o (k+1) ω);generalize aR l k=q at VH c0 c1 c2 c3 c4 c5 c6 lD c8 c9 a7 a6 a3;have a2:Hid (∀V,Calls prog 146 #[.agg #[I (q.r 0),I (q.r 1),I (q.r 2),I (q.r 3),I (q.r 4),I (q.r 5),I (q.r 6),I (q.r 7),I q.pc,I q.st,I q.cd,I q.fk,I q.fa]] V λe w'=>e=.returned (.bool (eX q))/\Below V.heap.size V w'):=λV=>ND q V
    have a1:=ai (YI.o k hlt);generalize lv k=L at VH a1;generalize eX q=T at VH a2;clear dZ hb;have jo:=ai (HB.o.alloc HB.o.size (.cells #[I (q.r 0),I (q.r 1),I (q.r 2),I (q.r 3),I (q.r 4),I (q.r 5),I (q.r 6),I (q.r 7),I q.pc,I q.st,I q.cd,I q.fk,I q.fa] 77));go_wp2_with fail;obtain⟨W,hW⟩:=ex (wr.alloc (.cells #[I (q.r 0),I (q.r 1),I (q.r 2),I (q.r 3),I (q.r 4),I (q.r 5),I (q.r 6),I (q.r 7),I q.pc,I q.st,I q.cd,I q.fk,I q.fa] 77));have HW:=ai hW;have hs:W.heap.size=wr.heap.size+1:=by rw[hW];simp
    have yL:=iH W;have F:=@fG W;have e0:∀x:cM W.heap.size W,x.world.cell? (Ad wr.heap.size 0)=some (I (q.r 0)):=λx=>by rw[F x _ _ ω,hW];simp
    have e1:∀x:cM W.heap.size W,x.world.cell? (Ad wr.heap.size 1)=some (I (q.r 1)):=λx=>by rw[F x _ _ ω,hW];simp
    have e2:∀x:cM W.heap.size W,x.world.cell? (Ad wr.heap.size 2)=some (I (q.r 2)):=λx=>by rw[F x _ _ ω,hW];simp
    have e3:∀x:cM W.heap.size W,x.world.cell? (Ad wr.heap.size 3)=some (I (q.r 3)):=λx=>by rw[F x _ _ ω,hW];simp
    have e4:∀x:cM W.heap.size W,x.world.cell? (Ad wr.heap.size 4)=some (I (q.r 4)):=λx=>by rw[F x _ _ ω,hW];simp
    have e5:∀x:cM W.heap.size W,x.world.cell? (Ad wr.heap.size 5)=some (I (q.r 5)):=λx=>by rw[F x _ _ ω,hW];simp
    have e6:∀x:cM W.heap.size W,x.world.cell? (Ad wr.heap.size 6)=some (I (q.r 6)):=λx=>by rw[F x _ _ ω,hW];simp
    have e7:∀x:cM W.heap.size W,x.world.cell? (Ad wr.heap.size 7)=some (I (q.r 7)):=λx=>by rw[F x _ _ ω,hW];simp
    have e8:∀x:cM W.heap.size W,x.world.cell? (Ad wr.heap.size 8)=some (I q.pc):=λx=>by rw[F x _ _ ω,hW];simp
    have e9:∀x:cM W.heap.size W,x.world.cell? (Ad wr.heap.size 9)=some (I q.st):=λx=>by rw[F x _ _ ω,hW];simp
    have ab:∀x:cM W.heap.size W,x.world.cell? (Ad wr.heap.size 10)=some (I q.cd):=λx=>by rw[F x _ _ ω,hW];simp
    have ac:∀x:cM W.heap.size W,x.world.cell? (Ad wr.heap.size 11)=some (I q.fk):=λx=>by rw[F x _ _ ω,hW];simp
    have aa:∀x:cM W.heap.size W,x.world.cell? (Ad wr.heap.size 12)=some (I q.fa):=λx=>by rw[F x _ _ ω,hW];simp
    have EO:Hid (Below w.heap.size w W):=by show Below _ _ _;rw[hW];exact jo.o
    clear hW hs F c0 c1 c2 c3 c4 c5 c6 lD c8 c9 a7 a6 a3;rw[<- HW.o];have Ii:Hid (∀x:cM W.heap.size W,Calls prog 146 #[.agg #[I (q.r 0),I (q.r 1),I (q.r 2),I (q.r 3),I (q.r 4),I (q.r 5),I (q.r 6),I (q.r 7),I q.pc,I q.st,I q.cd,I q.fk,I q.fa]] x.world λe w'=>e=.returned (.bool T)/\∃y:cM W.heap.size W,w'=y.world):=λx=>ig a2.o x
    have Cw:Hid (∀x:cM W.heap.size W,Calls prog 89 #[I (k:Int),.pointer (some (Ad P 0))] x.world λe w'=>e=.returned (.bool L)/\∃y:cM W.heap.size W,w'=y.world):=λx=>(a1.o x.world (cJ EO.o x.keeps)).mono λe w'' ⟨he,hb⟩=>⟨he,⟨w'',x.keeps.trans (hb.mono x.keeps.size)⟩,rfl⟩
    clear a2 a1;cases T with
    | false =>
     have Nt:=ai (K.o (by rw[VH.o,qK]));clear VH K;refine cB κ κ ?_
     repeat (first | go_big_quiet_step ((first | (go_at_call 146;exact Ii.o _) | (go_at_call 89;exact Cw.o _))) | quiet_step ((first | (go_at_call 146;exact Ii.o _) | (go_at_call 89;exact Cw.o _))))
     refine fL ?_;intro _ G;obtain⟨x,B⟩:=G;subst B;go_wp2;go_ret;exact⟨oU Nt.o.symm,cJ EO.o x.keeps⟩
    | true =>
     rw[ju] at VH;obtain⟨S,hS⟩:∃S,(q.st==1)=S:=⟨_,rfl⟩;rw[hS] at VH;cases L with
     | false =>
      cases S with
      | false =>
       have M:Hid (gT l lv (k+1)=true):=VH;clear VH K;refine cB κ κ ?_
       repeat (first | go_big_quiet_step ((first | (go_at_call 146;exact Ii.o _) | (go_at_call 89;exact Cw.o _))) | quiet_step ((first | (go_at_call 146;exact Ii.o _) | (go_at_call 89;exact Cw.o _))))
       refine fL ?_;intro _ G;obtain⟨x,B⟩:=G;subst B;go_wp2;go_roundw
       case rel=>exact⟨k+1,ω,by go_num,M.o,cJ EO.o x.keeps⟩
       case measure=>simp[intOf];omega
      | true =>
       have Nt:=ai (K.o VH.o);clear VH K;refine cB κ κ ?_
       repeat (first | go_big_quiet_step ((first | (go_at_call 146;exact Ii.o _) | (go_at_call 89;exact Cw.o _))) | quiet_step ((first | (go_at_call 146;exact Ii.o _) | (go_at_call 89;exact Cw.o _))))
       refine fL ?_;intro _ G;obtain⟨x,B⟩:=G;subst B;go_wp2;go_ret;exact⟨oU Nt.o.symm,cJ EO.o x.keeps⟩
     | true =>
      cases S with
      | true =>
       have M:Hid (gT l lv (k+1)=true):=VH;clear VH K;refine cB κ κ ?_
       repeat (first | go_big_quiet_step ((first | (go_at_call 146;exact Ii.o _) | (go_at_call 89;exact Cw.o _))) | quiet_step ((first | (go_at_call 146;exact Ii.o _) | (go_at_call 89;exact Cw.o _))))
       refine fL ?_;intro _ G;obtain⟨x,B⟩:=G;subst B;go_wp2;go_roundw
       case rel=>exact⟨k+1,ω,by go_num,M.o,cJ EO.o x.keeps⟩
       case measure=>simp[intOf];omega
      | false =>
       have Nt:=ai (K.o VH.o);clear VH K;refine cB κ κ ?_
       repeat (first | go_big_quiet_step ((first | (go_at_call 146;exact Ii.o _) | (go_at_call 89;exact Cw.o _))) | quiet_step ((first | (go_at_call 146;exact Ii.o _) | (go_at_call 89;exact Cw.o _))))
       refine fL ?_;intro _ G;obtain⟨x,B⟩:=G;subst B;go_wp2;go_ret;exact⟨oU Nt.o.symm,cJ EO.o x.keeps⟩
  obtain rfl:k=l.length:=by omega
  have a8:=ai (a0.o UG.o);clear hb a0 R a5 YI UG;go_wp2;go_loopw [33] (λiv wq=>∃j:Nat,j<=o.length/\iv=I (j:Int)/\fK o l.length j=true/\Below w.heap.size w wq) (λiv _=>o.length-(intOf iv).toNat)
  case atStart=>exact⟨0,ω,rfl,rfl,HB.o⟩
  case round =>
   obtain⟨j,hj,rfl,J,Q⟩:=hrel;have X:=ai Q;have Y:=ai J;clear J HB;by_cases Am:j<o.length
   . obtain⟨b,off,U,a9,dZ⟩:=(HO.o.below Q) ω;subst U;obtain⟨c0,c1⟩:=dZ j Am;have Z:Hid (fK o l.length (j+1)=decide (0<=(mD o j).proc/\(mD o j).proc<(l.length:Int))):=by
      show(fK o l.length j&&_)=_;rw[Y.o,ju];rfl
     have O:=ai (a4.o (j+1) ω);obtain⟨⟨wp,wv⟩,hq⟩:∃q,q=mD o j:=⟨_,rfl⟩;rw[<- hq] at Z c0 c1;simp only at c0 c1;have N:Hid (fK o l.length (j+1)=decide (0<=wp/\wp<(l.length:Int))):=Z;clear hq dZ Q Y Z;have jo:=ai (X.o.alloc X.o.size (.cells #[I wp,I wv] 91));by_cases h0:wp<0
     . have Nt:=ai (O.o (by rw[N.o];simp;omega));clear N O;go_wp2;go_ret;exact⟨oU Nt.o.symm,jo.o⟩
     by_cases h1:(l.length:Int)<=wp
     . have Nt:=ai (O.o (by rw[N.o];simp;omega));clear N O;go_wp2;go_ret;exact⟨oU Nt.o.symm,jo.o⟩
     have M:Hid (fK o l.length (j+1)=true):=by show _=_;rw[N.o];simp;omega
     clear N O;go_wp2;go_roundw
     case rel=>exact⟨j+1,ω,by go_num,M.o,jo.o⟩
     case measure=>simp[intOf];omega
   obtain rfl:j=o.length:=by omega
   have M:=ai (a8.o Y.o);clear Q;go_wp2;go_ret;exact⟨oU M.o.symm,X.o⟩
structure iM where
 fA:aT
 procs:List bQ
 out:List ra
def eu (m:iM):Int:=if ¬dD m.fA=0 then dD m.fA else if 2000<m.out.length then 2 else if m.procs.length=m.fA.aj.length/\iK m.procs m.out (λk=>(ak m.fA.aj k).live)=true then 0 else 1
structure rR (w:World) (a:gN) (ar ao:Option Addr) (m:iM):Prop where
 fA:iB w a m.fA
 procs:sZ w ar m.procs
 out:um w ao m.out
theorem rR.below {w w':World} {a:gN} {ar ao:Option Addr} {m:iM} (h:rR w a ar ao m) (hb:Below w.heap.size w w'):rR w' a ar ao m:=⟨h.fA.below hb,h.procs.below hb,h.out.below hb⟩
structure Ct (m:iM):Prop where
 fA:kN m.fA
 procs:bM m.procs.length
 out:bM m.out.length
def eU (m:iM) (a:gN) (ar ao:Option Addr) (cr co:Nat):Array Value:=#[.slice a.aS m.fA.aD.length a.cS,.slice a.aF m.fA.frames.length a.cF,.slice a.aL m.fA.slots.length a.cL,.slice a.aP m.fA.aj.length a.cP,I m.fA.hand,.slice ar m.procs.length cr,.slice ao m.out.length co]
theorem lD {w:World} {b:Nat} {Sk a1 a2 a3 a4 a5 a6:Value} {t:TypeId} (h:w.heap[b]?=some (.cells #[Sk,a1,a2,a3,a4,a5,a6] t (0,0))):w.cell? (Ad b 0)=some Sk/\w.cell? (Ad b 1)=some a1/\w.cell? (Ad b 2)=some a2/\w.cell? (Ad b 3)=some a3/\w.cell? (Ad b 4)=some a4/\w.cell? (Ad b 5)=some a5/\w.cell? (Ad b 6)=some a6:=⟨aA h 0 rfl,aA h 1 rfl,aA h 2 rfl,aA h 3 rfl,aA h 4 rfl,aA h 5 rfl,aA h 6 rfl⟩
theorem Yl (l:List cZ) (az:Option Addr) (cs P k:Nat) (w:World) (h:su w az l) (hk:k<l.length) (hn:l.length<=140737488351232) (hP:w.cell? (Ad P 3)=some (.slice az l.length cs)) :
  Calls prog 89 #[I (k:Int),.pointer (some (Ad P 0))] w λe w'=>e=.returned (.bool (ak l k).live)/\Below w.heap.size w w':=by
 obtain⟨b,off,q,r,dZ⟩:=h ω;subst q;obtain⟨va,ap,cp,c0,c1,c2,c3,c4,c5⟩:=dZ k hk;clear dZ c1 c2 c3 c4 c5 h;generalize (ak l k).live=lv at c0 ⊢;go_enter func89,ntmps89;go_wp2;go_ret;exact⟨rfl,aN _ _⟩
theorem L3 (m:iM) (a:gN) (ar ao:Option Addr) (cr co:Nat) (w:World) (h:rR w a ar ao m) (hf:Ct m) :
  Calls prog 41 #[.agg (eU m a ar ao cr co)] w λe w'=>e=.returned (.bool (decide (m.procs.length=m.fA.aj.length/\iK m.procs m.out (λk=>(ak m.fA.aj k).live)=true)))/\Below w.heap.size w w':=by
 have FC:=hf.procs;have r:=hf.fA.np;have y:=hf.out;unfold bM at FC r y;have b:Hid (m.procs.length=m.fA.aj.length->∀P V,Below w.heap.size w V->V.heap[P]?=some (.cells (eU m a ar ao cr co) 34 (0,0))->Calls prog 88 #[.slice ar m.procs.length cr,.slice ao m.out.length co,.func (.func 89) #[] #[.pointer (some (Ad P 0))]] V λe w'=>e=.returned (.bool (iK m.procs m.out (λk=>(ak m.fA.aj k).live)))/\Below V.heap.size V w'):=λhl P V hV hP =>
  Sh m.procs m.out (λk=>(ak m.fA.aj k).live) ar ao cr co P V (h.procs.below hV) (h.out.below hV) ω ω (λk hk U hU=>Yl m.fA.aj a.aP a.cP P k U (h.fA.aj.below (cJ hV hU)) ω ω ((hU.cell (p:=(Ad P 3)) (aM hP)).trans (aA hP 3 rfl)))
 have eB:=ai ((aN w.heap.size w).alloc (aJ _) (.cells (eU m a ar ao cr co) 34));have X0:=ai (bG w (eU m a ar ao cr co) 34);generalize iK m.procs m.out (λk=>(ak m.fA.aj k).live)=R at b ⊢;unfold eU at b eB X0 ⊢;obtain⟨ns,Ic⟩:=ex m.fA.aj.length;obtain⟨np,Ie⟩:=ex m.procs.length;obtain⟨no,QH⟩:=ex m.out.length;obtain⟨n0,q⟩:∃n,n=m.fA.aD.length:=⟨_,rfl⟩;obtain⟨n1,MO⟩:∃n,n=m.fA.frames.length:=⟨_,rfl⟩;obtain⟨n2,Br⟩:∃n,n=m.fA.slots.length:=⟨_,rfl⟩;obtain⟨n4,Ho⟩:∃n,n=m.fA.hand:=⟨_,rfl⟩;rw[<- Ic,<- Ie,<- QH,<- q,<- MO,<- Br,<- Ho] at b eB X0 ⊢;rw[<- Ic] at r;rw[<- Ie] at FC;clear h hf Ic Ie QH q MO Br Ho y;by_cases c:np=ns
 . have Ii:=ai (b.o c);subst c;clear b;go_enter func41,ntmps41;go_wp2_with (go_at_call 88;refine(Ii.o _ _ eB.o X0.o).mono ?_;rintro e w1 ⟨rfl,A⟩;have dz:=ai (cJ eB.o A);clear A);go_ret;exact⟨oU ξ,dz.o⟩
 have cb:((np:Int)==(ns:Int))=false:=by rw[jx];omega
 have e:decide (np=ns/\R=true)=false:=by simp[c]
 rw[e];clear c e b;go_enter func41,ntmps41;go_wp2;go_ret;exact⟨oU rfl,eB.o⟩
theorem L5 (m:iM) (a:gN) (ar ao:Option Addr) (cr co:Nat) (w:World) (h:rR w a ar ao m) (hf:Ct m) :
  Calls prog 15 #[.agg (eU m a ar ao cr co)] w λe w'=>e=.returned (I (eu m))/\Below w.heap.size w w':=by
 have B:=hf.out;unfold bM at B;have zh:Hid (∀V,Below w.heap.size w V->Calls prog 40 #[.agg (bj a m.fA)] V λe w'=>e=.returned (I (dD m.fA))/\Below V.heap.size V w'):=λV hV=>XF m.fA a V (h.fA.below hV) hf.fA
 have q:Hid (∀V,Below w.heap.size w V->Calls prog 41 #[.agg (eU m a ar ao cr co)] V λe w'=>e=.returned (.bool (decide (m.procs.length=m.fA.aj.length/\iK m.procs m.out (λk=>(ak m.fA.aj k).live)=true)))/\Below V.heap.size V w'):=λV hV=>L3 m a ar ao cr co V (h.below hV) hf
 have eB:=ai ((aN w.heap.size w).alloc (aJ _) (.cells (eU m a ar ao cr co) 34));have X0:=ai (bG w (eU m a ar ao cr co) 34);obtain⟨R,hR⟩:=ex (decide (m.procs.length=m.fA.aj.length/\iK m.procs m.out (λk=>(ak m.fA.aj k).live)=true));obtain⟨ck,Dk⟩:=ex (dD m.fA);have HA:Hid (eu m=if ¬ck=0 then ck else if 2000<m.out.length then 2 else if R=true then 0 else 1):=by
  show _=_;rw[Dk,hR];unfold eu;simp only[iP]
 generalize eu m=A at HA ⊢;rw[<- hR] at q;rw[<- Dk] at zh;unfold eU at q eB X0 ⊢;unfold bj at zh;obtain⟨ns,Ic⟩:=ex m.fA.aj.length;obtain⟨np,Ie⟩:=ex m.procs.length;obtain⟨no,QH⟩:=ex m.out.length;obtain⟨n0,y⟩:∃n,n=m.fA.aD.length:=⟨_,rfl⟩;obtain⟨n1,MO⟩:∃n,n=m.fA.frames.length:=⟨_,rfl⟩;obtain⟨n2,Br⟩:∃n,n=m.fA.slots.length:=⟨_,rfl⟩;obtain⟨n4,Ho⟩:∃n,n=m.fA.hand:=⟨_,rfl⟩;rw[<- Ic,<- Ie,<- QH,<- y,<- MO,<- Br,<- Ho] at q eB X0 ⊢;rw[<- Ic,<- y,<- MO,<- Br,<- Ho] at zh;rw[<- QH] at HA B;clear h hf hR Ic Ie QH y MO Br Ho Dk;by_cases c:ck=0
 . subst c;by_cases c2:2000<no
   . have vv:Hid (A=2):=by show _=_;rw[HA.o,aH (λg=>g rfl),aQ c2]
     clear HA q;go_enter func15,ntmps15;go_wp2_with (go_at_call 40;refine(zh.o _ eB.o).mono ?_;rintro e w1 ⟨rfl,b⟩;have dz:=ai (cJ eB.o b);have X1:=ai (aO X0.o b (aM X0.o));clear b;obtain⟨x0,x1,x2,x3,x4,x5,x6⟩:=lD X1.o);go_ret;exact⟨by rw[vv.o];rfl,dz.o⟩
   have vv:Hid (A=if R=true then 0 else 1):=by show _=_;rw[HA.o,aH (λg=>g rfl),aH c2]
   clear HA;cases R with
   | false =>
    have C2:Hid (A=1):=vv.o;clear vv;go_enter func15,ntmps15;go_wp2_with (first
     | (go_at_call 40;refine(zh.o _ eB.o).mono ?_;rintro e w1 ⟨rfl,b⟩;have dz:=ai (cJ eB.o b);have X1:=ai (aO X0.o b (aM X0.o));clear b;obtain⟨x0,x1,x2,x3,x4,x5,x6⟩:=lD X1.o)
     | (go_at_call 41;refine(q.o _ dz.o).mono ?_;rintro e w2 ⟨rfl,r⟩;have iI:=ai (cJ dz.o r);clear r))
    go_ret;exact⟨by rw[C2.o];rfl,iI.o⟩
   | true =>
    have C2:Hid (A=0):=vv.o;clear vv;go_enter func15,ntmps15;go_wp2_with (first
     | (go_at_call 40;refine(zh.o _ eB.o).mono ?_;rintro e w1 ⟨rfl,b⟩;have dz:=ai (cJ eB.o b);have X1:=ai (aO X0.o b (aM X0.o));clear b;obtain⟨x0,x1,x2,x3,x4,x5,x6⟩:=lD X1.o)
     | (go_at_call 41;refine(q.o _ dz.o).mono ?_;rintro e w2 ⟨rfl,r⟩;have iI:=ai (cJ dz.o r);clear r))
    go_ret;exact⟨by rw[C2.o];rfl,iI.o⟩
 have vv:Hid (A=ck):=by show _=_;rw[HA.o,aQ c]
 have cb:(ck==0)=false:=by grind
 clear c HA q;go_enter func15,ntmps15;go_wp2_with (go_at_call 40;refine(zh.o _ eB.o).mono ?_;rintro e w1 ⟨rfl,b⟩;have dz:=ai (cJ eB.o b);clear b);go_ret;exact⟨by rw[vv.o];rfl,dz.o⟩
end Go.Proofs.YtlgoihmkgaaemaaGreat
