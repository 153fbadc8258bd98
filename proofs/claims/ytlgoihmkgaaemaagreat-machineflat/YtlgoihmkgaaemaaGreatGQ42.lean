import Derived.Test.YtlgoihmkgaaemaaGreatGQ41
set_option maxHeartbeats 20000000
set_option linter.unusedVariables false
set_option maxRecDepth 100000
set_option linter.unusedSimpArgs false
namespace Go.Proofs.YtlgoihmkgaaemaaGreat
open Go.RowKit Tryz
theorem Y7 (w:World):Calls prog 38 #[] w λe w'=>(∃pb,e=.returned (.slice (some (Ad pb 0)) 14 14)/\rI w' (some (Ad pb 0)) lT/\pb<w'.heap.size)/\Below w.heap.size w w':=by
 have HN:Hid (∀(V:World),V.heap[w.heap.size]?=some (.cells #[I 0,I 1,I 0,I 1,I 0,I 1,I 0,I 1,I 0,I 1,I 0,I 1,I 0,I 1] 3 (0,0))->rI V (some (Ad w.heap.size 0)) lT):=λV h _=>by
  refine⟨w.heap.size,0,rfl,aQ h,λi hi=>?_⟩
  match i,hi with
  | 0,_=>exact aA h 0 rfl
  | 1,_=>exact aA h 1 rfl
  | 2,_=>exact aA h 2 rfl
  | 3,_=>exact aA h 3 rfl
  | 4,_=>exact aA h 4 rfl
  | 5,_=>exact aA h 5 rfl
  | 6,_=>exact aA h 6 rfl
  | 7,_=>exact aA h 7 rfl
  | 8,_=>exact aA h 8 rfl
  | 9,_=>exact aA h 9 rfl
  | 10,_=>exact aA h 10 rfl
  | 11,_=>exact aA h 11 rfl
  | 12,_=>exact aA h 12 rfl
  | 13,_=>exact aA h 13 rfl
  | k+14,h=>exact absurd h (by show ¬k+14<14;omega)
 have HB:=ai ((aN w.heap.size w).alloc (aK _) (.cells #[I 0,I 1,I 0,I 1,I 0,I 1,I 0,I 1,I 0,I 1,I 0,I 1,I 0,I 1] 3));have HX:=ai (HN.o _ (bH w #[I 0,I 1,I 0,I 1,I 0,I 1,I 0,I 1,I 0,I 1,I 0,I 1,I 0,I 1] 3));go_enter func38,ntmps38;go_wp2;go_ret;exact⟨⟨w.heap.size,rfl,HX.o,ξ⟩,HB.o⟩
def afV (a1 a2 a3 a4:Option Addr) (qQ qE qD oP:Nat):iT:=⟨pj zh (rT a1 a2 a3 a4 qQ qE qD oP) 3 8,[jK 16],[]⟩
theorem Hn (a1 a2 a3 a4:Option Addr) (qQ qE qD oP:Nat):mh zh (rT a1 a2 a3 a4 qQ qE qD oP) 16 3 8=(afV a1 a2 a3 a4 qQ qE qD oP,0)/\ez fO (mQ (afV a1 a2 a3 a4 qQ qE qD oP)):=by
 rcases Py zh (rT a1 a2 a3 a4 qQ qE qD oP) 16 3 8 ⟨ω,ω⟩ with h | ⟨_,_,_,_,_,_,h1,h2⟩
 . exact absurd κ h
 exact⟨h1,h2⟩
theorem acP (a1 a2 a3 a4:Option Addr) (qQ qE qD oP:Nat):∃s,sL (afV a1 a2 a3 a4 qQ qE qD oP) lT=(E4 s,0)/\acO s=(2,2,0,1,2,0):=by
 obtain⟨s,h1,h2⟩:=ak6 a1 a2 a3 a4 qQ qE qD oP;refine⟨s,?_,h2⟩;rw[K7 (Hn a1 a2 a3 a4 qQ qE qD oP).2,aB Δ];have h1:fq dY lT lT.length (some (mQ (afV a1 a2 a3 a4 qQ qE qD oP)))=some s:=h1;rw[h1]
theorem Y9 {N:Nat} {c:Array Value} {U:World} {a1 a2 a3 a4:Option Addr} {qQ qE qD oP:Nat} (h:mG N (afV a1 a2 a3 a4 qQ qE qD oP) c U) (ap:Option Addr) (cp:Nat) (hn:rI U ap lT) (hps:∀b,ap=some b->b.block<U.heap.size) :
  Calls prog 20 #[.agg c,.slice ap 14 cp] U λe w''=>∃t0 k0 FT t1 k1 FQ t2 k2 FP t3 k3 FO hc b1 o1 EA b2 o2 Iu,e=.returned (.tuple #[.agg #[.slice t0 k0 FT,.slice t1 k1 FQ,.slice t2 k2 FP,.slice t3 k3 FO,I hc,.slice (some (Ad b1 o1)) 2 EA,.slice (some (Ad b2 o2)) 2 Iu],I 0])/\(∀X,aH (λb=>b<U.heap.size) w'' X->X.cell? (Ad b1 (o1+22))=some (I 2)/\X.cell? (Ad b1 (o1+23))=some (I 0)/\X.cell? (Ad b2 (o2+1))=some (I 0)/\X.cell? (Ad b2 (o2+3))=some (I 1))/\Below U.heap.size U w'':=by
 obtain⟨s,e1,e2⟩:=acP a1 a2 a3 a4 qQ qE qD oP;refine(Su h (Hn a1 a2 a3 a4 qQ qE qD oP).2 lT ap cp hn (λ_=>hps) (by show(14:Nat)<=_;decide)).mono ?_;rintro e w' ⟨c',g1,g2,g3⟩;rw[e1] at g1 g2;simp only[acO,Prod.mk.injEq] at e2;obtain⟨r1,r2,r3,r4,r5,r6⟩:=e2;obtain⟨hs,a,ar,cr,ao,co,i1,rfl,i3⟩:=g2;have hk:=i3 w' (aH.refl _ _);obtain⟨b1,o1,f1,_,_⟩:=hk.procs (by show 0<s.ps.length;omega);obtain⟨b2,o2,f2,_,_⟩:=hk.out (by show 0<s.out.length;omega);subst f1 f2;have g1:e=.returned (.tuple #[.agg #[.slice a.aS hs.length a.cS,.slice a.aF s.mem.frames.length a.cF,.slice a.aL s.mem.slots.length a.cL,.slice a.aP s.mem.aj.length a.cP,I s.mem.hand,.slice (some (Ad b1 o1)) s.ps.length cr,.slice (some (Ad b2 o2)) s.out.length co],I 0]):=g1;rw[r1,r2] at g1;refine⟨_,_,_,_,_,_,_,_,_,_,_,_,_,b1,o1,cr,b2,o2,co,g1,λX hX=>?_,g3⟩;have hu:=i3 X hX;obtain⟨b3,o3,f3,_,l3⟩:=hu.procs (by show 0<s.ps.length;omega);obtain⟨b4,o4,f4,_,l4⟩:=hu.out (by show 0<s.out.length;omega);injection f3 with f3;injection f4 with f4;injection f3 with u1 u2;injection f4 with u3 u4;subst u1 u2 u3 u4;obtain⟨_,_,_,_,_,_,_,_,_,k9,q,_,_⟩:=l3 1 (by show 1<s.ps.length;omega);obtain⟨_,k1⟩:=l4 0 (by show 0<s.out.length;omega);obtain⟨_,k2⟩:=l4 1 (by show 1<s.out.length;omega);have k9:X.cell? (Ad b1 (o1+1*13+9))=some (I (aO s.ps 1).st):=k9;have q:X.cell? (Ad b1 (o1+1*13+10))=some (I (aO s.ps 1).cd):=q;have k1:X.cell? (Ad b2 (o2+0*2+1))=some (I (qM s.out 0).value):=k1;have k2:X.cell? (Ad b2 (o2+1*2+1))=some (I (qM s.out 1).value):=k2;rw[r5] at k9;rw[r6] at q;rw[r3] at k1;rw[r4] at k2;exact⟨k9,q,k1,k2⟩
theorem Y8 (hct:∀w,Calls prog 37 #[] w (Ux w)) (w:World):Calls prog 13 #[] w λe w'=>e=.returned (.bool true)/\Below w.heap.size w w':=by
 have XH:=ai hct;have Qh:=ai Y7;have M:Hid (∀V ar cr ah ch a1 a2 a3 a4 qQ qE qD oP,gD V (.slice ar 1 cr) zh->kq V ah (rT a1 a2 a3 a4 qQ qE qD oP)->4<=ch->Calls prog 10 #[.agg #[.slice ar 1 cr,.slice ah 4 ch,I 16],I 3,I 8] V λe w'=>∃s0 n0 q0 s1 n1 Cb s2 n2 Be s3 n3 Ca hd s5 A9 s6 q6,e=.returned (.tuple #[.agg #[.slice s0 n0 q0,.slice s1 n1 Cb,.slice s2 n2 Be,.slice s3 n3 Ca,I hd,.slice s5 1 A9,.slice s6 0 q6],I 0])/\(∀U,aH (λb=>b<V.heap.size) w' U->∀ap cp,rI U ap lT->(∀b,ap=some b->b.block<U.heap.size)->Calls prog 20 #[.agg #[.slice s0 n0 q0,.slice s1 n1 Cb,.slice s2 n2 Be,.slice s3 n3 Ca,I hd,.slice s5 1 A9,.slice s6 0 q6],.slice ap 14 cp] U λe w''=>∃t0 k0 FT t1 k1 FQ t2 k2 FP t3 k3 FO hc b1 o1 EA b2 o2 Iu,e=.returned (.tuple #[.agg #[.slice t0 k0 FT,.slice t1 k1 FQ,.slice t2 k2 FP,.slice t3 k3 FO,I hc,.slice (some (Ad b1 o1)) 2 EA,.slice (some (Ad b2 o2)) 2 Iu],I 0])/\(∀X,aH (λb=>b<U.heap.size) w'' X->X.cell? (Ad b1 (o1+22))=some (I 2)/\X.cell? (Ad b1 (o1+23))=some (I 0)/\X.cell? (Ad b2 (o2+1))=some (I 0)/\X.cell? (Ad b2 (o2+3))=some (I 1))/\Below U.heap.size U w'')/\Below V.heap.size V w'):=λV ar cr ah ch a1 a2 a3 a4 qQ qE qD oP h1 h2 h3=>by
  have h:=Sv zh (rT a1 a2 a3 a4 qQ qE qD oP) 16 3 8 (.slice ar 1 cr) ah ch V h1 agf h2 (age a1 a2 a3 a4 qQ qE qD oP) h3 (by unfold cH;decide);rw[(Hn a1 a2 a3 a4 qQ qE qD oP).1] at h;refine h.mono ?_;rintro e w' ⟨c,g1,g2,g3⟩;obtain⟨s0,n0,q0,s1,n1,Cb,s2,n2,Be,s3,n3,Ca,hd,s5,A9,s6,q6,hc⟩:=g2.cells;subst hc;exact⟨s0,n0,q0,s1,n1,Cb,s2,n2,Be,s3,n3,Ca,hd,s5,A9,s6,q6,g1,λU hU ap cp hn hb=>Y9 (g2.later hU) ap cp hn hb,g3⟩
 go_enter func13,ntmps13;go_wp2_with fail
 go_at_call 37
 refine(XH.o _).mono ?_;rintro e w1 ⟨ar,cr,ah,ch,a1,a2,a3,a4,qQ,qE,qD,oP,rfl,h1,h2,h3,h4⟩;have cD:=ai h4;have Tv:=ai (M.o w1 ar cr ah ch a1 a2 a3 a4 qQ qE qD oP h1 h2 h3);clear h1 h2 h3 h4 XH M;go_wp2_with fail
 go_at_call 10
 refine Tv.o.mono ?_;rintro e w2 ⟨s0,n0,q0,s1,n1,Cb,s2,n2,Be,s3,n3,Ca,hd,s5,A9,s6,q6,rfl,h1,h2⟩;have L:=ai h1;have iJ:=ai (cD.o.trans (h2.mono cD.o.size));have a0:=h2.size;clear h1 h2 Tv;go_wp2_with fail;have iQ:=ai (iJ.o.alloc iJ.o.size (.cells #[.slice s0 n0 q0,.slice s1 n1 Cb,.slice s2 n2 Be,.slice s3 n3 Ca,I hd,.slice s5 1 A9,.slice s6 0 q6] 34));have X0:=ai (bH w2 #[.slice s0 n0 q0,.slice s1 n1 Cb,.slice s2 n2 Be,.slice s3 n3 Ca,I hd,.slice s5 1 A9,.slice s6 0 q6] 34);have y:Hid (Below w2.heap.size w2 (w2.alloc (.cells #[.slice s0 n0 q0,.slice s1 n1 Cb,.slice s2 n2 Be,.slice s3 n3 Ca,I hd,.slice s5 1 A9,.slice s6 0 q6] 34))):=(aN w2.heap.size w2).alloc (aK _) _;generalize w2.alloc (.cells #[.slice s0 n0 q0,.slice s1 n1 Cb,.slice s2 n2 Be,.slice s3 n3 Ca,I hd,.slice s5 1 A9,.slice s6 0 q6] 34)=W at iQ X0 y ⊢;obtain⟨fb,F⟩:=ex w2.heap.size;have T:w.heap.size<=fb:=by rw[F];exact iJ.o.size
 rw[<- F] at X0 ⊢;clear F;have tV:=ai (aN W.heap.size W).drew;have A:Hid (W.drew.heap[fb]?=some (.cells #[.slice s0 n0 q0,.slice s1 n1 Cb,.slice s2 n2 Be,.slice s3 n3 Ca,I hd,.slice s5 1 A9,.slice s6 0 q6] 34 (0,0))):=X0.o;obtain⟨x0,x1,x2,x3,x4,x5,x6⟩:=B0 X0.o;go_cut [3] (λx3 wx=>∃t0 k0 FT t1 k1 FQ t2 k2 FP t3 k3 FO hc b1 o1 EA b2 o2 Iu,x3=I 0/\wx.heap[fb]?=some (.cells #[.slice t0 k0 FT,.slice t1 k1 FQ,.slice t2 k2 FP,.slice t3 k3 FO,I hc,.slice (some (Ad b1 o1)) 2 EA,.slice (some (Ad b2 o2)) 2 Iu] 34 (0,0))/\(wx.cell? (Ad b1 (o1+22))=some (I 2)/\wx.cell? (Ad b1 (o1+23))=some (I 0)/\wx.cell? (Ad b2 (o2+1))=some (I 0)/\wx.cell? (Ad b2 (o2+3))=some (I 1))/\Below w.heap.size w wx)
 case first =>
  go_region_law (first
   | (go_simp;go_at_call 38;refine(Qh.o _).mono ?_;rintro e w3 ⟨⟨pb,rfl,hn,J⟩,B⟩;have Ez:=ai (tV.o.trans (B.mono tV.o.size));have X3:=ai (aU A.o B (aQ A.o));obtain⟨y0,y1,y2,y3,y4,y5,y6⟩:=B0 X3.o;have Q:=ai (L.o w3 (aH.bQ (y.o.trans (Ez.o.mono y.o.size))) (some (Ad pb 0)) 14 hn (λb hb=>by injection hb with hb;subst hb;exact J));clear hn J B;go_simp)
   | (go_simp;go_at_call 20;refine Q.o.mono ?_;rintro e w4 ⟨t0,k0,FT,t1,k1,FQ,t2,k2,FP,t3,k3,FO,hc,b1,o1,EA,b2,o2,Iu,rfl,N,G⟩;have Y:=ai N;have Cc:=ai G;have X4:=ai (aU X3.o G (aQ X3.o));obtain⟨z0,z1,z2,z3,z4,z5,z6⟩:=B0 X4.o;have zf:=bG X4.o;clear N G;go_simp))
  all_goals
   go_wp2_with fail
   go_meet
   case rel =>
    have R:=aQ X3.o;have kU:=vt w4 fb (.slice t0 k0 FT) (.slice t1 k1 FQ) (.slice t2 k2 FP) (.slice t3 k3 FO) (I hc) (.slice (some (Ad b1 o1)) 2 EA) (.slice (some (Ad b2 o2)) 2 Iu);refine⟨t0,k0,FT,t1,k1,FQ,t2,k2,FP,t3,k3,FO,hc,b1,o1,EA,b2,o2,Iu,rfl,gH (gH (gH (gH (gH (gH (gH X4.o 0 _) 1 _) 2 _) 3 _) 4 _) 5 _) 6 _,Y.o _ (kU.mono (λb _ e=>by rw[e];exact R)),?_⟩;have hb:Below w.heap.size w w4:=(iQ.o.trans (Ez.o.mono iQ.o.size)).trans (Cc.o.mono (iQ.o.trans (Ez.o.mono iQ.o.size)).size);exact aH.below hb kU hb.size (λb e=>by rw[e];exact T)
 case rest =>
  obtain⟨t0,k0,FT,t1,k1,FQ,t2,k2,FP,t3,k3,FO,hc,b1,o1,EA,b2,o2,Iu,rfl,hx,⟨j1,j2,j3,j4⟩,hb⟩:=hcut;have HB:=ai hb;have Fs:=kf wc;have q:=@fJ wc;have l0:=aQ hx;have l1:=jL _ _ j1;have l2:=jL _ _ j3;have e2:∀x:ed wc.heap.size wc,x.world.cell? (Ad fb 5)=some (.slice (some (Ad b1 o1)) 2 EA):=λx=>(q x _ _ l0).trans (aA hx 5 rfl)
  have e3:∀x:ed wc.heap.size wc,x.world.cell? (Ad fb 6)=some (.slice (some (Ad b2 o2)) 2 Iu):=λx=>(q x _ _ l0).trans (aA hx 6 rfl)
  have e4:∀x:ed wc.heap.size wc,x.world.cell? (Ad b1 (o1+22))=some (I 2):=λx=>(q x _ _ l1).trans j1
  have a5:∀x:ed wc.heap.size wc,x.world.cell? (Ad b1 (o1+13+9))=some (I 2):=λx=>(q x _ _ l1).trans j1
  have e5:∀x:ed wc.heap.size wc,x.world.cell? (Ad b1 (o1+23))=some (I 0):=λx=>(q x _ _ l1).trans j2
  have Z:∀x:ed wc.heap.size wc,x.world.cell? (Ad b1 (o1+13+10))=some (I 0):=λx=>(q x _ _ l1).trans j2
  have e6:∀x:ed wc.heap.size wc,x.world.cell? (Ad b2 (o2+1))=some (I 0):=λx=>(q x _ _ l2).trans j3
  have e7:∀x:ed wc.heap.size wc,x.world.cell? (Ad b2 (o2+2+1))=some (I 1):=λx=>(q x _ _ l2).trans j4
  have e8:∀x:ed wc.heap.size wc,x.world.cell? (Ad b2 (o2+3))=some (I 1):=λx=>(q x _ _ l2).trans j4
  clear q hx j1 j2 j3 j4 hb Qh L y tV A X0 x0 x1 x2 x3 x4 x5 x6 l0 l1 l2;go_wp2_with fail;refine eT κ κ ?_
  repeat (first | go_big_quiet_step (fail) | quiet_step (fail))
  refine mM ?_;intro _ O;obtain⟨x,K⟩:=O;subst K;go_wp2;go_ret;exact⟨ξ,HB.o.trans (x.keeps.mono HB.o.size)⟩
open Go.RowKit
theorem YT:∀V,Calls prog 13 #[] V λe w'=>e=.returned (.bool true)/\Below V.heap.size V w':=Y8 (Zh λwb V hV=>(Ry ⟨mP,⟨none,0,some (Ad wb 0),1,none,0,none,0⟩⟩ [] none 0 V (alo hV) (λh=>absurd h ξ) aiK ⟨by unfold bD;decide,λk hk=>absurd hk ξ⟩).mono λe w' h=>alm h)
open Go.RowKit Go.Deep
theorem ZO:prog.cellsOf 56=6:=by rfl
theorem amq:prog.cellsOf 9=1:=by rfl
theorem amr:prog.cellsOf 3=1:=by rfl
theorem UZ (n:Int) (h:(Lit.int .i64 n).wf=true):cH n:=alu n h
theorem akh {w:World} {b o:Nat} {v:Value} (h:w.cell? (Ad b o)=some v):b<w.heap.size:=by
 grind [World.cell?]
def N5 {H:Type} (t:TypeId) (d:DataW H):Prop:=∀n∈d.weights prog t,n<=reachBytes
theorem Fw {H:Type} {e:TypeId}:∀{l:List (DataW H)} {d:DataW H},d∈l->∀n∈d.weights prog e,n∈DataW.weightsAll prog e l
 | y::r,d,h,n,hn=>by
  simp only[DataW.weightsAll,kJ];rcases qZ.1 h with h | h
  . grind
  exact .inr (Fw h n hn)
theorem aa9 {H:Type} {t:TypeId} {b:List UInt8} (h:N5 (H:=H) t (.lit (.string b))):b.length<=reachBytes:=h _ (by simp[DataW.weights])
theorem ad4 {H:Type} {t e:TypeId} {el sp:List (DataW H)} (hu:prog.underlying t=some (.slice e)) (h:N5 t (.slice el sp)):(el.length+sp.length)*prog.bytesOf e<=reachBytes/\∀d∈el,N5 e d:=by
 refine⟨h _ (by grind [DataW.weights]),λd hd n hn=>h n ?_⟩
 grind [DataW.weights,Fw]
theorem akg {H:Type} {t:TypeId} {fs:Array Field} {ps:List (DataW H)} (hu:prog.underlying t=some (.struct fs)) (h:N5 t (.agg ps)) {j:Nat} {u:TypeId} {d:DataW H} (ht:(fs.toList.map (·.type))[j]?=some u) (hd:ps[j]?=some d):N5 u d:=λn hn=>h n (by
 grind [DataW.weights,DataW.weights_mem_each])
section
variable {H:Type} {enc:TypeId×Value->H} {w:World} {base:Nat} {spare:Nat->Bool} {held:Bool}
def Gw (enc:TypeId×Value->H) (w:World) (base:Nat) (spare:Nat->Bool) (held:Bool) (t:TypeId) (cs:List Value):Prop:=∃(n:Nat) (x:DataW H×List MemPlace),DataW.trod enc prog w base spare held n t cs=some x/\N5 t x.1
theorem Gw.fields {t:TypeId} {fs:Array Field} {cs:List Value} (h:Gw enc w base spare held t cs) (ht:prog.underlying t=some (.struct fs)):cs.length=prog.cellsOf t/\∀(i:Nat) (f:Field),fs[i]?=some f->Gw enc w base spare held f.type ((cs.drop f.offset).take (prog.cellsOf f.type)):=by
 obtain⟨n,x,h,hw⟩:=h;obtain⟨xs,k,_,b,hl,q,hf⟩:=DataW.trod_struct ht h;refine⟨hl,λi f hi=>?_⟩;rw[b] at hw;obtain⟨y,hy⟩:∃y,xs[i]?=some y:=⟨xs[i]' Γ,Γ⟩;exact⟨k,y,(hf i f hi).trans hy,akg ht hw (j:=i) (by simp[hi]) (by simp[hy])⟩
variable {cs:List Value}
theorem Gw.int (h:Gw enc w base spare held 3 cs):∃n:Int,cs=[I n]/\cH n:=by
 obtain⟨_,_,h,_⟩:=h;obtain⟨n,c,_,wf⟩:=DataW.trod_int underlying3 h;exact⟨n,c,UZ _ wf⟩
theorem Gw.bool (h:Gw enc w base spare held 4 cs):∃b,cs=[.bool b]:=by
 obtain⟨_,_,h,_⟩:=h;obtain⟨n,c,_⟩:=DataW.trod_bool underlying4 h;exact⟨n,c⟩
theorem Gw.str (h:Gw enc w base spare held 9 cs):∃b:ByteArray,cs=[.string b]/\bD b.size:=by
 obtain⟨_,_,h,hw⟩:=h;obtain⟨m,c,rfl,_⟩:=DataW.trod_string underlying9 h;exact⟨m,c,by grind [aa9,bD,reachBytes,Lib.size_eq]⟩
theorem Gw.rows {α:Type} {ts te:TypeId} (d:α) (sz:Nat) (row:α->List Value) (p:α->Prop) (hu:prog.underlying ts=some (.slice te)) (hc:prog.cellsOf te=sz) (hb8:0<prog.bytesOf te) (hs0:0<sz)
  (elem:∀cs,cs.length=sz->Gw enc w base spare held te cs->∃y,cs=row y/\p y) (h:Gw enc w base spare held ts cs) :
  ∃a c,∃l:List α,cs=[.slice a l.length c]/\l.length<=c/\bD l.length/\(∀k,k<l.length->p (l.getD k d)) /\
   dG (λw b off l=>∀i,i<l.length->∀j,j<sz->w.cell? (Ad b (off+i*sz+j))=(row (l.getD i d))[j]?) w a l:=by
 obtain⟨_,x,h,hw⟩:=h;rcases open_slice hu h with⟨rfl,_⟩ | ⟨a,len,cap,m,n,D,Pl,rfl,hb,hl,hm,L,rfl,hx⟩
 . exact⟨none,0,[],rfl,ξ,by simp[bD],ξ,λh=>absurd h ξ⟩
 have M:len<=m:=by grind
 obtain⟨G,J⟩:=ad4 hu hw;have K:len<=140737488351232:=by
  simp only[fI,List.length_range,reachBytes] at G;have:=Nat.le_mul_of_pos_right (len+(m-len)) hb8;omega
 have each:∀i,i<len->∃y:α,(row y).length=sz/\p y/\∀j,j<sz->w.cell? (a.add (i*sz+j))=(row y)[j]?:=by
  intro i hi;obtain⟨cs,h1,h2⟩:=hx i ω;rw[hc] at h1;obtain⟨_,F,A⟩:=World.cells?_some h1;obtain⟨y,rfl,hy⟩:=elem cs F ⟨_,_,h2,J _ (tD.2 ⟨i,vN.2 hi,rfl⟩)⟩;refine⟨y,F,hy,λj hj=>?_⟩;have:=A j ω;simp only[add_add] at this;exact this
 have:Inhabited α:=⟨d⟩;obtain⟨g,hg⟩:=choose_lt each;refine⟨some a,cap,(List.range len).map g,ξ,by simpa,by simpa [bD],λk hk=>?_,λh0=>?_⟩
 . simp at hk;simpa [hk] using (hg k hk).2.1
 simp at h0;obtain⟨b,off,B⟩:=a;obtain⟨e1,_,e3⟩:=hg 0 h0;have q:=e3 0 hs0;rw[fF ω] at q;obtain rfl:B=none:=by simpa [Addr.add] using World.cell?_spot q
 rw[Cj] at q;refine⟨b,off,rfl,akh q,λi hi j hj=>?_⟩;simp at hi;have:=(hg i hi).2.2 j hj;rw[Cj,<- Cg] at this;simpa [hi] using this
theorem Um.to {α:Type} {L L':World->Nat->Nat->List α->Prop} {a:Option Addr} {l:List α} (h:dG L w a l) (hL:∀b off,L w b off l->L' w b off l):dG L' w a l:=λh0=>by
 obtain⟨b,off,e,hb,q⟩:=h h0;exact⟨b,off,e,hb,hL b off q⟩
theorem amm (h:Gw enc w base spare held 51 cs):∃a c l,cs=[.slice a l.length c]/\dG Gy w a l/\bD l.length/\∀k,k<l.length->bD (iy l k).size:=by
 obtain⟨a,c,l,e,_,s,f,q⟩:=h.rows U7 1 (λy=>[.string y]) (λy=>bD y.size) underlying51 amq (jY κ) Δ λcs hl h=>h.str
 exact⟨a,c,l,e,Um.to q λb off q i hi=>by simpa [iy] using q i hi 0 Δ,s,f⟩
theorem amo (h:Gw enc w base spare held 52 cs):∃a c l,cs=[.slice a l.length c]/\dG xN w a l/\bD l.length/\∀k,k<l.length->abj (cQ l k):=by
 obtain⟨a,c,l,e,_,s,f,q⟩:=h.rows Lu 5 (λy=>[I y.page,I y.aD,.string y.data,.bool y.wr,.bool y.ex]) abj underlying52 ρ (jY κ) Δ λcs hl h=>by
  have f:=(h.fields underlying166).2
  match cs,hl with
  | [v0,v1,v2,v3,v4],_ =>
   obtain⟨x0,⟨⟩,z0⟩:=(f 0 _ rfl).int;obtain⟨x1,⟨⟩,z1⟩:=(f 1 _ rfl).int;obtain⟨x2,⟨⟩,z2⟩:=(f 2 _ rfl).str;obtain⟨x3,⟨⟩⟩:=(f 3 _ rfl).bool;obtain⟨x4,⟨⟩⟩:=(f 4 _ rfl).bool;exact⟨⟨x0,x1,x2,x3,x4⟩,rfl,z0,z1,z2⟩
 exact⟨a,c,l,e,Um.to q λb off q i hi=>⟨q i hi 0 Δ,q i hi 1 Δ,q i hi 2 Δ,q i hi 3 Δ,q i hi 4 Δ⟩,s,f⟩
theorem aml (h:Gw enc w base spare held 53 cs):∃a c l,cs=[.slice a l.length c]/\dG EL w a l/\bD l.length/\∀k,k<l.length->ahi (nu l k):=by
 obtain⟨a,c,l,e,_,s,f,q⟩:=h.rows U5 2 (λy=>[.string y.name,I y.pos]) ahi underlying53 ρ (jY κ) Δ λcs hl h=>by
  have f:=(h.fields underlying315).2
  match cs,hl with
  | [v0,v1],_ =>
   obtain⟨x0,⟨⟩,z0⟩:=(f 0 _ rfl).str;obtain⟨x1,⟨⟩,z1⟩:=(f 1 _ rfl).int;exact⟨⟨x0,x1⟩,rfl,z0,z1⟩
 exact⟨a,c,l,e,Um.to q λb off q i hi=>⟨q i hi 0 Δ,q i hi 1 Δ⟩,s,f⟩
theorem amn (h:Gw enc w base spare held 54 cs):∃a c l,cs=[.slice a l.length c]/\dG MJ w a l/\bD l.length/\∀k,k<l.length->ahj (ji l k):=by
 obtain⟨a,c,l,e,_,s,f,q⟩:=h.rows ajt 3 (λy=>[I y.pos,.string y.name,I y.add]) ahj underlying54 ρ (jY κ) Δ λcs hl h=>by
  have f:=(h.fields underlying278).2
  match cs,hl with
  | [v0,v1,v2],_ =>
   obtain⟨x0,⟨⟩,z0⟩:=(f 0 _ rfl).int;obtain⟨x1,⟨⟩,z1⟩:=(f 1 _ rfl).str;obtain⟨x2,⟨⟩,z2⟩:=(f 2 _ rfl).int;exact⟨⟨x0,x1,x2⟩,rfl,z0,z1,z2⟩
 exact⟨a,c,l,e,Um.to q λb off q i hi=>⟨q i hi 0 Δ,q i hi 1 Δ,q i hi 2 Δ⟩,s,f⟩
theorem NZ {fuel:Nat} {x:DataW H×List MemPlace} (h:DataW.trod enc prog w base spare held fuel 56 cs=some x) (hw:N5 56 x.1) :
  ∃i a,cs=(gI a i).toList/\l9 w a i/\BH i:=by
 obtain⟨hl,f⟩:=Gw.fields ⟨_,_,h,hw⟩ underlying56;rw[ZO] at hl
 match cs,hl with
 | [v0,v1,v2,v3,v4,v5],_ =>
  obtain⟨nm,⟨⟩,z0⟩:=(f 0 _ rfl).str;obtain⟨an,cn,ns,⟨⟩,n2,n3,n4⟩:=amm (f 1 _ rfl);obtain⟨ag,cg,gs,⟨⟩,s2,s3,s4⟩:=amo (f 2 _ rfl);obtain⟨ay,cy,ys,⟨⟩,p2,p3,p4⟩:=aml (f 3 _ rfl);obtain⟨ar,cr,rs,⟨⟩,r2,r3,r4⟩:=amn (f 4 _ rfl);obtain⟨en,⟨⟩,w5⟩:=(f 5 _ rfl).int;exact⟨⟨nm,ns,gs,ys,rs,en⟩,⟨an,cn,ag,cg,ay,cy,ar,cr⟩,rfl,⟨n2,s2,p2,r2⟩,⟨z0,n3,n4,s3,s4,p3,p4,r3,r4,w5⟩⟩
end
open Go.RowKit Go.Deep
section
variable {H:Type} {enc:TypeId×Value->H} {w:World} {base:Nat} {spare:Nat->Bool} {held:Bool}
theorem aku {fuel:Nat} {a0:Option Addr} {len cap:Nat} {x:DataW H×List MemPlace} (h:DataW.trod enc prog w base spare held fuel 57 [.slice a0 len cap]=some x) (hw:N5 57 x.1) :
  ∃l:List fy,l.length=len/\Cu w a0 l/\Uq l/\len<=cap:=by
 obtain⟨a,c,l,e,hc,s,f,q⟩:=Gw.rows abw 6 (λy=>(gI y.a y.i).toList) (λy=>l9 w y.a y.i/\BH y.i) underlying57 ZO (jY κ) Δ (λcs hl ⟨_,_,h,hw⟩=>by
  obtain⟨im,a,rfl,f⟩:=NZ h hw;exact⟨⟨im,a⟩,rfl,f⟩) ⟨_,_,h,hw⟩
 cases e;exact⟨l,rfl,Um.to q λb off q i hi=>⟨⟨q i hi 0 Δ,q i hi 1 Δ,q i hi 2 Δ,q i hi 3 Δ,q i hi 4 Δ,q i hi 5 Δ⟩,(f i hi).1⟩,⟨s,λk hk=>(f k hk).2⟩,hc⟩
end
open Go.RowKit Go.Deep
section
variable {H:Type} {enc:TypeId×Value->H} {w:World} {base:Nat} {spare:Nat->Bool} {held:Bool}
theorem acS {fuel:Nat} {a0:Option Addr} {len cap:Nat} {x:DataW H×List MemPlace} (h:DataW.trod enc prog w base spare held fuel 48 [.slice a0 len cap]=some x) (hw:N5 48 x.1) :
  ∃l:List Int,l.length=len/\rI w a0 l/\l.length<=140737488351232/\l.length<=cap:=by
 obtain⟨a,c,l,e,hc,s,_,q⟩:=Gw.rows 0 1 (λy:Int=>[I y]) (λ_=>True) underlying48 amr (jY κ) Δ (λcs hl h=>(have⟨n,e,_⟩:=h.int;⟨n,e,trivial⟩)) ⟨_,_,h,hw⟩;cases e;refine⟨l,rfl,λh0=>?_,s,hc⟩;obtain⟨b,off,e,hb,q⟩:=q h0;exact⟨b,off,e,hb,λi hi=>by simpa using q i hi 0 Δ⟩
end
theorem ail {w:World} {ap:Option Addr} {l:List Int} (h:rI w ap l):0<l.length->∀b,ap=some b->b.block<w.heap.size:=λh0 b hb=>by
 obtain⟨b',off,e,hlt,_⟩:=h h0;rw[e] at hb;injection hb with hb;subst hb;exact hlt
end Go.Proofs.YtlgoihmkgaaemaaGreat
