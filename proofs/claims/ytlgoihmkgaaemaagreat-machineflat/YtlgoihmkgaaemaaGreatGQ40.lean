import Derived.Test.YtlgoihmkgaaemaaGreatGQ39
set_option maxHeartbeats 20000000
set_option linter.unusedVariables false
set_option maxRecDepth 100000
set_option linter.unusedSimpArgs false
namespace Go.Proofs.YtlgoihmkgaaemaaGreat
open Go.RowKit Tryz
theorem ajN.below {w w':World} {ao:Option Addr} {l:List Int} (h:rI w ao l) (hb:Below w.heap.size w w'):rI w' ao l:=λhl=>by
 obtain⟨b,off,e,hlt,hc⟩:=h hl;exact⟨b,off,e,dV hlt hb.size,λi hi=>(hb.cell (p:=⟨b,off+i,none⟩) hlt).trans (hc i hi)⟩
theorem af1 (st:dB m7) (picks:List Int) (h:(qc nR st picks).1=0):∃s,(qc nR st picks).2=some s:=by
 unfold qc at h ⊢;by_cases c:2000<picks.length
 . rw[aC c] at h;cases h
 rw[aB c] at h ⊢;cases e:fq nR picks picks.length (some st) with
 | none=>rw[e] at h;cases h
 | some s=>exact⟨s,rfl⟩
theorem af2 {f:ky} {lo mb gb:Nat} {D:Nat->Prop} {vr vo:Value} (picks:List Int) (ap:Option Addr) (cp q:Nat) (V:World) (hk:fQ f=0) (hp:PN f.procs) (hg:fR xf (gG lo mb) lo mb gb V D vr vo (qb f)) (hq:V.cell? ⟨q,0,none⟩=some (.slice ap picks.length cp)) (hn:rI V ap picks) (hps:0<picks.length->∀b,ap=some b->b.block<lo) (hpl:picks.length<=140737488351232) :
  Calls prog 74 #[.pointer (some ⟨gb,0,none⟩),.pointer (some ⟨q,0,none⟩)] V (wA xf (gG lo mb) lo mb gb V D vr vo (qc nR (qb f) picks)):=by
 have HS:=ai (Wq (Uv lo mb) picks ap cp V hg (aay hk hp) hn (λh0 b e g=>by have:=(hg.lt (Uv lo mb) _ g).1;have:=hps h0 b e;omega) hpl);obtain⟨X,hX⟩:=ex (qc nR (qb f) picks);rw[<- hX] at HS ⊢;obtain⟨P,hP⟩:=ex (wA xf (gG lo mb) lo mb gb V D vr vo X);have HP:Hid (∀w',(aH (kM gb D vr vo) V w'/\∀s,X.2=some s->cV xf (gG lo mb) lo mb gb V D vr vo s w')->P (.returned (I X.1)) w'):=λw' h=>by
  rw[hP];exact⟨rfl,h.1,h.2⟩
 rw[<- hP];obtain⟨X1,y⟩:=ex X.1;have Mf:Hid (Calls prog 62 #[.pointer (some ⟨gb,0,none⟩),.slice ap picks.length cp] V λe w'=>e=.returned (I X1)/\aH (kM gb D vr vo) V w'/\∀s,X.2=some s->cV xf (gG lo mb) lo mb gb V D vr vo s w'):=by rw[y];exact HS.o
 rw[<- y] at HP;clear hX hP hg HS y hn hps;go_enter func74,ntmps74;go_wp2_with (go_at_call 62;refine Mf.o.mono ?_;rintro e w1 ⟨rfl,hl⟩;have HL:=ai hl;clear hl);exact HP.o _ HL.o
theorem aiA (f:ky) (picks:List Int) (ap:Option Addr) (cp:Nat) (az ar ao:Option Addr) (cs cr co:Nat) (w:World) (h:qF w f az ar ao) (hf:F8 f) (hp:PN f.procs) (hn:rI w ap picks) (hps:0<picks.length->∀b,ap=some b->b.block<w.heap.size) (hpl:picks.length<=140737488351232) :
  Calls prog 24 #[.agg (kZ f az ar ao cs cr co),.slice ap picks.length cp] w (xh w (CJ f picks)):=by
 obtain⟨r,hr⟩:=ex (CJ f picks);have Nt:Hid (∀V q,Below w.heap.size w V->V.cell? ⟨q,0,none⟩=some (.slice ap picks.length cp)->Calls prog 73 #[.agg (kZ f az ar ao cs cr co),.func (.func 74) #[] #[.pointer (some ⟨q,0,none⟩)]] V λe w'=>∃s0 a1 s1 c1 a2 s2 c2 a3 s3 c3 er,e=.returned (.tuple #[.agg #[I s0,.slice a1 s1 c1,.slice a2 s2 c2,.slice a3 s3 c3],I er])/\Below V.heap.size V w'/\∀U,aH (λb=>b<V.heap.size) w' U->Below w.heap.size w U->xh w r (.returned (.tuple #[.agg #[I s0,.slice a1 s1 c1,.slice a2 s2 c2,.slice a3 s3 c3],I er])) U):=λV q hV hq=>by
  rw[hr];refine(Tz f (qc nR (qb f) picks) q az ar ao cs cr co V (h.below hV) hf (af1 _ _) (λhk U lo mb gb D vr vo hU hlo hg=>af2 picks ap cp q U hk hp hg ((hU.cell (p:=⟨q,0,none⟩) (jL _ _ hq)).trans hq) (ajN.below (ajN.below hn hV) hU) (λh0 b e=>dV (hps h0 b e) (eJ hV.size hlo)) hpl)).mono ?_;rintro e w' ⟨a1,c1,a2,c2,a3,c3,rfl,h1,h2⟩;exact⟨_,a1,_,c1,a2,_,c2,a3,_,c3,_,rfl,h2,λU hU hb=>⟨a1,c1,a2,c2,a3,c3,rfl,λV2 h3=>h1 _ (hU.trans h3 (λb _ g=>dV g hV.size)),hb⟩⟩
 rw[<- hr];obtain⟨P,hP⟩:=ex (xh w r);rw[<- hP] at Nt ⊢;clear h hf hp hr hP hn hps;unfold kZ at Nt ⊢;obtain⟨ns,O⟩:=ex f.aj.length;obtain⟨np,C0⟩:=ex f.procs.length;obtain⟨no,L⟩:=ex f.out.length;obtain⟨sl,N⟩:=ex f.slots;rw[<- O,<- C0,<- L,<- N] at Nt ⊢;clear O C0 L N;obtain⟨pl,M⟩:=ex picks.length;rw[<- M] at Nt ⊢;clear M hpl;obtain⟨WQ,A⟩:=ex ((w.alloc (.cells #[I sl,.slice az ns cs,.slice ar np cr,.slice ao no co] 62)).alloc (.cells #[.slice ap pl cp] 48));have G:WQ.heap.size=w.heap.size+1+1:=by rw[A];simp
 have BQ:WQ.heap[w.heap.size+1]?=some (.cells #[.slice ap pl cp] 48 (0,0)):=by
  rw[A];have:=bH (w.alloc (.cells #[I sl,.slice az ns cs,.slice ar np cr,.slice ao no co] 62)) #[.slice ap pl cp] 48;simpa using this
 have F:Below w.heap.size w WQ:=by rw[A];exact((aN w.heap.size w).alloc (aK _) _).alloc ξ _
 have jc:=ai (F.alloc F.size (.cells #[I 0,Nl,Nl,Nl] 62));have hq:(WQ.alloc (.cells #[I 0,Nl,Nl,Nl] 62)).cell? ⟨w.heap.size+1,0,none⟩=some (.slice ap pl cp):=aA (bu BQ _) 0 rfl;have BZ:=bH WQ #[I 0,Nl,Nl,Nl] 62;rw[G] at BZ;obtain⟨WA,pU⟩:=ex (WQ.alloc (.cells #[I 0,Nl,Nl,Nl] 62));rw[<- pU] at jc hq BZ;have J:=ai (Nt.o WA (w.heap.size+1) jc.o hq);have B:=ai BZ;rw[A] at pU;rw[pU] at J;have Au:=ai pU;clear pU A G BQ F hq BZ Nt;go_enter func24,ntmps24;go_wp2_with (go_at_call 73;refine J.o.mono ?_;rintro e w1 ⟨s0,a1,s1,c1,a2,s2,c2,a3,s3,c3,er,rfl,hb,ho⟩;rw[<- Au.o] at hb ho;have cD:=ai hb;have R:=ai ho;have y:=aU B.o hb (aQ B.o);obtain⟨z0,z1,z2,z3⟩:=TD y;have f0:=bG y 0;have f1:=bG y 1;have f2:=bG y 2;have f3:=bG y 3;clear hb ho y);refine b9 (v:=.tuple #[.agg #[I s0,.slice a1 s1 c1,.slice a2 s2 c2,.slice a3 s3 c3],I er]) (by simp[results,results24,go_sem,z0,z1,z2,z3]) rfl ?_;have K:=xU w1 (w.heap.size+1+1) (I s0) (.slice a1 s1 c1) (.slice a2 s2 c2) (.slice a3 s3 c3);have Q:=aQ B.o;exact R.o _ (K.mono (λb _ e=>by rw[e];exact Q)) (aH.below (jc.o.trans (cD.o.mono jc.o.size)) K (eJ jc.o.size cD.o.size) (λb e=>ω))
open Go.RowKit
structure rJ (m:iT) (f:ky):Prop where
 gm:ez fO (mQ m)
 gf:ez kY (qb f)
 ck:fQ f=0
 eq:jO dD (mQ m)=jO gj (qb f)
theorem rJ.procs {m:iT} {f:ky} (h:rJ m f):f.procs=m.procs:=(dC dB.ps h.eq).symm
theorem rJ.out {m:iT} {f:ky} (h:rJ m f):f.out=m.out:=(dC dB.out h.eq).symm
theorem rJ.abs {m:iT} {f:ky} (h:rJ m f):dD m.iF=gj ⟨f.slots,f.aj⟩:=dC dB.mem h.eq
theorem rJ.len {m:iT} {f:ky} (h:rJ m f):m.iF.aj.length=f.aj.length:=by
 have:=dC (λa=>a.DX.length) h.abs;simpa [dD,gj] using this
theorem am9 {f:ky} (h:fQ f=0) (picks:List Int):CJ f picks=if 2000<picks.length then ((uF,2):ky×Int) else match fq nR picks picks.length (some (qb f)) with
  | none=>(uF,2)
  | some s=>(wF s,0):=by
 unfold CJ DD qc;rw[aB (λg=>g h)];by_cases c:2000<picks.length
 . rw[aC c,aC c];rfl
 rw[aB c,aB c];cases fq nR picks picks.length (some (qb f)) with
 | none=>rfl
 | some s=>rfl
theorem afo {m:iT} {f:ky} (h:rJ m f) (picks:List Int):(sL m picks).2=(CJ f picks).2/\((sL m picks).2=0->rJ (sL m picks).1 (CJ f picks).1):=by
 have r:=acE afH afI jr Nf h.gm h.gf h.eq picks picks.length;rw[K7 h.gm,am9 h.ck];by_cases c:2000<picks.length
 . rw[aC c,aC c];exact⟨rfl,λg=>by cases g⟩
 rw[aB c,aB c];cases e:fq dY picks picks.length (some (mQ m)) with
 | none =>
  cases g:fq nR picks picks.length (some (qb f)) with
  | none=>exact⟨rfl,λg=>by cases g⟩
  | some s=>rw[e,g] at r;cases r
 | some s =>
  cases g:fq nR picks picks.length (some (qb f)) with
  | none=>rw[e,g] at r;cases r
  | some s' =>
   rw[e,g] at r;have g1:=yn jr h.gm picks _ s e;have g2:=yn Nf h.gf picks _ s' g;exact⟨rfl,λ_=>⟨g1,g2,Ty g2,by injection r⟩⟩
theorem afq (l:List aX) (hs:List bC) (en nf ns:Int) (he:cH en):((¬(mh l hs en nf ns).2=0\/¬(qL l hs en ns).2=0)/\((qL l hs en ns).2=(mh l hs en nf ns).2\/(mh l hs en nf ns).2=9\/(mh l hs en nf ns).2=3))\/((mh l hs en nf ns).2=0/\(qL l hs en ns).2=0/\rJ (mh l hs en nf ns).1 (qL l hs en ns).1):=by
 rcases Py l hs en nf ns he with c | ⟨c1,c2,c3,c4,c5,c6,B0,c8⟩
 . refine .inl ⟨.inl c,?_⟩;revert c;unfold mh qL px
   grind
 have e:qL l hs en ns=(⟨ns,[⟨true,l,hs.map nT⟩],[jK en],[]⟩,0):=by
  unfold qL;rw[aB (λg=>g c1),aB (λg=>g ⟨c4,c5⟩),aB ω]
 have k:=ac0 c1 c4 c5 c6 (en:=en);rw[B0,e];refine .inr ⟨rfl,rfl,c8,aay k (ac1 he),k,?_⟩;show(⟨dD (pj l hs nf ns),_,_⟩:dB zJ)=⟨gj _,_,_⟩;rw[aib (afG c1) c4];rfl
theorem alq (a b:Int) (V:World):(Op.equalIn 10000 91 (.agg #[I a,I b]) (.agg #[I a,I b])).run prog V=.ok true V:=by
 simp[go_sem]
theorem Q7 (o:List uN) (a1 a2:Option Addr) (c1 c2:Nat) (w:World) (h1:zj w a1 o) (h2:zj w a2 o) (hn:o.length<=140737488351232) :
  Calls prog 26 #[.slice a1 o.length c1,.slice a2 o.length c2] w λe w'=>e=.returned (.bool true)/\Below w.heap.size w w':=by
 have H1:=ai h1;have H2:=ai h2;clear h1 h2;go_enter func26,ntmps26;go_wp2;go_loopw [5] (λiv wr=>∃j:Nat,j<=o.length/\iv=I (j:Int)/\Below w.heap.size w wr) (λiv _=>o.length-(intOf iv).toNat)
 case atStart=>exact⟨0,ω,rfl,aN _ _⟩
 case round =>
  obtain⟨j,hj,rfl,hb⟩:=hrel;have HB:=ai hb;by_cases hlt:j<o.length
  . obtain⟨b,off,B,J,di⟩:=(H1.o.below hb) ω;obtain⟨b',F,A,K,y⟩:=(H2.o.below hb) ω;subst B;subst A;obtain⟨d0,d1⟩:=di j hlt;obtain⟨e0,e1⟩:=y j hlt;obtain⟨⟨wp,wv⟩,hq⟩:∃q,q=qM o j:=⟨_,rfl⟩;rw[<- hq] at d0 d1 e0 e1;simp only at d0 d1 e0 e1;have G:=alq wp wv;clear hq di y hb;go_wp2
    go_quiet (fail)
    go_wp2;go_roundw
    case rel=>exact⟨j+1,ω,by go_num,xq HB.o _⟩
    case measure=>simp[intOf];omega
  obtain rfl:j=o.length:=by omega
  clear hb;go_wp2;go_ret;exact⟨rfl,HB.o⟩
theorem anI:(prog.info? 3).map (λi=>i.size)=some 1:=by kernel_rfl
theorem alp (a0 a1 a2 a3 a4 a5 a6 a7:Int) (V:World):(Op.equalIn 9999 73 (.agg #[I a0,I a1,I a2,I a3,I a4,I a5,I a6,I a7]) (.agg #[I a0,I a1,I a2,I a3,I a4,I a5,I a6,I a7])).run prog V=.ok true V:=by
 obtain⟨i,hi,hs⟩:∃i,prog.info? 3=some i/\i.size=1:=by
  have h:=anI;cases hq:prog.info? 3 with
  | none=>rw[hq] at h;cases h
  | some i=>rw[hq] at h;exact⟨i,rfl,aaH h⟩
 rw[run_equalIn_array (w:=V) 9998 _ _ underlying73 hi];have hc:prog.cellsOf 3=1:=by kernel_rfl
 have q:∀(xs:Array Value) (o:Nat) (v:Value) (U:World),xs[o]?=some v->(part 3 xs o).run prog U=.ok v U:=λxs o v U h=>by simp[part,go_sem,h]
 have b:∀(x:Int) (U:World),(Op.equalIn 9998 3 (I x) (I x)).run prog U=.ok true U:=λx U=>by simpa using run_equalIn_int U 9997 3 .i64 .i64 x x underlying3
 rw[hc];simp[Op.eqItems,q,b,NM]
theorem Q8 (o:List bT) (a1 a2:Option Addr) (c1 c2:Nat) (w:World) (h1:xK w a1 o) (h2:xK w a2 o) (hn:o.length<=140737488351232) :
  Calls prog 25 #[.slice a1 o.length c1,.slice a2 o.length c2] w λe w'=>e=.returned (.bool true)/\Below w.heap.size w w':=by
 have H1:=ai h1;have H2:=ai h2;clear h1 h2;go_enter func25,ntmps25;go_wp2;go_loopw [5] (λiv wr=>∃j:Nat,j<=o.length/\iv=I (j:Int)/\Below w.heap.size w wr) (λiv _=>o.length-(intOf iv).toNat)
 case atStart=>exact⟨0,ω,rfl,aN _ _⟩
 case round =>
  obtain⟨j,hj,rfl,hb⟩:=hrel;have HB:=ai hb;by_cases hlt:j<o.length
  . obtain⟨b,off,F,O,di⟩:=(H1.o.below hb) ω;obtain⟨b',N,A,Q,y⟩:=(H2.o.below hb) ω;subst F;subst A;obtain⟨d0,d1,d2,d3,d4,d5,d6,d7,d8,d9,M,G,L⟩:=di j hlt;obtain⟨e0,e1,e2,e3,e4,e5,e6,e7,e8,e9,J,B,K⟩:=y j hlt;generalize aO o j=q at d0 d1 d2 d3 d4 d5 d6 d7 d8 d9 M G L e0 e1 e2 e3 e4 e5 e6 e7 e8 e9 J B K;have R:=alp (q.r 0) (q.r 1) (q.r 2) (q.r 3) (q.r 4) (q.r 5) (q.r 6) (q.r 7);clear di y hb;go_wp2
    go_quiet (fail)
    go_wp2;go_roundw
    case rel=>exact⟨j+1,ω,by go_num,xq HB.o _⟩
    case measure=>simp[intOf];omega
  obtain rfl:j=o.length:=by omega
  clear hb;go_wp2;go_ret;exact⟨rfl,HB.o⟩
def acL (w:World) (m:iT) (er:Int) (e:Ending) (w':World):Prop:=∃s0 n0 q0 s1 n1 q1 s2 n2 q2 s3 n3 q3 hd s5 q5 s6 q6,e=.returned (.tuple #[.agg #[.slice s0 n0 q0,.slice s1 n1 q1,.slice s2 n2 q2,.slice s3 n3 q3,I hd,.slice s5 m.procs.length q5,.slice s6 m.out.length q6],I er])/\mG w.heap.size m #[.slice s0 n0 q0,.slice s1 n1 q1,.slice s2 n2 q2,.slice s3 n3 q3,I hd,.slice s5 m.procs.length q5,.slice s6 m.out.length q6] w'/\Below w.heap.size w w'
theorem afP {w:World} {r:iT×Int} {e:Ending} {w':World} (h:acA w r e w'):acL w r.1 r.2 e w':=by
 obtain⟨c,h1,h2,h3⟩:=h;obtain⟨s0,n0,q0,s1,n1,q1,s2,n2,q2,s3,n3,q3,hd,s5,q5,s6,q6,rfl⟩:=h2.cells;exact⟨s0,n0,q0,s1,n1,q1,s2,n2,q2,s3,n3,q3,hd,s5,q5,s6,q6,h1,h2,h3⟩
def Uu (x:Nat) (m:iT) (c:Array Value) (W:World):Prop:=W.heap[x]?=some (.cells c 34 (0,0))/\∃N,mG N m c W
theorem WC {N:Nat} {m:iT} {c:Array Value} {w:World} (h:mG N m c w):Uu w.heap.size m c (w.alloc (.cells c 34)):=⟨bH w c 34,N,h.later (aH.alloc _ _ _)⟩
theorem Uu.below {x:Nat} {m:iT} {c:Array Value} {W V:World} (h:Uu x m c W) (g:Below W.heap.size W V):Uu x m c V:=by
 obtain⟨h1,N,h2⟩:=h;exact⟨aU h1 g (aQ h1),N,h2.below g⟩
variable {N N':Nat} {m m':iT} {U:World} {v0 v1 v2 v3 v4 v5 v6 u0 u1 u2 u3 u4 u5 u6:Value}
theorem SD {a b c d e f g a' b' c' d' e' f' g':Value} (h:#[a,b,c,d,e,f,g]=#[a',b',c',d',e',f',g']):#[a,b,c,d,e]=#[a',b',c',d',e']/\f=f'/\g=g':=by
 simp only[aaC,NI,and_true] at h ⊢;obtain⟨h1,h2,h3,h4,h5,h6,h7⟩:=h;exact⟨⟨h1,h2,h3,h4,h5⟩,h6,h7⟩
theorem Ww {N:Nat} {m:iT} {v0 v1 v2 v4 v5 v6:Value} {s3:Option Addr} {n3 q3:Nat} {U:World} (h:mG N m #[v0,v1,v2,.slice s3 n3 q3,v4,v5,v6] U):n3=m.iF.aj.length:=by
 obtain⟨hs,a,ar,cr,ao,co,h1,h2,h3⟩:=h;unfold ir at h2;simp only[aaC,NI,and_true] at h2;obtain⟨_,_,_,e,_⟩:=h2;injection e
theorem ah7 {l:List aX} (h:bj l=0):dQ l:=by
 have hl:=jF l h;refine⟨λi hi=>?_,ω⟩;have:=ig l i (gP l h i hi);unfold EJ;refine⟨⟨ω,ω⟩,⟨ω,ω⟩,ω,ω⟩
theorem akX {f:ky} (h:ez kY (qb f)):f.procs.length=f.aj.length:=by
 have:=dC List.length h.mem.flags;simpa [bY,qb] using this
theorem ah6 {f:ky} (h:ez kY (qb f)):∀j,j<f.aj.length->(aI f.aj j).aJ.length<=100000/\(aI f.aj j).aD.length<=100000:=λj hj=>by
 have he:bW (aI f.aj j)=true:=h.mem.each j hj;have h1:=Zr he;have h2:=oW (aI f.aj j).aJ;refine⟨?_,ω⟩;cases hv:(aI f.aj j).live with
 | true =>
  have:=jF _ (lJ he hv).check;omega
 | false =>
  unfold bW at he;rw[hv] at he;simp only[Ky,qY,cK,fX] at he;omega
theorem akY {g:ky} (h:ez kY (qb g)):F8 g:=by
 have h4:g.aj.length<=4:=h.mem.few.2;have hl:=akX h;have ho:g.out.length<=2000:=h.out;have hs:0<=g.slots/\g.slots<=512:=h.mem.slots;refine⟨⟨ω,ω⟩,⟨by unfold bD;omega,λk hk=>?_⟩,by unfold bD;omega,by unfold bD;omega⟩;have hr:bW (aI g.aj k)=true:=h.mem.each k hk;have b:=ah6 h k hk;cases hv:(aI g.aj k).live with
 | true =>
  have L:=lJ hr hv;refine⟨ah7 L.check,by unfold bD;omega,λj hj=>⟨?_,?_⟩⟩
  . have:=E9 L.check (x:=(bo (aI g.aj k).aD j).page) (by
     rw[<- L.nums];unfold bX;refine tD.2 ⟨_,?_,rfl⟩;unfold bo;rw[cB,fF hj];exact Gk hj)
    exact⟨ω,ω⟩
  unfold bD;rw[L.size j hj];decide
 | false =>
  unfold bW at hr;rw[hv] at hr;simp only[Ky,qY,cK,fX] at hr;have ea:(aI g.aj k).aJ=[]:=NP.1 hr.1;have ep:(aI g.aj k).aD.length=0:=by have:=hr.2;omega
  exact⟨by rw[ea];exact⟨λi hi=>absurd hi (iW _),ξ⟩,by rw[ep];unfold bD;omega,λj hj=>ω⟩
theorem afs {m:iT} {f:ky} (h:rJ m f):F8 f:=akY h.gf
theorem acu {m:iT} {f:ky} (hB:rJ m f) {N:Nat} {s0 s1 s2 s3 az ar ao:Option Addr} {n0 q0 n1 q1 n2 q2 n3 q3 cs cr co:Nat} {hd:Int} {v5 v6:Value} {w:World} (h:mG N m #[.slice s0 n0 q0,.slice s1 n1 q1,.slice s2 n2 q2,.slice s3 n3 q3,I hd,v5,v6] w) (hF:qF w f az ar ao) :
  Calls prog 27 #[.agg #[.slice s0 n0 q0,.slice s1 n1 q1,.slice s2 n2 q2,.slice s3 n3 q3,I hd],.agg (kZ f az ar ao cs cr co)] w λe w'=>e=.returned (.bool true)/\Below w.heap.size w w':=by
 have hl:=hB.len;have h4:=(ze hB.ck).1;obtain rfl:n3=f.aj.length:=(Ww h).trans hl;have Px:Hid (∀V,Below w.heap.size w V->∀(i:Nat) (p:Int),i<f.aj.length->Calls prog 29 #[.agg #[.slice s0 n0 q0,.slice s1 n1 q1,.slice s2 n2 q2,.slice s3 f.aj.length q3,I hd],I i,I p] V λe w'=>e=.returned (.tuple #[.string (vA (dD m.iF) i p).1,I (vA (dD m.iF) i p).2])/\Below V.heap.size V w'):=λV hV i p hi=>acw (h.below hV) hB.gm i ω p
 have b:Hid (∀V,Below w.heap.size w V->∀(i:Nat) (p:Int),Calls prog 75 #[.agg (kZ f az ar ao cs cr co),I i,I p] V λe w'=>e=.returned (.tuple #[.string (vA (dD m.iF) i p).1,I (vA (dD m.iF) i p).2])/\Below V.heap.size V w'):=λV hV i p=>by
  have:=agi f i p az ar ao cs cr co V (hF.below hV) (afs hB);rw[acH hB.ck hB.gf.mem,<- hB.abs] at this;exact this
 unfold kZ at b ⊢;generalize f.aj.length=ns at Px b h4 ⊢;generalize f.procs.length=np at b ⊢;generalize f.out.length=no at b ⊢;generalize f.slots=sl at b ⊢;generalize vA (dD m.iF)=A at Px b;have HW:=ai (((aN w.heap.size w).alloc (aK _) (.cells #[.slice s0 n0 q0,.slice s1 n1 q1,.slice s2 n2 q2,.slice s3 ns q3,I hd] 30)).alloc ξ (.cells #[I sl,.slice az ns cs,.slice ar np cr,.slice ao no co] 62));have X0:=ai (bu (bH w #[.slice s0 n0 q0,.slice s1 n1 q1,.slice s2 n2 q2,.slice s3 ns q3,I hd] 30) (.cells #[I sl,.slice az ns cs,.slice ar np cr,.slice ao no co] 62));have X1:=ai (bH (w.alloc (.cells #[.slice s0 n0 q0,.slice s1 n1 q1,.slice s2 n2 q2,.slice s3 ns q3,I hd] 30)) #[I sl,.slice az ns cs,.slice ar np cr,.slice ao no co] 62);have y:(w.alloc (.cells #[.slice s0 n0 q0,.slice s1 n1 q1,.slice s2 n2 q2,.slice s3 ns q3,I hd] 30)).heap.size=w.heap.size+1:=by simp
 rw[y] at X1;clear h hF hl hB y;go_enter func27,ntmps27;go_upto_region 1 with fail;generalize (w.alloc (.cells #[.slice s0 n0 q0,.slice s1 n1 q1,.slice s2 n2 q2,.slice s3 ns q3,I hd] 30)).alloc (.cells #[I sl,.slice az ns cs,.slice ar np cr,.slice ao no co] 62)=W at HW X0 X1 ⊢;have HC:Hid (∀V,Below W.heap.size W V->(V.cell? (Ad w.heap.size 0)=some (.slice s0 n0 q0)/\V.cell? (Ad w.heap.size 1)=some (.slice s1 n1 q1)/\V.cell? (Ad w.heap.size 2)=some (.slice s2 n2 q2)/\V.cell? (Ad w.heap.size 3)=some (.slice s3 ns q3)/\V.cell? (Ad w.heap.size 4)=some (I hd))/\(V.cell? (Ad (w.heap.size+1) 0)=some (I sl)/\V.cell? (Ad (w.heap.size+1) 1)=some (.slice az ns cs)/\V.cell? (Ad (w.heap.size+1) 2)=some (.slice ar np cr)/\V.cell? (Ad (w.heap.size+1) 3)=some (.slice ao no co))):=λV hV=>⟨o5 (aU X0.o hV (aQ X0.o)),TD (aU X1.o hV (aQ X1.o))⟩
 have HB:Hid (∀V,Below W.heap.size W V->Below w.heap.size w V):=λV hV=>HW.o.trans (hV.mono HW.o.size)
 go_wp2;go_loopw [5] (λiv wq=>∃i:Nat,i<=ns/\iv=I (i:Int)/\Below W.heap.size W wq) (λiv _=>ns-(intOf iv).toNat)
 case atStart=>exact⟨0,ω,rfl,aN _ _⟩
 case round =>
  obtain⟨i,hi,rfl,hb⟩:=hrel;have H:=ai hb;obtain⟨k,j⟩:=HC.o _ hb;clear hb;by_cases c:i<ns
  . have ci:(i:Int)<(ns:Int):=by omega
    go_wp2;clear k j;go_loopw [6] (λiv wq=>∃p:Nat,p<=257/\iv=I (p:Int)/\Below W.heap.size W wq) (λiv _=>257-(intOf iv).toNat)
    case atStart=>exact⟨0,ω,rfl,H.o⟩
    case round =>
     obtain⟨p,hp,rfl,hb⟩:=hrel;have H:=ai hb;obtain⟨k,-⟩:=HC.o _ hb;have q:=ai (Px.o _ (HB.o _ hb) i p c);have cD:=ai (λV hV=>b.o V (HB.o V hV) i p);generalize (A i p).1=PS at q cD;generalize (A i p).2=PE at q cD;clear hb;by_cases cp:p<=256
     . have cq:(p:Int)<=256:=by omega
       go_wp2_with (first
        | (go_at_call 29;refine q.o.mono ?_;rintro e w3 ⟨rfl,h⟩;have H3:=ai (H.o.trans (h.mono H.o.size));obtain⟨-,j⟩:=HC.o _ H3.o;clear h)
        | (go_at_call 75;refine(cD.o _ H3.o).mono ?_;rintro e w4 ⟨rfl,h⟩;have H4:=ai (H3.o.trans (h.mono H3.o.size));clear h))
       go_roundw
       case rel=>exact⟨p+1,ω,by go_num,H4.o⟩
       case measure=>simp[intOf];omega
     obtain rfl:p=257:=by omega
     clear k q cD;go_wp2;go_roundw
     case rel=>exact⟨i+1,ω,by go_num,H.o⟩
     case measure=>simp[intOf];omega
  obtain rfl:i=ns:=by omega
  go_wp2;go_ret;exact⟨ξ,HB.o _ H.o⟩
theorem acY (hs:List bC) (k:Nat) (h:k<hs.length):((hs.take (k+1)).map nT).flatMap dg=((hs.take k).map nT).flatMap dg++[I (bk hs k).page,.string (jE (bk hs k)).1]:=by
 have e:hs.take (k+1)=hs.take k++[bk hs k]:=by
  rw[ai9,fF h];unfold bk;rw[cB,fF h];rfl
 rw[e,tF,tH];rfl
theorem ajM (w:World) (o:Obj) (C:Array Value) (t:TypeId):((w.alloc o).alloc (.cells C t)).heap[w.heap.size+1]?=some (.cells C t (0,0)):=by
 have:=bH (w.alloc o) C t;simpa using this
theorem aiB (l:List aX) (hs:List bC) (en slots:Int) (aa ah:Option Addr) (na ca ch:Nat) (w:World) (ha:gD w (.slice aa na ca) l) (hf:dQ l) (h:kq w ah hs) (Lp:uh hs) (hcap:hs.length<=ch) (he:cH en) :
  Calls prog 23 #[.agg #[.slice aa na ca,.slice ah hs.length ch,I en],I slots] w (xh w (qL l hs en slots)):=by
 have ym:=ai λV (hV:Below w.heap.size w V)=>Oe l hs en _ ah ch V (ha.below hV) hf (h.below hV) Lp hcap he
 have X:=ai λV (hV:Below w.heap.size w V)=>rW _ _ _ (ha.below hV) hf
 have WI:Hid (bj l=0->∀V,Below w.heap.size w V->Calls prog 71 #[.slice aa na ca] V λe w'=>∃a' c',e=.returned (.slice a' l.length c')/\eB V.heap.size w' (.slice a' l.length c') l/\Below V.heap.size V w'):=λhk V hV=>by
  obtain⟨hn,Rl⟩:=LW (ha.below hV);subst hn;refine(WO aa l.length ca (cW l) V ?_ Rl ?_ (by have:=jF _ hk;omega)).mono ?_
  . exact wT l
  . exact wO l
  rintro e w' ⟨v,rfl,h1,h2⟩;obtain⟨a',c',rfl,_,_⟩:=aZ h1;exact⟨a',c',rfl,h1,h2⟩
 have Aw:Hid (∀k,k<hs.length->∀V,Below w.heap.size w V->Calls prog 72 #[.agg (ux (bk hs k))] V λe w'=>e=.returned (.tuple #[.string (jE (bk hs k)).1,I (jE (bk hs k)).2])/\Below V.heap.size V w'):=λk hk V hV=>by
  obtain⟨b,off,_,_,hl⟩:=(h.below hV) ω;exact Rz (bk hs k) V (hl k hk).2.2.2 (Lp.2 k hk)
 have aR:=ai (λV=>PX en V);have Xx:=ai (λ(g:gU l hs en=0)=>Zb g);have Xz:=ai (λ(g:gU l hs en=0)=>(DC g).1);have az:=ai (oW l);have af:=ai h;have aP:=ai (acY hs);have y:Hid (qL l hs en slots=if ¬gU l hs en=0 then (uF,gU l hs en) else if ¬(0<=slots/\slots<=512) then (uF,3) else if slots<bf l then (uF,8) else (⟨slots,[⟨true,l,hs.map nT⟩],[jK en],[]⟩,0)):=rfl;generalize gU l hs en=ck at ym Xx Xz y;generalize bf l=tt at X Xx az y;generalize qL l hs en slots=R at y ⊢;generalize hP:xh w R=P;have HP:Hid (∀e w',xh w R e w'->P e w'):=λe w' h=>by rw[<- hP];exact h
 obtain⟨n,hn⟩:=ex hs.length;rw[<- hn] at ym Aw Xx ⊢;have HN:=ai hn;obtain⟨WA,x,z,pU,hx,hz,bP,cn,b2,ad,hV⟩:=Hp w #[.slice aa na ca,.slice ah n ch,I en] #[I 0,Nl,Nl,Nl] 25 62;have jc:Hid (Below w.heap.size w WA):=by rw[hx];exact b2
 have IK:=ai λV hb=>zn (hV V hb).1
 have J:=ai λV hb=>And.intro (TD (hV V hb).2) (bG (hV V hb).2)
 have b3:Hid (w.heap.size<=z):=by show _<=_;omega
 obtain⟨x0,x1,x2⟩:=IK.o _ (aN _ _);obtain⟨⟨z0,z1,z2,z3⟩,f0⟩:=J.o _ (aN _ _);clear h ha hf Lp hP hn he hcap b2 hV;go_enter func23,ntmps23;go_wp2_with fail;clear pU hx hz x0 x1 x2 z0 z1 z2 z3 f0;have sk:Hid (∀(V:World) (er:Int),R=(uF,er)->Below WA.heap.size WA V->P (.returned (.tuple #[.agg #[I 0,Nl,Nl,Nl],I er])) ((((V.setCell (Ad z 0) (I 0)).setCell (Ad z 1) Nl).setCell (Ad z 2) Nl).setCell (Ad z 3) Nl)):=λV er hRe hV=>by
  refine HP.o _ _ ?_;rw[hRe];exact⟨none,0,none,0,none,0,rfl,λV _=>Ng V,aH.below (jc.o.trans (hV.mono jc.o.size)) (xU V z _ _ _ _) (eJ jc.o.size hV.size) (λb e=>by rw[e];exact b3.o)⟩
 refine(ym.o _ jc.o).mono ?_;rintro e w1 ⟨rfl,Z⟩;have cD:=ai Z;obtain⟨⟨z0,z1,z2,z3⟩,f0⟩:=J.o _ Z;obtain⟨x0,x1,x2⟩:=IK.o _ Z;clear Z ym;by_cases ZL:ck=0
 . subst ZL;obtain⟨bL,cj⟩:=Xx.o rfl;have bS:(n:Int)<=65025:=by omega
   have au:=ai (WI.o (Xz.o rfl));have Tv:=ai (y.o.trans (aB (λg=>g rfl)));clear y Xx Xz WI;by_cases hs0:0<=slots
   . by_cases hs5:slots<=512
     . by_cases hst:slots<tt
       . have uP:=ai (Tv.o.trans ((aB (λg=>g ⟨hs0,hs5⟩)).trans (aC hst)));clear Tv;go_wp2_with (go_at_call 70;refine(X.o _ (jc.o.trans (cD.o.mono jc.o.size))).mono ?_;rintro e w2 ⟨rfl,M⟩;have iJ:=ai (cD.o.trans (M.mono cD.o.size));obtain⟨⟨y0,y1,y2,y3⟩,g0⟩:=J.o _ iJ.o;clear M);refine b9 ?_ rfl (sk.o _ _ uP.o iJ.o);simp[results,results23,go_sem,y0,y1,y2,y3]
       have uP:=ai (Tv.o.trans ((aB (λg=>g ⟨hs0,hs5⟩)).trans (aB hst)));clear Tv;go_wp2_with (first
        | (go_at_call 70;refine(X.o _ (jc.o.trans (cD.o.mono jc.o.size))).mono ?_;rintro e w2 ⟨rfl,M⟩;have iJ:=ai (cD.o.trans (M.mono cD.o.size));obtain⟨q0,q1,q2⟩:=IK.o _ iJ.o;clear M)
        | (go_at_call 71;refine(au.o _ (jc.o.trans (iJ.o.mono jc.o.size))).mono ?_;rintro e w3 ⟨a3,c3,rfl,aF,b1⟩;have bx:=ai aF;have ou:=ai (iJ.o.trans (b1.mono iJ.o.size));obtain⟨p0,p1,p2⟩:=IK.o _ ou.o;have cm:x<w3.heap.size:=jL _ _ p0;have cp:¬x=w3.heap.size:=ω;clear aF b1))
       have ay:=ai (bH w3 #[.bool true,.slice a3 l.length c3,Nl] 142);have CF:=ai ((aN w3.heap.size w3).alloc (aK _) (.cells #[.bool true,.slice a3 l.length c3,Nl] 142));obtain⟨i0,b0,aL,b4,a4⟩:=kI QX;have Mk:=ai b0;have Tn:=ai aL;have Nr:=ai b4;have DY:=ai a4;have G:=ai (jc.o.trans (ou.o.mono jc.o.size));clear b0 aL b4 a4 q0 q1 q2 x0 x1 x2 z0 z1 z2 z3 f0 X au;go_loopw [40] (λiv wr=>∃(k:Nat) (av:Option Addr) (cv:Nat),k<=n/\iv=I (k:Int)/\wr.heap[w3.heap.size]?=some (.cells #[.bool true,.slice a3 l.length c3,.slice av k cv] 142 (0,0))/\wr.ownsRow (w3.heap.size+1) 148 2 (.slice av k cv) k (((hs.take k).map nT).flatMap dg)/\Below w3.heap.size w3 wr) (λiv _=>n-(intOf iv).toNat)
       case atStart=>exact⟨0,none,0,ω,rfl,ay.o,pT _ _ _ _,CF.o⟩
       case round =>
        obtain⟨k,av,cv,hk,rfl,W,Q,a0⟩:=hrel;have T:=ai W;have ac:=ai Q;have q:=ai a0;have bd:w3.heap.size<wr.heap.size:=aQ W;by_cases hlt:k<n
        . have C2:(k:Int)<(n:Int):=by omega
          obtain⟨b,off,b8,c5,di⟩:=(af.o.below (G.o.trans (a0.mono G.o.size))) (by have:=HN.o;omega);subst b8;obtain⟨c0,c1,c2,_⟩:=di k (by have:=HN.o;omega);have XG:=ai (Aw.o k hlt);have a1:=ai (aP.o k (by have:=HN.o;omega));unfold ux at XG;obtain⟨S,hS⟩:=ex (bk hs k);rw[<- hS] at c0 c1 c2 XG a1;obtain⟨sp,al⟩:=ex S.page;obtain⟨sd,am⟩:=ex S.data;obtain⟨sf,an⟩:=ex S.dR.length;obtain⟨FD,aw⟩:=ex ((jE S).1);obtain⟨FE,aG⟩:=ex ((jE S).2);rw[<- al] at c0 XG a1;rw[<- am] at c1 XG;rw[<- an] at c2 XG;rw[<- aw] at XG a1;rw[<- aG] at XG;have F:=ai ((aN wr.heap.size wr).alloc (aK _) (.cells #[I sp,.string sd,.slice S.ao sf S.cap] 145));have aE:=ai (bH wr #[I sp,.string sd,.slice S.ao sf S.cap] 145);clear W Q a0 di hS al am an aw aG;go_wp2_with (first
           | (at_builtin;refine m8 (P:=prog) rfl _ _ 140 rfl (w3.heap.size+1) 148 i0 (.agg #[I 0,.string ⟨#[]⟩]) 2 24 underlying140 Mk.o Tn.o Nr.o DY.o rfl Δ _ k (((hs.take k).map nT).flatMap dg) rfl (ab.o.alloc _) (some (Ad w5.heap.size 0)) 1 1 [I sp,.string FD] rfl rfl (λ_=>⟨_,rfl,xY (bH w5 _ _)⟩) (by intro u hu;simp at hu;rcases hu with rfl | rfl <;> rfl) (by unfold maxLen;omega) ω (by simp;omega) ?_;intro v' w6 O a9 bp;obtain⟨a6,c6,bi,_,_⟩:=aZ O;subst bi;have b6:=ai O;have bz:=ai a9;have a7:=ai (AK (bu aS.o (.cells #[I sp,.string FD] 148)) a9 (λe=>by have:=(ab.o.lt _ e.symm).1;omega));have t6:w6.cell? (Ad w3.heap.size 2)=some (.slice av k cv):=aA a7.o 2 rfl;have t7:=bG a7.o 2;clear O a9 bp)
           | (go_at_call 72;refine(XG.o _ (G.o.trans ((q.o.trans (F.o.mono q.o.size)).mono G.o.size))).mono ?_;rintro e w5 ⟨rfl,Fu⟩;have Nu:=ai (q.o.trans ((F.o.trans (Fu.mono F.o.size)).mono q.o.size));have c7:=(F.o.trans (Fu.mono F.o.size)).size;have aS:=ai (aU (bu T.o (.cells #[I sp,.string sd,.slice S.ao sf S.cap] 145)) Fu (aQ (bu T.o _)));have ab:=ai (aH.row (aH.bQ (D:=λ_=>False) (F.o.trans (Fu.mono F.o.size))) ac.o (λ_ _ g=>g));have t5:w5.cell? (Ad w3.heap.size 2)=some (.slice av k cv):=aA aS.o 2 rfl;have t4:w5.cell? (Ad wr.heap.size 0)=some (I sp):=aA (aU aE.o Fu (aQ aE.o)) 0 rfl;clear Fu))
          go_roundw
          case rel =>
           refine⟨k+1,a6,c6,ω,by go_num,?_,?_,?_⟩
           . exact gH a7.o 2 _
           . have hr:=aH.row (aH.set (λb=>b=w3.heap.size) w6 (Ad w3.heap.size 2) (.slice a6 (k+1) c6) rfl) b6.o (λg hg e=>by have:=(b6.o.lt g hg).1;omega);rw[a1.o];exact hr
           have ag:aH (λb=>w3.heap.size<=b) w5 w6:=((aH.alloc (λb=>w3.heap.size<=b) w5 (.cells #[I sp,.string FD] 148)).trans (aH.grown (D:=λb=>w3.heap.size<=b) bz.o (λg hg=>by have:=(ab.o.lt g hg).1;omega)) (λ_ _ g=>g));exact aH.below (aH.below Nu.o ag Nu.o.size (λb g=>g)) (aH.set (λb=>w3.heap.size<=b) w6 (Ad w3.heap.size 2) _ (aK _)) (eJ Nu.o.size ag.size) (λb g=>g)
          case measure=>simp[intOf];omega
        obtain rfl:n=k:=by omega
        clear W Q a0;have bv:Hid (∀V,Calls prog 31 #[I en] V λe w'=>e=.returned (.agg #[I 0,I 0,I 0,I 0,I 0,I 0,I 0,I 0,I en,I 1,I 0,I 0,I 0])/\Below V.heap.size V w'):=λV=>aR.o V
        have B:=ai (ou.o.trans (q.o.mono ou.o.size));obtain⟨⟨z0,z1,z2,z3⟩,f0⟩:=J.o _ B.o;obtain⟨r0,r1,r2⟩:=IK.o _ B.o;obtain⟨t0,t1,t2⟩:=zn T.o;have az:Hid (wr.drew.heap[w3.heap.size]?=some (.cells #[.bool true,.slice a3 l.length c3,.slice av n cv] 142 (0,0))):=T.o;have bm:=ai ((aN wr.heap.size wr).drew);have ae:Hid (∀o,Below wr.heap.size wr (wr.alloc o).drew/\wr.heap.size<=(wr.alloc o).drew.heap.size):=λo=>⟨((aN wr.heap.size wr).alloc (aK _) o).drew,((aN wr.heap.size wr).alloc (aK _) o).drew.size⟩
        have fV:Hid (∀(Y:World) (A C:Nat),Y.heap[A]?=some (.cells #[.bool true,.slice a3 l.length c3,.slice av n cv] 142 (0,0))->Y.heap[C]?=some (.cells #[I 0,I 0,I 0,I 0,I 0,I 0,I 0,I 0,I en,I 1,I 0,I 0,I 0] 77 (0,0))->Below wr.heap.size wr Y->wr.heap.size<=A->wr.heap.size<=C->P (.returned (.tuple #[.agg #[I slots,.slice (some (Ad A 0)) 1 1,.slice (some (Ad C 0)) 1 1,Nl],I 0])) ((((Y.setCell (Ad z 0) (I slots)).setCell (Ad z 1) (.slice (some (Ad A 0)) 1 1)).setCell (Ad z 2) (.slice (some (Ad C 0)) 1 1)).setCell (Ad z 3) Nl)):=λY A C hA hC hY hAl hCl=>by
         refine HP.o _ _ ?_;rw[uP.o];have ap:=xU Y z (I slots) (.slice (some (Ad A 0)) 1 1) (.slice (some (Ad C 0)) 1 1) Nl;have cf:=G.o.size;have c9:=q.o.size;have cg:z<w3.heap.size:=dV ad ou.o.size;have cd:=b3.o;refine⟨some (Ad A 0),1,some (Ad C 0),1,none,0,rfl,λV hV=>?_,?_⟩
         . have hk:aH (λb=>b<=z) Y V:=(ap.mono (λb _ e=>NA e)).trans hV (λb _ g=>by have g':b<w.heap.size:=g;omega);have gA:=hk.keep hA (λg=>by have g':A<=z:=g;omega);have gC:=hk.keep hC (λg=>by have g':C<=z:=g;omega);have hO:eB (z+1) V (.slice a3 l.length c3) l:=by
            have h1:=bx.o;have h2:w3.ownsRow w2.heap.size 139 4 (.slice a3 l.length c3) l.length (cW l):=h1;have a4:z<w2.heap.size:=dV ad iJ.o.size;have h3:=aH.row (aH.bQ (D:=λ_=>False) q.o) h2 (λ_ _ g=>g);have h4:=aH.row (aH.bQ (D:=λ_=>False) hY) h3 (λ_ _ g=>g);have h5:=aH.row hk h4 (λg hg e=>by have g':g<=z:=e;have:=(h2.lt g hg).1;omega);exact m9 h5 (λg hg=>by have:=(h2.lt g hg).1;omega)
           have K:=aH.row hk (aH.row (aH.bQ (D:=λ_=>False) hY) ac.o (λ_ _ g=>g)) (λg hg e=>by have g':g<=z:=e;have:=(ac.o.lt g hg).1;omega);have a5:(hs.take n).map nT=hs.map nT:=by rw[HN.o,qJ]
           rw[a5] at K;have a2:(hs.map nT).length=n:=by rw[fI,HN.o]
           have bt:rU V av (hs.map nT):=λhp=>by
            obtain⟨Fl,b5,e0,_,hg⟩:=aZ K;injection e0 with ea _ _;obtain⟨g,bn,_,bb⟩:=hg ω;have aj:av=some (Ad g 0):=ea.trans bn;refine⟨g,0,aj,bb,λi hi=>?_⟩;rw[aj,<- a2] at K;rw[nj];exact⟨gw dg jz zk K i 0 hi ω,gw dg jz zk K i 1 hi ω⟩
           refine⟨λ_=>⟨A,0,rfl,aQ gA,λi hi=>?_⟩,λ_=>⟨C,0,rfl,aQ gC,λi hi=>?_⟩,λg=>absurd g (iW _)⟩
           . have ba:i<1:=hi;obtain rfl:i=0:=by omega
             refine⟨_,av,cv,aA gA 0 rfl,aA gA 1 rfl,?_,eB.has hO,bt,?_⟩
             . have:=aA gA 2 (v:=.slice av n cv) rfl;rw[<- a2] at this;exact this
             show(hs.map nT).length<=cv;obtain⟨Fl,b5,e0,bF,_⟩:=aZ K;injection e0 with _ _ ec;omega
           have ba:i<1:=hi;obtain rfl:i=0:=by omega
           exact⟨aA gC 0 rfl,aA gC 1 rfl,aA gC 2 rfl,aA gC 3 rfl,aA gC 4 rfl,aA gC 5 rfl,aA gC 6 rfl,aA gC 7 rfl,aA gC 8 rfl,aA gC 9 rfl,aA gC 10 rfl,aA gC 11 rfl,aA gC 12 rfl⟩
         exact aH.below ((G.o.trans (q.o.mono G.o.size)).trans (hY.mono ω)) ap (by have:=hY.size;omega) (λb e=>by have e':b=z:=e;omega)
        have c8:¬x=wr.heap.size:=by have:=jL _ _ r0;have h':x<wr.heap.size:=this;omega
        have ci:z<wr.heap.size:=dV ad B.o.size;have cb:¬z=wr.heap.size:=by omega
        have co:¬w3.heap.size=wr.heap.size:=by omega
        have r3:∀o,(wr.alloc o).cell? (Ad x 2)=some (I en):=λo=>(IK.o _ (B.o.alloc B.o.size o)).2.2
        clear aR Aw af aP sk uP HP p0 p1 p2 ay CF Mk Tn Nr DY;go_wp2_with fail
        go_region_law (go_simp;go_at_call 31;refine(bv.o _).mono ?_;rintro e w7 ⟨rfl,L⟩;have U:wr.heap.size<=w7.heap.size:=(by first | exact L.size | (have:=L.size;simp at this;omega));have N:Hid (Below wr.heap.size wr w7):=(by first | exact bm.o.trans L | exact(ae.o _).1.trans (L.mono (ae.o _).2));have bs:=ai L;have a8:=aU T.o N.o bd;obtain⟨u0,u1,u2⟩:=zn a8;have Y1:=ai (B.o.trans (N.o.mono B.o.size));obtain⟨⟨v0,v1,v2,v3⟩,g0⟩:=J.o _ Y1.o;have e:=(λo=>J.o _ (Y1.o.alloc Y1.o.size o));have k':=(λo o'=>J.o _ ((Y1.o.alloc Y1.o.size o).alloc (Y1.o.alloc Y1.o.size o).size o'));have u3:=(λo=>zn (bu a8 o));have bA:¬z=w7.heap.size:=ω;have cl:¬z=w7.heap.size+1:=ω;have ce:¬w3.heap.size=w7.heap.size:=ω;have cc:¬w3.heap.size=w7.heap.size+1:=ω;clear L a8;go_simp)
        all_goals
         go_wp2;refine b9 (v:=?_) ?_ rfl ?_;rotate_left 2
         . refine fV.o _ _ _ ?_ ?_ ?_ ?_ ?_
           . first
              | exact bu (bH w7 _ _) _
              | exact ajM w7 _ _ _
              | exact bu (aU (w:=(wr.alloc (.cells #[.bool true,.slice a3 l.length c3,.slice av n cv] 142)).drew) (bH wr #[.bool true,.slice a3 l.length c3,.slice av n cv] 142) bs.o (show wr.heap.size<(wr.alloc (.cells #[.bool true,.slice a3 l.length c3,.slice av n cv] 142)).heap.size by simp)) _
           . first
              | exact bH w7 _ _
              | exact ajM w7 _ _ _
              | exact bu (bH w7 _ _) _
           . first
              | exact N.o.alloc U _
              | exact(N.o.alloc U _).alloc (N.o.alloc U _).size _
           . first
              | exact aK _
              | exact U
              | omega
           first
            | exact U
            | omega
         simp[results,results23,go_sem,Act.put,v0,v1,v2,v3,e,k']
     have uP:=ai (Tv.o.trans (aC (λg=>hs5 g.2)));clear Tv;go_wp2;refine b9 ?_ rfl (sk.o _ _ uP.o cD.o);simp[results,results23,go_sem,z0,z1,z2,z3]
   have uP:=ai (Tv.o.trans (aC (λg=>hs0 g.1)));clear Tv;go_wp2;refine b9 ?_ rfl (sk.o _ _ uP.o cD.o);simp[results,results23,go_sem,z0,z1,z2,z3]
 have uP:=ai (y.o.trans (aC ZL));have C2:(ck==0)=false:=by rw[gT];exact ZL
 clear y ZL Xx Xz WI;go_wp2;refine b9 ?_ rfl (sk.o _ _ uP.o cD.o);simp[results,results23,go_sem,z0,z1,z2,z3]
end Go.Proofs.YtlgoihmkgaaemaaGreat
