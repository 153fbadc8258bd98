import Derived.Test.YtlgoihmkgaaemaaGreatGM35
set_option maxHeartbeats 20000000
set_option linter.unusedVariables false
set_option maxRecDepth 100000
set_option linter.unusedSimpArgs false
namespace Go.Proofs.YtlgoihmkgaaemaaGreat
open Go.RowKit
theorem aeb (a b:Int) (V:World):(Op.equalIn 10000 91 (.agg #[I a,I b]) (.agg #[I a,I b])).run Tryz.prog V=.ok true V:=by
 simp[go_sem]
theorem My (o:List rY) (a1 a2:Option Addr) (c1 c2:Nat) (w:World) (h1:wh w a1 o) (h2:wh w a2 o) (hn:o.length<=140737488351232) :
  Calls Tryz.prog 26 #[.slice a1 o.length c1,.slice a2 o.length c2] w fun e w'=>e=.returned (.bool true)/\Below w.heap.size w w':=by
 have H1:=ai h1;have H2:=ai h2;clear h1 h2;go_enter Tryz.func26,Tryz.ntmps26;go_wp2;go_loopw [5] (fun iv wr=>∃j:Nat,j<=o.length/\iv=I (j:Int)/\Below w.heap.size w wr) (fun iv _=>o.length-(intOf iv).toNat)
 case atStart=>exact⟨0,by omega,rfl,aJ _ _⟩
 case round =>
  obtain⟨j,hj,rfl,hb⟩:=hrel;have HB:=ai hb;by_cases hlt:j<o.length
  · obtain⟨b,off,hao,hbl,eX⟩:=(H1.o.below hb) (by omega);obtain⟨b',off',hao',aoH,XG⟩:=(H2.o.below hb) (by omega);subst hao;subst hao';obtain⟨d0,d1⟩:=eX j hlt;obtain⟨e0,e1⟩:=XG j hlt;obtain⟨⟨wp,wv⟩,hq⟩:∃q,q=oL o j:=⟨_,rfl⟩;rw[<- hq] at d0 d1 e0 e1;simp only at d0 d1 e0 e1;have hEQ:=aeb wp wv;clear hq eX XG hb;go_wp2
    go_quiet (fail)
    go_wp2;go_roundw
    case rel=>exact⟨j+1,by omega,by go_num,C4 HB.o _⟩
    case measure=>simp[intOf];omega
  · obtain rfl:j=o.length:=by omega
    clear hb;go_wp2;go_ret;exact⟨rfl,HB.o⟩
open Go.RowKit
theorem age:(Tryz.prog.info? 3).map (fun i=>i.size)=some 1:=by kernel_rfl
theorem aea (a0 a1 a2 a3 a4 a5 a6 a7:Int) (V:World):(Op.equalIn 9999 73 (.agg #[I a0,I a1,I a2,I a3,I a4,I a5,I a6,I a7]) (.agg #[I a0,I a1,I a2,I a3,I a4,I a5,I a6,I a7])).run Tryz.prog V=.ok true V:=by
 obtain⟨i,hi,hs⟩:∃i,Tryz.prog.info? 3=some i/\i.size=1:=by
  have h:=age;cases hq:Tryz.prog.info? 3 with
  | none=>rw[hq] at h;cases h
  | some i=>rw[hq] at h;exact⟨i,rfl,Option.some.inj h⟩
 rw[run_equalIn_array (w:=V) 9998 _ _ Tryz.underlying73 hi];have hc:Tryz.prog.cellsOf 3=1:=by kernel_rfl
 have hpt:∀(xs:Array Value) (o:Nat) (v:Value) (U:World),xs[o]?=some v->(part 3 xs o).run Tryz.prog U=.ok v U:=fun xs o v U h=>by simp[part,go_sem,h]
 have hei:∀(x:Int) (U:World),(Op.equalIn 9998 3 (I x) (I x)).run Tryz.prog U=.ok true U:=fun x U=>by simpa using run_equalIn_int U 9997 3 .i64 .i64 x x Tryz.underlying3
 rw[hc];simp[Op.eqItems,hpt,hei,O4]
open Go.RowKit
theorem Mz (o:List bO) (a1 a2:Option Addr) (c1 c2:Nat) (w:World) (h1:uI w a1 o) (h2:uI w a2 o) (hn:o.length<=140737488351232) :
  Calls Tryz.prog 25 #[.slice a1 o.length c1,.slice a2 o.length c2] w fun e w'=>e=.returned (.bool true)/\Below w.heap.size w w':=by
 have H1:=ai h1;have H2:=ai h2;clear h1 h2;go_enter Tryz.func25,Tryz.ntmps25;go_wp2;go_loopw [5] (fun iv wr=>∃j:Nat,j<=o.length/\iv=I (j:Int)/\Below w.heap.size w wr) (fun iv _=>o.length-(intOf iv).toNat)
 case atStart=>exact⟨0,by omega,rfl,aJ _ _⟩
 case round =>
  obtain⟨j,hj,rfl,hb⟩:=hrel;have HB:=ai hb;by_cases hlt:j<o.length
  · obtain⟨b,off,hao,hbl,eX⟩:=(H1.o.below hb) (by omega);obtain⟨b',off',hao',aoH,XG⟩:=(H2.o.below hb) (by omega);subst hao;subst hao';obtain⟨d0,d1,d2,d3,d4,d5,d6,d7,d8,d9,d10,d11,d12⟩:=eX j hlt;obtain⟨e0,e1,e2,e3,e4,e5,e6,e7,e8,e9,e10,e11,e12⟩:=XG j hlt;obtain⟨q,hq⟩:=ex (aK o j);rw[<- hq] at d0 d1 d2 d3 d4 d5 d6 d7 d8 d9 d10 d11 d12 e0 e1 e2 e3 e4 e5 e6 e7 e8 e9 e10 e11 e12;have hE8:=aea (q.r 0) (q.r 1) (q.r 2) (q.r 3) (q.r 4) (q.r 5) (q.r 6) (q.r 7);clear hq eX XG hb;go_wp2
    go_quiet (fail)
    go_wp2;go_roundw
    case rel=>exact⟨j+1,by omega,by go_num,C4 HB.o _⟩
    case measure=>simp[intOf];omega
  · obtain rfl:j=o.length:=by omega
    clear hb;go_wp2;go_ret;exact⟨rfl,HB.o⟩
open Go.RowKit
def G9 (w:World) (m:iM) (er:Int) (e:Ending) (w':World):Prop:=∃s0 n0 q0 s1 n1 q1 s2 n2 q2 s3 n3 q3 hd s5 q5 s6 q6,e=.returned (.tuple #[.agg #[.slice s0 n0 q0,.slice s1 n1 q1,.slice s2 n2 q2,.slice s3 n3 q3,I hd,.slice s5 m.procs.length q5,.slice s6 m.out.length q6],I er])/\ki w.heap.size m #[.slice s0 n0 q0,.slice s1 n1 q1,.slice s2 n2 q2,.slice s3 n3 q3,I hd,.slice s5 m.procs.length q5,.slice s6 m.out.length q6] w'/\Below w.heap.size w w'
theorem QZ {w:World} {r:iM×Int} {e:Ending} {w':World} (h:Wk w r e w'):G9 w r.1 r.2 e w':=by
 obtain⟨c,h1,h2,h3⟩:=h;obtain⟨s0,n0,q0,s1,n1,q1,s2,n2,q2,s3,n3,q3,hd,s5,q5,s6,q6,rfl⟩:=h2.cells;exact⟨s0,n0,q0,s1,n1,q1,s2,n2,q2,s3,n3,q3,hd,s5,q5,s6,q6,h1,h2,h3⟩
def Pp (x:Nat) (m:iM) (c:Array Value) (W:World):Prop:=W.heap[x]?=some (.cells c 34 (0,0))/\∃N,ki N m c W
theorem Ec {N:Nat} {m:iM} {c:Array Value} {w:World} (h:ki N m c w):Pp w.heap.size m c (w.alloc (.cells c 34)):=⟨bD w c 34,N,h.later (aC.alloc _ _ _)⟩
theorem Pp.below {x:Nat} {m:iM} {c:Array Value} {W V:World} (h:Pp x m c W) (g:Below W.heap.size W V):Pp x m c V:=by
 obtain⟨h1,N,h2⟩:=h;exact⟨aN h1 g (aI h1),N,h2.below g⟩
variable {N N':Nat} {m m':iM} {U:World} {v0 v1 v2 v3 v4 v5 v6 u0 u1 u2 u3 u4 u5 u6:Value}
theorem Be {a b c d e f g a' b' c' d' e' f' g':Value} (h:#[a,b,c,d,e,f,g]=#[a',b',c',d',e',f',g']):#[a,b,c,d,e]=#[a',b',c',d',e']/\f=f'/\g=g':=by
 simp only[Array.mk.injEq,Ap,C0] at h ⊢;obtain⟨h1,h2,h3,h4,h5,h6,h7⟩:=h;exact⟨⟨h1,h2,h3,h4,h5⟩,h6,h7⟩
theorem Tf (h:ki N m #[v0,v1,v2,v3,v4,v5,v6] U) (h':ki N' m' #[u0,u1,u2,u3,u4,u5,u6] U) (e:m'.procs=m.procs) (hl:m.procs.length<=140737488351232) :
  Calls Tryz.prog 25 #[v5,u5] U fun e w'=>e=.returned (.bool true)/\Below U.heap.size U w':=by
 obtain⟨hs,a,ar,cr,ao,co,h1,h2,h3⟩:=h;obtain⟨hs',a',ar',cr',XK,co',h1',h2',h3'⟩:=h';obtain⟨_,rfl,_⟩:=Be h2;obtain⟨_,rfl,_⟩:=Be h2';have p:=(h3 U (aC.refl _ _)).procs;have p':=(h3' U (aC.refl _ _)).procs;have p:uI U ar m.procs:=p;have p':uI U ar' m'.procs:=p';rw[e] at p';show Calls _ _ #[.slice ar m.procs.length cr,.slice ar' m'.procs.length cr'] _ _;rw[e];exact Mz m.procs ar ar' cr cr' U p p' hl
theorem Te (h:ki N m #[v0,v1,v2,v3,v4,v5,v6] U) (h':ki N' m' #[u0,u1,u2,u3,u4,u5,u6] U) (e:m'.out=m.out) (hl:m.out.length<=140737488351232) :
  Calls Tryz.prog 26 #[v6,u6] U fun e w'=>e=.returned (.bool true)/\Below U.heap.size U w':=by
 obtain⟨hs,a,ar,cr,ao,co,h1,h2,h3⟩:=h;obtain⟨hs',a',ar',cr',XK,co',h1',h2',h3'⟩:=h';obtain⟨_,_,rfl⟩:=Be h2;obtain⟨_,_,rfl⟩:=Be h2';have p:wh U ao m.out:=(h3 U (aC.refl _ _)).out;have p':wh U XK m'.out:=(h3' U (aC.refl _ _)).out;rw[e] at p';show Calls _ _ #[.slice ao m.out.length co,.slice XK m'.out.length co'] _ _;rw[e];exact My m.out ao XK co co' U p p' hl
open Go.RowKit
structure ajP (a b:iM×Int) (picks:List Int):Prop where
 e1:a.2=0
 e2:b.2=0
 g1:dK dO (gZ a.1)
 g2:dK dO (gZ b.1)
 err:(fX b.1 picks).2=(fX a.1 picks).2
 procs:(fX b.1 picks).1.procs=(fX a.1 picks).1.procs
 out:(fX b.1 picks).1.out=(fX a.1 picks).1.out
 np:(fX a.1 picks).1.procs.length<=140737488351232
 no:(fX a.1 picks).1.out.length<=140737488351232
theorem Wt {m:iM} (h:dK dO (gZ m)) (picks:List Int):(fX m picks).1.procs.length<=4/\(fX m picks).1.out.length<=2000:=by
 rcases abr h picks with e | e
 · have g:=Zj h e;exact⟨Zm g,g.out⟩
 · rw[e.2];exact⟨rN _,rN _⟩
theorem adS (l:List aX) (hs:List bG) (en n1 n2 ns:Int) (picks:List Int) (he:cK en):¬(nu l hs en n1 ns).2=0∨¬(nu l hs en n2 ns).2=0∨ajP (nu l hs en n1 ns) (nu l hs en n2 ns) picks:=by
 rcases D7 l hs en n1 ns he with c | ⟨c1,_,_,c4,_,_,rV,c8⟩
 · exact .inl c
 rcases D7 l hs en n2 ns he with d | ⟨_,_,_,_,_,_,d7,d8⟩
 · exact .inr (.inl d)
 rw[rV,d7];obtain⟨a1,a2,a3⟩:=afS c8 d8 (Oh c1 c4) picks;obtain⟨b1,b2⟩:=Wt c8 picks;exact .inr (.inr ⟨rfl,rfl,c8,d8,a1.symm,a2.symm,a3.symm,gT b1 (by decide),gT b2 (by decide)⟩)
theorem Tg (l:List aX) (hs:List bG) (en n1 n2 ns:Int) (aa ao:Option Addr) (na ca cap:Nat) (picks:List Int) (ap:Option Addr) (cp:Nat) (w:World) (ha:gu w (.slice aa na ca) l) (hf:dH l) (h:jn w ao hs) (Pf:qZ hs) (hcap:hs.length<=cap) (he:cK en) (hn:tL w ap picks) (hps:0<picks.length->∀b,ap=some b->b.block<w.heap.size) (hpl:picks.length<=140737488351232)
  (hbg:∀V,Calls Tryz.prog 13 #[] V fun e w'=>e=.returned (.bool true)/\Below V.heap.size V w') :
  Calls Tryz.prog 7 #[.agg #[.slice aa na ca,.slice ao hs.length cap,I en],I n1,I n2,I ns,.slice ap picks.length cp] w fun e w'=>e=.returned (.bool true)/\Below w.heap.size w w':=by
 have hcs:=adS l hs en n1 n2 ns picks he;have HN1:Hid (∀V,Below w.heap.size w V->Calls Tryz.prog 10 #[.agg #[.slice aa na ca,.slice ao hs.length cap,I en],I n1,I ns] V (G9 V (nu l hs en n1 ns).1 (nu l hs en n1 ns).2)):=fun V hV=>(FW l hs en n1 ns _ ao cap V (ha.below hV) hf (h.below hV) Pf hcap he).mono fun e w' ho=>QZ ho
 have Mr:Hid (∀V,Below w.heap.size w V->Calls Tryz.prog 10 #[.agg #[.slice aa na ca,.slice ao hs.length cap,I en],I n2,I ns] V (G9 V (nu l hs en n2 ns).1 (nu l hs en n2 ns).2)):=fun V hV=>(FW l hs en n2 ns _ ao cap V (ha.below hV) hf (h.below hV) Pf hcap he).mono fun e w' ho=>QZ ho
 obtain⟨R1,IV⟩:∃R,R=nu l hs en n1 ns:=⟨_,rfl⟩;obtain⟨R2,UJ⟩:∃R,R=nu l hs en n2 ns:=⟨_,rfl⟩;rw[<- IV,<- UJ] at hcs;rw[<- IV] at HN1;rw[<- UJ] at Mr;obtain⟨M1,er1⟩:=R1;obtain⟨M2,er2⟩:=R2;simp only at HN1 Mr hcs;have HBG:=ai hbg;have Xn:Hid (∀(m:iM),dK dO (gZ m)->∀N c V,Below w.heap.size w V->ki N m c V->Calls Tryz.prog 20 #[.agg c,.slice ap picks.length cp] V (G9 V (fX m picks).1 (fX m picks).2)):=fun m hm N c V hV hk=>(Ny hk hm picks ap cp (acK.below hn hV) (fun g b hb=>fV (hps g b hb) hV.size) hpl).mono fun e w' ho=>QZ ho
 obtain⟨nh,hnh⟩:=ex hs.length;obtain⟨np,Ak⟩:=ex picks.length;rw[<- hnh] at HN1 Mr ⊢;rw[<- Ak] at Xn ⊢;have gG:=ai ((aJ w.heap.size w).alloc (aH _) (.cells #[.slice aa na ca,.slice ao nh cap,I en] 25));have X0:=ai (bD w #[.slice aa na ca,.slice ao nh cap,I en] 25);clear ha hf h Pf hcap he hn hps hpl hbg IV UJ hnh Ak;have HCS:=ai hcs;clear hcs;go_enter Tryz.func7,Tryz.ntmps7;go_upto_region 1 with fail;obtain⟨W0,hW⟩:=ex (w.alloc (.cells #[.slice aa na ca,.slice ao nh cap,I en] 25));obtain⟨x0,hx⟩:=ex w.heap.size;rw[<- hW] at gG X0 ⊢;rw[<- hx] at X0 ⊢;clear hW hx;obtain⟨y0,y1,y2⟩:=ET X0.o;go_upto_region 2 with(go_at_call 10;refine(HN1.o _ gG.o).mono ?_;rintro e wa ⟨s0a,n0a,q0a,s1a,n1a,q1a,s2a,n2a,q2a,s3a,n3a,q3a,hda,s5a,q5a,s6a,q6a,rfl,hk,hb⟩;have Ka:=ai hk;have La:=ai hb;clear hk hb)
 have Va:=ai (Ec Ka.o);have Da:=ai (La.o.alloc La.o.size (.cells #[.slice s0a n0a q0a,.slice s1a n1a q1a,.slice s2a n2a q2a,.slice s3a n3a q3a,I hda,.slice s5a M1.procs.length q5a,.slice s6a M1.out.length q6a] 34));obtain⟨Wa,hW⟩:=ex (wa.alloc (.cells #[.slice s0a n0a q0a,.slice s1a n1a q1a,.slice s2a n2a q2a,.slice s3a n3a q3a,I hda,.slice s5a M1.procs.length q5a,.slice s6a M1.out.length q6a] 34));obtain⟨xa,hx⟩:=ex wa.heap.size;rw[<- hW] at Va Da ⊢;rw[<- hx] at Va ⊢;clear hW hx Ka La;have Ba:=ai (gG.o.trans (Da.o.mono gG.o.size));obtain⟨z0,z1,z2⟩:=ET (aN X0.o Da.o (aI X0.o));clear y0 y1 y2;go_upto_region 3 with(go_at_call 10;refine(Mr.o _ Ba.o).mono ?_;rintro e wb ⟨s0b,n0b,q0b,s1b,n1b,q1b,s2b,n2b,q2b,s3b,n3b,q3b,hdb,s5b,q5b,s6b,q6b,rfl,hk,hb⟩;have Kb:=ai hk;have Lb:=ai hb;clear hk hb)
 have Vb:=ai (Ec Kb.o);have Db:=ai (Lb.o.alloc Lb.o.size (.cells #[.slice s0b n0b q0b,.slice s1b n1b q1b,.slice s2b n2b q2b,.slice s3b n3b q3b,I hdb,.slice s5b M2.procs.length q5b,.slice s6b M2.out.length q6b] 34));obtain⟨Wb,hW⟩:=ex (wb.alloc (.cells #[.slice s0b n0b q0b,.slice s1b n1b q1b,.slice s2b n2b q2b,.slice s3b n3b q3b,I hdb,.slice s5b M2.procs.length q5b,.slice s6b M2.out.length q6b] 34));obtain⟨xb,hx⟩:=ex wb.heap.size;rw[<- hW] at Vb Db ⊢;rw[<- hx] at Vb ⊢;clear hW hx Kb Lb;have Bb:=ai (Ba.o.trans (Db.o.mono Ba.o.size));have Va2:=ai (Va.o.below Db.o);clear z0 z1 z2 Va HN1 Mr;rcases HCS.o with c | c | c
 · have cb:(er1==0)=false:=by rw[lG];exact c
   have cb2:(er1 != 0)=true:=by rw[bne_iff_ne];exact c
   clear c HCS Xn;go_wp2_with (go_at_call 13;refine(HBG.o _).mono ?_;rintro e w3 ⟨rfl,hb⟩;have H3:=ai (Bb.o.trans (hb.mono Bb.o.size));clear hb)
   go_ret;exact⟨rfl,H3.o⟩
 · have cb:(er2==0)=false:=by rw[lG];exact c
   have cb2:(er2 != 0)=true:=by rw[bne_iff_ne];exact c
   clear c HCS Xn;by_cases c1:er1=0
   · subst c1;go_wp2_with (go_at_call 13;refine(HBG.o _).mono ?_;rintro e w3 ⟨rfl,hb⟩;have H3:=ai (Bb.o.trans (hb.mono Bb.o.size));clear hb)
     go_ret;exact⟨rfl,H3.o⟩
   · have cc:(er1==0)=false:=by rw[lG];exact c1
     have cc2:(er1 != 0)=true:=by rw[bne_iff_ne];exact c1
     clear c1;go_wp2_with (go_at_call 13;refine(HBG.o _).mono ?_;rintro e w3 ⟨rfl,hb⟩;have H3:=ai (Bb.o.trans (hb.mono Bb.o.size));clear hb)
     go_ret;exact⟨rfl,H3.o⟩
 · clear HCS;obtain⟨e1,e2,g1,g2,i1,i2,i3,i4,i5⟩:=c;simp only at e1 e2 g1 g2 i1 i2 i3 i4 i5;subst e1 e2;have HR1:Hid (∀N c V,Below w.heap.size w V->ki N M1 c V->Calls Tryz.prog 20 #[.agg c,.slice ap np cp] V (G9 V (fX M1 picks).1 (fX M1 picks).2)):=Xn.o M1 g1;have CK:Hid (∀N c V,Below w.heap.size w V->ki N M2 c V->Calls Tryz.prog 20 #[.agg c,.slice ap np cp] V (G9 V (fX M2 picks).1 (fX M2 picks).2)):=Xn.o M2 g2;rw[i1] at CK;obtain⟨er,her⟩:=ex ((fX M1 picks).2);obtain⟨Q1,hQ1⟩:∃Q,Q=(fX M1 picks).1:=⟨_,rfl⟩;obtain⟨Q2,hQ2⟩:∃Q,Q=(fX M2 picks).1:=⟨_,rfl⟩;rw[<- her,<- hQ1] at HR1;rw[<- her,<- hQ2] at CK;rw[<- hQ1,<- hQ2] at i2 i3;rw[<- hQ1] at i4 i5;have I2:=ai i2;have I3:=ai i3;have I4:=ai i4;have I5:=ai i5;clear i1 i2 i3 i4 i5 g1 g2 her hQ1 hQ2 Xn;obtain⟨k0,k1,k2,k3,k4,k5,k6⟩:=rV Va2.o.1;obtain⟨Na,ka⟩:=Va2.o.2;have KA:=ai ka;go_upto_region 6 with(go_at_call 20;refine(HR1.o _ _ _ Bb.o KA.o).mono ?_;rintro e wc ⟨s0c,n0c,q0c,s1c,n1c,q1c,s2c,n2c,q2c,s3c,n3c,q3c,hdc,s5c,q5c,s6c,q6c,rfl,hk,hb⟩;have Kc:=ai hk;have Lc:=ai hb;clear hk hb)
   clear ka k0 k1 k2 k3 k4 k5 k6;have Vc:=ai (Ec Kc.o);have Dc:=ai (Lc.o.alloc Lc.o.size (.cells #[.slice s0c n0c q0c,.slice s1c n1c q1c,.slice s2c n2c q2c,.slice s3c n3c q3c,I hdc,.slice s5c Q1.procs.length q5c,.slice s6c Q1.out.length q6c] 34));obtain⟨Wc,hW⟩:=ex (wc.alloc (.cells #[.slice s0c n0c q0c,.slice s1c n1c q1c,.slice s2c n2c q2c,.slice s3c n3c q3c,I hdc,.slice s5c Q1.procs.length q5c,.slice s6c Q1.out.length q6c] 34));obtain⟨xc,hx⟩:=ex wc.heap.size;rw[<- hW] at Vc Dc ⊢;rw[<- hx] at Vc ⊢;clear hW hx Kc Lc;have Bc:=ai (Bb.o.trans (Dc.o.mono Bb.o.size));have Vb2:=ai (Vb.o.below Dc.o);obtain⟨k0,k1,k2,k3,k4,k5,k6⟩:=rV Vb2.o.1;obtain⟨Nb,kb⟩:=Vb2.o.2;have KB:=ai kb;go_upto_region 7 with(go_at_call 20;refine(CK.o _ _ _ Bc.o KB.o).mono ?_;rintro e wd ⟨s0d,n0d,q0d,s1d,n1d,q1d,s2d,n2d,q2d,s3d,n3d,q3d,hdd,s5d,q5d,s6d,q6d,rfl,hk,hb⟩;have Kd:=ai hk;have Ld:=ai hb;clear hk hb)
   clear kb k0 k1 k2 k3 k4 k5 k6;have Vd:=ai (Ec Kd.o);have Dd:=ai (Ld.o.alloc Ld.o.size (.cells #[.slice s0d n0d q0d,.slice s1d n1d q1d,.slice s2d n2d q2d,.slice s3d n3d q3d,I hdd,.slice s5d Q2.procs.length q5d,.slice s6d Q2.out.length q6d] 34));obtain⟨Wd,hW⟩:=ex (wd.alloc (.cells #[.slice s0d n0d q0d,.slice s1d n1d q1d,.slice s2d n2d q2d,.slice s3d n3d q3d,I hdd,.slice s5d Q2.procs.length q5d,.slice s6d Q2.out.length q6d] 34));obtain⟨xd,hx⟩:=ex wd.heap.size;rw[<- hW] at Vd Dd ⊢;rw[<- hx] at Vd ⊢;clear hW hx Kd Ld;have Bd:=ai (Bc.o.trans (Dd.o.mono Bc.o.size));have Vc2:=ai (Vc.o.below Dd.o);have HSP:Hid (∀V,Below Wd.heap.size Wd V->Calls Tryz.prog 25 #[.slice s5c Q1.procs.length q5c,.slice s5d Q2.procs.length q5d] V fun e w'=>e=.returned (.bool true)/\Below V.heap.size V w'):=fun V hV=>by
    obtain⟨_,_,j1⟩:=Vc2.o.below hV;obtain⟨_,_,j2⟩:=Vd.o.below hV;exact Tf j1 j2 I2.o I4.o
   have HSW:Hid (∀V,Below Wd.heap.size Wd V->Calls Tryz.prog 26 #[.slice s6c Q1.out.length q6c,.slice s6d Q2.out.length q6d] V fun e w'=>e=.returned (.bool true)/\Below V.heap.size V w'):=fun V hV=>by
    obtain⟨_,_,j1⟩:=Vc2.o.below hV;obtain⟨_,_,j2⟩:=Vd.o.below hV;exact Te j1 j2 I3.o I5.o
   have XC:=ai Vc2.o.1;have XD:=ai Vd.o.1;go_wp2_with (first
    | (go_at_call 13;refine(HBG.o _).mono ?_;rintro e w5 ⟨rfl,hb⟩;have H5:=ai hb;obtain⟨k0,k1,k2,k3,k4,k5,k6⟩:=rV (aN XC.o hb (aI XC.o));obtain⟨j0,j1,j2,j3,j4,j5,j6⟩:=rV (aN XD.o hb (aI XD.o));clear hb)
    | (go_at_call 25;refine(HSP.o _ H5.o).mono ?_;rintro e w6 ⟨rfl,hb⟩;have H6:=ai (H5.o.trans (hb.mono H5.o.size));obtain⟨k0,k1,k2,k3,k4,k5,k6⟩:=rV (aN XC.o H6.o (aI XC.o));obtain⟨j0,j1,j2,j3,j4,j5,j6⟩:=rV (aN XD.o H6.o (aI XD.o));clear hb)
    | (go_at_call 26;refine(HSW.o _ H6.o).mono ?_;rintro e w7 ⟨rfl,hb⟩;have H7:=ai (H6.o.trans (hb.mono H6.o.size));clear hb))
   go_ret;exact⟨by simp,Bd.o.trans (H7.o.mono Bd.o.size)⟩
open Go.RowKit
def CC (R:Option (List o5)) (w:World) (e:Ending) (w':World):Prop:=Below w.heap.size w w'/\match R with
 | none=>e=.returned (.tuple #[Nl,.bool false])
 | some ps=>∃v,e=.returned (.tuple #[v,.bool true])/\w'.ownsRow w.heap.size 282 2 v ps.length (ps.flatMap Ki)
open Go.RowKit
theorem TP:(Tryz.prog.info? 145).map (fun i=>(i.zero,i.size,i.bytes))=some (some (.agg #[I 0,.string ⟨#[]⟩,Nl]),3,48):=by rfl
structure AB (lo:Nat) (w:World) (v:Value) (hs:List bG):Prop where
 row:w.ownsRow lo 145 3 v hs.length (hs.flatMap E9)
 fix:acE v.ownBlock w hs
theorem AB.below {lo:Nat} {w w':World} {v:Value} {hs:List bG} (h:AB lo w v hs) (hb:Below w.heap.size w w'):AB lo w' v hs:=⟨Dm h.row hb,fun k hk=>(h.fix k hk).below hb⟩
theorem AB.nil (lo:Nat) (w:World):AB lo w Nl []:=⟨mC _ _ _ _,fun k hk=>by grind⟩
theorem AB.has {lo:Nat} {w:World} {v:Value} {hs:List bG} (h:AB lo w v hs):∃ao cap,v=.slice ao hs.length cap/\jn w ao hs/\hs.length<=cap:=by
 have hr:=h.row;rcases hr.2 with⟨hv,h0⟩ | ⟨g,cap,cur,hv,hbg,hg,hnc,hcm,hcs,htake⟩
 · exact⟨none,0,by grind,fun hl=>by omega,by omega⟩
 · rw[hv] at hr;refine⟨some (Ad g 0),cap,hv,fun _=>⟨g,0,rfl,aI hg,fun k hk=>?_⟩,hnc⟩;rw[lO];have hh:∀j,j<3->w.cell? (Ad g (k*3+j))=(E9 (bu hs k))[j]?:=fun j hj=>(hr.cellAt _ (by omega)).trans (uS E9 3 (fun _=>rfl) Bv hs k j hk hj)
   exact⟨hh 0 (by omega),hh 1 (by omega),hh 2 (by omega),(h.fix k hk).has⟩
theorem adj {w:World} {base:Nat} {v:Value} {l:List mI} (h:w.ownsRow base 226 2 v l.length (l.flatMap CG)) (rb:Option Nat) (JJ:∀q,rb=some q->q<base):∃ao cap,v=.slice ao l.length cap/\qY rb w ao l:=by
 rcases h.2 with⟨hv,h0⟩ | ⟨g,cap,cur,hv,hbg,hg,hnc,hcm,hcs,htake⟩
 · exact⟨none,0,by grind,fun hl=>by omega⟩
 · subst hv;refine⟨some (Ad g 0),cap,rfl,fun hl=>⟨g,0,rfl,aI hg,fun e=>by grind,fun k hk=>?_⟩⟩;rw[lO];have hh:∀j,j<2->w.cell? (Ad g (k*2+j))=(CG (nN l k))[j]?:=fun j hj=>(h.cellAt _ (by omega)).trans (uS CG 2 (fun _=>rfl) Qi l k j hk hj)
   exact⟨hh 0 (by omega),hh 1 (by omega)⟩
theorem AB.more {lo:Nat} {w w':World} {v:Value} {hs:List bG} {x:bG} {g cap:Nat} (h:acE v.ownBlock w hs) (hx:qY v.ownBlock w x.ao x.eO) (hown:w'.ownsRow lo 145 3 (.slice (some (Ad g 0)) (hs.length+1) cap) (hs.length+1) (hs.flatMap E9++E9 x)) (hg:w.grownBy w' v.ownBlock) (hs':w.heap.size<=w'.heap.size) (hat:v.ownBlock=some g∨g=w.heap.size) :
  AB lo w' (.slice (some (Ad g 0)) (hs.length+1) cap) (hs++[x]):=by
 refine⟨by grind,fun k hk=>?_⟩;have e:(Value.slice (some (Ad g 0)) (hs.length+1) cap).ownBlock=some g:=rfl;rw[e];rw[fD] at hk;by_cases hkl:k<hs.length
 · rw[U7 hs x k hkl];exact(h k hkl).grown hg hs' hat
 grind [U8,qY.grown]
def J3 (R:Option (List Fb)) (w:World) (e:Ending) (w':World):Prop:=Below w.heap.size w w'/\match R with
 | none=>e=.returned (.tuple #[Nl,.bool false])
 | some E=>∃(hs:List bG) (ao:Option Addr) (cap:Nat),hs.map fP=E/\e=.returned (.tuple #[.slice ao hs.length cap,.bool true])/\jn w' ao hs/\hs.length<=cap
open Go.RowKit
structure tY (w:World) (r:Option Nat) (w':World) (r':Option Nat):Prop where
 size:w.heap.size<=w'.heap.size
 block:∀b,b<w.heap.size->some b≠r->w'.heap[b]?=w.heap[b]?
 row:r'=r∨∃g,r'=some g/\w.heap.size<=g
theorem tY.refl (w:World) (r:Option Nat):tY w r w r:=⟨aH _,fun _ _ _=>rfl,.inl rfl⟩
theorem tY.trans {w w1 w2:World} {r r1 r2:Option Nat} (h:tY w r w1 r1) (g:tY w1 r1 w2 r2):tY w r w2 r2:=by
 have hs:=h.size;refine⟨gT h.size g.size,fun b hb hr=>?_,?_⟩
 · grind [block,row]
 grind [row]
theorem tY.bY {w w':World} (h:Below w.heap.size w w') (r:Option Nat):tY w r w' r:=⟨h.size,fun b hb _=>h.block b hb,.inl rfl⟩
theorem tY.agG {w w':World} {r:Option Nat} {g:Nat} (h:w.grownBy w' r) (hs:w.heap.size<=w'.heap.size) (hat:r=some g∨g=w.heap.size):tY w r w' (some g) :=
 ⟨hs,fun b hb hr=>h.block b hb hr,by
  grind⟩
theorem tY.keep {w w':World} {r r':Option Nat} {b:Nat} {o:Obj} (h:tY w r w' r') (hb:w.heap[b]?=some o) (hr:some b≠r):w'.heap[b]?=some o:=(h.block b (aI hb) hr).trans hb
def Qa (rb:Option Nat) (w:World) (ao:Option Addr) (l:List o5):Prop:=0<l.length->∃b off,ao=some (Ad b off)/\b<w.heap.size/\some b≠rb/\Kk w b off l
theorem Qa.fr {rb rb':Option Nat} {w w':World} {ao:Option Addr} {l:List o5} (h:Qa rb w ao l) (hf:tY w rb w' rb'):Kn w' ao l:=fun hl=>by
 obtain⟨b,off,h1,h2,h3,h4⟩:=h hl;exact⟨b,off,h1,fV h2 hf.size,fun i hi=>by
  obtain⟨c0,c1⟩:=h4 i hi
  grind [World.cell?_of_block,tY.block]⟩
theorem aay {w:World} {base:Nat} {v:Value} {l:List o5} (h:w.ownsRow base 282 2 v l.length (l.flatMap Ki)) (rb:Option Nat) (JJ:∀q,rb=some q->q<base):∃ao cap,v=.slice ao l.length cap/\Qa rb w ao l:=by
 rcases h.2 with⟨hv,h0⟩ | ⟨g,cap,cur,hv,hbg,hg,hnc,hcm,hcs,htake⟩
 · exact⟨none,0,by grind,fun hl=>by omega⟩
 · subst hv;refine⟨some (Ad g 0),cap,rfl,fun hl=>⟨g,0,rfl,aI hg,fun e=>by grind,fun k hk=>?_⟩⟩;rw[lO];have hh:∀j,j<2->w.cell? (Ad g (k*2+j))=(Ki (xz l k))[j]?:=fun j hj=>(h.cellAt _ (by omega)).trans (uS Ki 2 (fun _=>rfl) aaJ l k j hk hj)
   exact⟨hh 0 (by omega),hh 1 (by omega)⟩
open Go.RowKit
def Ma (o:jZ) (L:List aX) (s:pE):List aX:=(dD L (o.base+s.page) s.aO (vw s)).1
def Fa (o:jZ) (L:List aX):Nat->List aX
 | 0=>L
 | k+1=>Ma o (Fa o L k) (eD o.i.jD k)
def Bz (l:List jZ):Nat->List aX
 | 0=>[]
 | k+1=>Fa (dJ l k) (Bz l k) (dJ l k).i.jD.length
def Vh (a:aX):aX:=⟨a.page,a.aO,a.jE,false⟩
def oZ (L:List aX):Nat->List aX
 | 0=>L
 | k+1=>(oZ L k).set k (Vh (bB (oZ L k) k))
def rB (l:List jZ):List aX:=(Bz l l.length).map Vh
theorem Qk (o:jZ) (L:List aX) (h:dH L):∀k,dH (Fa o L k)
 | 0=>h
 | k+1=>Rw _ _ _ _
theorem I6 (l:List jZ):∀k,dH (Bz l k)
 | 0=>En
 | k+1=>Qk _ _ (I6 l k) _
theorem yt (L:List aX):∀k,(oZ L k).length=L.length
 | 0=>rfl
 | k+1=>by simp only[oZ,fC,yt L k]
theorem Kh (L:List aX):∀k,k<=L.length->∀j,(oZ L k)[j]?=if j<k then L[j]?.map Vh else L[j]?
 | 0,_,j=>by rfl
 | k+1,hk,j=>by
  have ih:=Kh L k (by omega)
  grind [bB,oZ]
theorem Vg (L:List aX):oZ L L.length=L.map Vh:=by
 apply Df
 grind [Kh]
theorem CH (b:Bool):∀(L:List aX) (k:Nat),k<L.length->(cO L).set (k*4+3) (.bool b)=cO (L.set k ⟨(bB L k).page,(bB L k).aO,(bB L k).jE,b⟩)
 | [],k,h=>by simp at h
 | a::r,0,h=>rfl
 | a::r,k+1,h=>by
  have ih:=CH b r k (by grind);show(oM a++cO r).set _ _=oM a++cO (r.set k _);rw[Au _ _ (by simp[oM];omega)];congr 1;have e:(k+1)*4+3-(oM a).length=k*4+3:=by grind [oM]
  rw[e,ih];rfl
open Go.RowKit
theorem yQ {lo:Nat} {w w':World} {v:Value} {l:List aX} (h:dV lo w v l) (hb:Below w.heap.size w w'):dV lo w' v l:=Dm h hb
theorem Dn {lo:Nat} {w:World} {v:Value} {l:List aX} (h:dV lo w v l):∃ao cap,v=.slice ao l.length cap/\(0<l.length->∃g,ao=some (Ad g 0)):=by
 rcases h.2 with⟨hv,h0⟩ | ⟨g,cap,cur,hv,_⟩
 · grind
 grind
theorem P5 (l:List jZ) (ao:Option Addr) (cap:Nat) (w:World) (h:P9 l ao w) (hl7:l.length<=7) :
  Calls Tryz.prog 67 #[.slice ao l.length cap] w fun e w'=>∃r,e=.returned r/\dV w.heap.size w' r (rB l)/\Below w.heap.size w w':=by
 have HO:=aA h;clear h;go_enter Tryz.func67,Tryz.ntmps67;go_wp2;go_loopw [11,3] (fun i v wr=>∃(a:Nat),a<=l.length/\i=I a/\dV w.heap.size wr v (Bz l a)/\Below w.heap.size w wr) (fun i _ _=>l.length-(intOf i).toNat)
 case atStart=>exact⟨0,by omega,rfl,dV.nil _ _,aJ _ _⟩
 case round =>
  obtain⟨a,hal,rfl,hown,hb⟩:=hrel;have HOW:=aA hown;have Al:=aA hb;by_cases hlt:a<l.length
  · have HOr:=aA (HO.o.below hb);obtain⟨b,off,hao,hbl,eX⟩:=HOr.o.has (by omega);obtain⟨⟨c0,c1,c2,c3,c4,c5,c6⟩,him⟩:=eX a hlt;have hbs:=HO.o.base a hlt;have Ju:=HO.o.chk a hlt;obtain⟨b2,aiA,aeU,ac8,XF⟩:=HO.o.has (by omega);have aag:=(XF a hlt).2;have wE:Hid (Bz l (a+1)=Fa (dJ l a) (Bz l a) (dJ l a).i.jD.length):=rfl;obtain⟨o,ho⟩:=ex (dJ l a);rw[<- ho] at c0 c1 c2 c3 c4 c5 c6 aag hbs Ju wE;have ES:=aA (I6 l a);obtain⟨L,hL⟩:=ex (Bz l a);rw[<- hL] at HOW wE ES;have hcn:=vH Ju;have HSB:=aA (xy Ju);obtain⟨bs,Xu,hag,ai4,hlg⟩:=aag.jD (by omega);have HLG:=aA hlg;rw[hag] at c2;clear ho hL eX hb hown him hlg hag aag XF aeU ac8 Ju;subst hao;have jQ:=aA (Al.o.alloc Al.o.size (.cells #[.string o.i.name,.slice o.a.an o.i.needs.length o.a.cn,.slice (some (Ad bs Xu)) o.i.jD.length o.a.cg,.slice o.a.ay o.i.syms.length o.a.cy,.slice o.a.ar o.i.pN.length o.a.cr,I o.i.entry,I o.base] 131));have Jg:=aA ((aJ wr.heap.size wr).alloc (aH _) (.cells #[.string o.i.name,.slice o.a.an o.i.needs.length o.a.cn,.slice (some (Ad bs Xu)) o.i.jD.length o.a.cg,.slice o.a.ay o.i.syms.length o.a.cy,.slice o.a.ar o.i.pN.length o.a.cr,I o.i.entry,I o.base] 131));have BO:=aA (bD wr #[.string o.i.name,.slice o.a.an o.i.needs.length o.a.cn,.slice (some (Ad bs Xu)) o.i.jD.length o.a.cg,.slice o.a.ay o.i.syms.length o.a.cy,.slice o.a.ar o.i.pN.length o.a.cr,I o.i.entry,I o.base] 131);have HOA:=aA (yQ HOW.o Jg.o);go_wp2;obtain⟨W1,hW1⟩:=ex (wr.alloc (.cells #[.string o.i.name,.slice o.a.an o.i.needs.length o.a.cn,.slice (some (Ad bs Xu)) o.i.jD.length o.a.cg,.slice o.a.ay o.i.syms.length o.a.cy,.slice o.a.ar o.i.pN.length o.a.cr,I o.i.entry,I o.base] 131));rw[<- hW1] at jQ Jg BO HOA;rw[<- hW1];obtain⟨ob,hob⟩:=ex wr.heap.size;rw[<- hob] at BO;rw[<- hob];clear hW1 hob Jg HOW Al HOr c0 c1 c2 c3 c4 c5 c6 hbl;go_loopw [19,3] (fun i v wm=>∃(k:Nat),k<=o.i.jD.length/\i=I k/\dV w.heap.size wm v (Fa o L k)/\Below w.heap.size w wm/\Below W1.heap.size W1 wm) (fun i _ _=>o.i.jD.length-(intOf i).toNat)
    case atStart=>exact⟨0,by omega,rfl,HOA.o,jQ.o,aJ _ _⟩
    case round =>
     obtain⟨k,hk,rfl,hown,hb,hb1⟩:=hrel;have HOW:=aA hown;have HBm:=aA hb;have cM:=aA hb1;clear HOA jQ;by_cases hlk:k<o.i.jD.length
     · obtain⟨c0,c1,c2,c3,c4⟩:=zB hb ai4 HLG.o k hlk;have IU:=HSB.o k hlk;have HFK:=aA (Qk o L ES.o k);have HKX:Hid (Fa o L (k+1)=Ma o (Fa o L k) (eD o.i.jD k)):=rfl;obtain⟨s,hse⟩:=ex (eD o.i.jD k);rw[<- hse] at c0 c1 c2 c3 c4 IU HKX;clear hse;obtain⟨L2,hL2⟩:=ex (Fa o L k);rw[<- hL2] at HOW HFK HKX;clear hL2;obtain⟨pg,pn,dt,wb,qZ0⟩:=s;simp only at c0 c1 c2 c3 c4 IU;have jQ:=aA (HBm.o.alloc HBm.o.size (.cells #[I pg,I pn,.string dt,.bool wb,.bool qZ0] 166));have Jg:=aA ((aJ wr.heap.size wr).alloc (aH _) (.cells #[I pg,I pn,.string dt,.bool wb,.bool qZ0] 166));have BS:=aA (bD wr #[I pg,I pn,.string dt,.bool wb,.bool qZ0] 166);have BOA:=aA (bl (aN BO.o cM.o (aI BO.o)) (.cells #[I pg,I pn,.string dt,.bool wb,.bool qZ0] 166));have ajY:=aA (cM.o.alloc cM.o.size (.cells #[I pg,I pn,.string dt,.bool wb,.bool qZ0] 166));have alZ:=aA (yQ HOW.o Jg.o);clear hown hb hb1;go_wp2;obtain⟨WA,mj⟩:=ex (wr.alloc (.cells #[I pg,I pn,.string dt,.bool wb,.bool qZ0] 166));rw[<- mj] at jQ BS BOA ajY alZ;rw[<- mj];obtain⟨sb,aad⟩:=ex wr.heap.size;rw[<- aad] at BS;rw[<- aad];clear mj aad Jg HOW HBm cM c0 c1 c2 c3 c4;have HS:Hid (∀V,Below WA.heap.size WA V->V.cell? (Ad ob 6)=some (I o.base)/\V.cell? (Ad sb 0)=some (I pg)/\V.cell? (Ad sb 1)=some (I pn)/\V.cell? (Ad sb 2)=some (.string dt)/\V.cell? (Ad sb 3)=some (.bool wb)/\V.cell? (Ad sb 4)=some (.bool qZ0)):=fun V hb=>by
        have h1:=aN BOA.o hb (aI BOA.o);have h2:=aN BS.o hb (aI BS.o);exact⟨aq h1 6 rfl,aq h2 0 rfl,aq h2 1 rfl,aq h2 2 rfl,aq h2 3 rfl,aq h2 4 rfl⟩
       have Po:Hid (∀V,Calls Tryz.prog 116 #[.agg #[I pg,I pn,.string dt,.bool wb,.bool qZ0]] V fun e w'=>e=.returned (I (vw ⟨pg,pn,dt,wb,qZ0⟩))/\Below V.heap.size V w'):=fun V=>XZ ⟨pg,pn,dt,wb,qZ0⟩ V
       have HMP:Hid (∀V,Below WA.heap.size WA V->Calls Tryz.prog 115 #[u3,I (o.base+pg),I pn,I (vw ⟨pg,pn,dt,wb,qZ0⟩)] V fun e w'=>∃r,e=.returned (.tuple #[r,I (dD L2 (o.base+pg) pn (vw ⟨pg,pn,dt,wb,qZ0⟩)).2])/\dV V.heap.size w' r (dD L2 (o.base+pg) pn (vw ⟨pg,pn,dt,wb,qZ0⟩)).1/\Below V.heap.size V w'):=fun V hb=>Ru L2 u3 (o.base+pg) pn _ V (yQ alZ.o hb).has HFK.o (by unfold ub;omega) (by unfold ub;omega)
       have HMS:Hid (Ma o L2 ⟨pg,pn,dt,wb,qZ0⟩=(dD L2 (o.base+pg) pn (vw ⟨pg,pn,dt,wb,qZ0⟩)).1):=rfl;obtain⟨PR,hPR⟩:=ex (vw ⟨pg,pn,dt,wb,qZ0⟩);rw[<- hPR] at Po HMP HMS;obtain⟨MN,hMN⟩:=ex (dD L2 (o.base+pg) pn PR);rw[<- hMN] at HMP HMS;clear hPR hMN;have hwr:IntKind.i64.wrap (o.base+pg)=o.base+pg:=ve _ (by omega);have tM:=aA (aJ WA.heap.size WA).drew;have oh:=aA (HS.o _ tM.o)
       go_region_held3 (fun V=>V.cell? (Ad ob 6)=some (I o.base)/\V.cell? (Ad sb 0)=some (I pg)/\V.cell? (Ad sb 1)=some (I pn)/\V.cell? (Ad sb 2)=some (.string dt)/\V.cell? (Ad sb 3)=some (.bool wb)/\V.cell? (Ad sb 4)=some (.bool qZ0)) (first | exact si.o | exact rJ.o | exact oh.o)
        (first
         | (go_at_call 116;refine(Po.o _).mono ?_;rintro e w2 ⟨rfl,hb⟩;have pM:=aA (tM.o.trans (hb.mono tM.o.size));have rJ:=aA (HS.o _ pM.o);clear hb)
         | (go_at_call 115;refine(HMP.o _ pM.o).mono ?_;rintro e w3 ⟨v8,rfl,hrw,hb⟩;have Bg:=aA (pM.o.trans (hb.mono pM.o.size));have si:=aA (HS.o _ Bg.o);have Z8:=aA hrw;clear hb hrw))
       go_wp2;go_roundw
       case rel=>exact⟨k+1,by omega,by go_num,by rw[HKX.o,HMS.o];exact Z8.o.mono (gT jQ.o.size pM.o.size),jQ.o.trans (Bg.o.mono jQ.o.size),ajY.o.trans (Bg.o.mono ajY.o.size)⟩
       case measure=>simp[intOf];omega
     · obtain rfl:k=o.i.jD.length:=by omega
       clear hown hb hb1;go_wp2;go_roundw
       case rel=>exact⟨a+1,by omega,by go_num,by rw[wE.o];exact HOW.o,HBm.o⟩
       case measure=>simp[intOf];omega
  · obtain rfl:a=l.length:=by omega
    have HAN:Hid (rB l=oZ (Bz l l.length) (Bz l l.length).length):=(Vg _).symm;have ES:=aA (I6 l l.length);obtain⟨L,hL⟩:=ex (Bz l l.length);rw[<- hL] at HOW HAN ES;have hll:=ES.o.2;obtain⟨ar,cr,hv,hg⟩:=Dn HOW.o;subst hv;have HG:=aA hg;clear hown hb hL hg ES;go_wp2;go_loopw [41] (fun i wr=>∃(k:Nat),k<=L.length/\i=I k/\dV w.heap.size wr (.slice ar L.length cr) (oZ L k)/\Below w.heap.size w wr) (fun i _=>L.length-(intOf i).toNat)
    case atStart=>exact⟨0,by omega,rfl,HOW.o,Al.o⟩
    case round =>
     obtain⟨k,hk,rfl,hown,hb⟩:=hrel;have aht:=aA hown;have amo:=aA hb;clear HOW Al hown hb;by_cases hlt:k<L.length
     · obtain⟨g,hg⟩:=HG.o (by omega);subst hg;have hln:=yt L k;have HO4:Hid (wr.ownsRow w.heap.size 139 4 (.slice (some (Ad g 0)) L.length cr) L.length (cO (oZ L k))):=by
        have h:=aht.o;unfold dV at h;rw[hln] at h;exact h
       have HST:=aA (HO4.o.stored (k*4+3) (.bool false));have wE:Hid (cO (oZ L (k+1))=(cO (oZ L k)).set (k*4+3) (.bool false)):=(CH false (oZ L k) k (by omega)).symm;have hlx:=yt L (k+1);have HLX:=aA hlx;have hgl:=HO4.o.lt g rfl;have q3:=(HO4.o.cellAt (k*4+3) (by omega)).trans (mL (oZ L k) k 3 (by omega) (by omega));have qf:=HO4.o.frozenAt (k*4+3);clear hln hlx;go_wp2;go_roundw
       case rel=>exact⟨k+1,by omega,by go_num,by unfold dV;rw[HLX.o,wE.o];exact HST.o.1,amo.o.setCell (by simp;omega) _⟩
       case measure=>simp[intOf];omega
     · obtain rfl:k=L.length:=by omega
       go_wp2;go_ret;exact⟨_,rfl,by rw[HAN.o];exact aht.o,amo.o⟩
open Go.RowKit
def pZ (x:iL):List Value:=(jF x.a x.i).toList
def lU (all:List iL):Int :=
 if 7<all.length then 2
 else if ou all=0 then
  match Mb all all.length 0 [0] with
  | none=>6
  | some ix=>if 256<jH all 1 ix then 3 else
   match sA (eN all 1 ix) with
   | none=>7
   | some _=>0
 else ou all
theorem Sk {l:List iL} (h:ou l=0):(∀k,k<l.length->mq (cB l k).i=0)/\xx (jU l)=true:=by
 grind [ou,Hs]
theorem Yl {all:List iL} (hc:∀j,j<all.length->mq (cB all j).i=0) (h7:all.length<=7) {ix:List Nat} (ho:G0 all ix) (k:Nat) (hk:k<(eN all 1 ix).length):1<=(dJ (eN all 1 ix) k).base/\(dJ (eN all 1 ix) k).base<=2000:=by
 rw[kv] at hk;rw[(ug all ix 1 k hk).2.2];have h:=AK all hc (ix.take k) 1 (fun j hj=>ho.lt j (List.mem_of_mem_take hj));have h2:=ho.le
 grind
open Go.RowKit
theorem adn:(Tryz.prog.info? 56).map (fun i=>(i.zero,i.size,i.bytes))=some (some (.agg #[.string ⟨#[]⟩,Nl,Nl,Nl,Nl,I 0]),6,120):=by rfl
theorem Yd {w:World} {b off:Nat} {l:List iL} (h:Kl w b off l):∀j u,(l.flatMap pZ)[j]?=some u->w.cell? (((Ad b off):Addr).add j)=some u:=fun j u hj=>by
 obtain⟨k,r,hr,rfl⟩:∃k r,r<6/\j=k*6+r:=⟨j/6,j%6,by omega,by omega⟩;have hlen:∀l:List iL,(l.flatMap pZ).length=l.length*6:=fun l=>by
  induction l with
  | nil=>rfl
  | cons a r ih=>rw[nM,fD,ih,xu];show 6+_=_;omega
 have hk:k<l.length:=by
  grind
 rw[uS pZ 6 (fun _=>rfl) aaO l k r hk hr] at hj;obtain⟨⟨c0,c1,c2,c3,c4,c5⟩,_⟩:=h k hk;rw[tA,<- yL]
 match r,hr with
 | 0,_=>exact c0.trans hj
 | 1,_=>exact c1.trans hj
 | 2,_=>exact c2.trans hj
 | 3,_=>exact c3.trans hj
 | 4,_=>exact c4.trans hj
 | 5,_=>exact c5.trans hj
theorem adi {w:World} {base:Nat} {g cap:Nat} {l:List iL} (h:w.ownsRow base 56 6 (.slice (some (Ad g 0)) l.length cap) l.length (l.flatMap pZ)) (hg:g<w.heap.size) (hi:∀k,k<l.length->pT w (cB l k).a (cB l k).i) :
  Dv w (some (Ad g 0)) l:=fun hl=>by
 refine⟨g,0,rfl,hg,fun k hk=>?_⟩;rw[lO];have hh:∀j,j<6->w.cell? (Ad g (k*6+j))=(pZ (cB l k))[j]?:=fun j hj=>(h.cellAt _ (by omega)).trans (uS pZ 6 (fun _=>rfl) aaO l k j hk hj)
 exact⟨⟨hh 0 (by omega),hh 1 (by omega),hh 2 (by omega),hh 3 (by omega),hh 4 (by omega),hh 5 (by omega)⟩,hi k hk⟩
theorem EP {ops:Array Oper} {rest:List Oper} {o:Oper} {a:Act} {w:World} {Q:Exit->Act->World->Prop} (hgd:o.guard=none) (s x:Operand)
  (ho:o.op=.call { callee:=.builtin .append,args:=#[s,x],argTypes:=#[57,57] })
  (base:Nat) (p:iL) (g0:Nat) (hs:a.eval s=.slice (some (Ad g0 0)) 1 1) (hown:w.ownsRow base 56 6 (.slice (some (Ad g0 0)) 1 1) 1 (pZ p))
  (ao:Option Addr) (c:Nat) (libs:List iL) (hx:a.eval x=.slice ao libs.length c) (eX:Dv w ao libs) (h6:libs.length<=6) (hbase:base<=w.heap.size)
  (h:∀g cap w',w'.ownsRow base 56 6 (.slice (some (Ad g 0)) (libs.length+1) cap) (libs.length+1) ((p::libs).flatMap pZ)->w.grownBy w' (some g0)->g<w'.heap.size->wpList Tryz.prog ops Q rest (a.put o.dst (.slice (some (Ad g 0)) (libs.length+1) cap)) w'):wpList Tryz.prog ops Q (o::rest) a w:=by
 obtain⟨i0,hin,hz0,hz1,hz2⟩:=jm adn;by_cases h0:0<libs.length
 · obtain⟨b,off,rfl,hb,hl⟩:=eX h0;have hlen:∀l:List iL,(l.flatMap pZ).length=l.length*6:=fun l=>by
    induction l with
    | nil=>rfl
    | cons a r ih=>rw[nM,fD,ih,xu];show 6+_=_;omega
   have hone:∀u∈libs.flatMap pZ,u.oneCell'=true:=fun u hu=>by
    obtain⟨y,_,hy⟩:=vg.1 hu;simp only[pZ,jF] at hy;simp at hy;rcases hy with rfl | rfl | rfl | rfl | rfl | rfl <;> rfl
   refine OU w hgd s x 57 ho base 56 i0 (.agg #[.string ⟨#[]⟩,Nl,Nl,Nl,Nl,I 0]) 6 120 Tryz.underlying57 hin hz0 hz1 hz2 rfl (by decide) _ 1 _ hs hown (Ad b off) libs.length c (libs.flatMap pZ) hx (hlen _) (Yd hl) hone h0 (by grind [maxLen]) (by omega) hbase _ rfl ?_;intro g cap w' h2 h3 _ h5;have e:1+libs.length=libs.length+1:=Nat.add_comm _ _;rw[e] at h2 ⊢;exact h g cap w' h2 h3 h5
 · have e0:libs=[]:=kT (by omega);subst e0;have hg0:g0<w.heap.size:=(hown.lt g0 rfl).2;refine wpList_plain hgd fun K hK=>?_
   have hsrc:Src Tryz.prog i0.size 57 (.slice ao 0 c) 0 [] w:=⟨.inl ⟨_,Tryz.underlying57⟩,fun w'=>by rfl,by cases ao <;> simp[Builtin.firstCells,loadCells,loadCellsFrom],by cases ao <;> simp[Builtin.firstCells,loadCells,loadCellsFrom],by simp,by simp⟩;have hr:=run_append_nothing (P:=Tryz.prog) w 57 57 o.type 56 i0 Tryz.underlying57 hin (some (Ad g0 0)) 1 1 (aH _) (.slice ao 0 c) hsrc;have hx':a.eval x=.slice ao 0 c:=hx;unfold Oper.wp execOp;simp only[ho,resolve,invoke,builtin,Sem.run_bind,Sem.run_pure,Us,List.map_toArray,yK,List.map_nil,hs,hx',hr];refine hK _ _ (h g0 1 w ?_ ⟨rfl,rfl,rfl,aH _,fun _ _ _=>rfl⟩ hg0)
   grind
open Go.RowKit Go.WideMaps Go.Maps
def acA (all:List iL) (w:World) (e:Ending) (w':World):Prop:=Below w.heap.size w w' /\
 if lU all=0 then ∃(ix:List Nat) (E:List Fb) (r:Value) (hs:List bG) (ao:Option Addr) (cap:Nat),Mb all all.length 0 [0]=some ix/\sA (eN all 1 ix)=some E/\hs.map fP=E /\
  e=.returned (.tuple #[.agg #[r,.slice ao hs.length cap,I (xU (dJ (eN all 1 ix) 0) (cB all 0).i.entry)],I 0])/\dV w.heap.size w' r (rB (eN all 1 ix))/\jn w' ao hs/\hs.length<=cap
 else e=.returned (.tuple #[.agg #[Nl,Nl,I 0],I (lU all)])
theorem tC (V:World) (rb b j:Nat) (u0 u1 u2:Value) (h:b≠rb):(((V.setCell (Ad rb 0) u0).setCell (Ad rb 1) u1).setCell (Ad rb 2) u2).cell? (Ad b j)=V.cell? (Ad b j):=by
 grind [World.cell?_setCell_far]
def J1 (V:World) (rb:Nat) (u0 u1 u2:Value):World:=((V.setCell (Ad rb 0) u0).setCell (Ad rb 1) u1).setCell (Ad rb 2) u2
theorem J0 (V:World) (rb:Nat) (u0 u1 u2:Value):(J1 V rb u0 u1 u2).heap.size=V.heap.size:=by simp[J1]
theorem Yc {V:World} {rb b off:Nat} {t:TypeId} {x:Int} {y:ByteArray} (h:V.heap[rb]?=some (.cells #[Nl,Nl,I 0] t (0,0))) (c0:V.cell? (Ad b off)=some (I x)) (c1:V.cell? (Ad b (off+1))=some (.string y)):b≠rb:=fun e=>by
 grind [World.cell?]
theorem U3 {V:World} {rb:Nat} {t:TypeId} (h:V.heap[rb]?=some (.cells #[Nl,Nl,I 0] t (0,0))) {ao:Option Addr} {l:List mI} (g:qG V ao l) (u0 u1 u2:Value):qG (J1 V rb u0 u1 u2) ao l:=fun hl=>by
 obtain⟨b,off,e,hb,eX⟩:=g hl;obtain⟨c0,c1⟩:=eX 0 hl;have hne:=Yc h c0 c1;refine⟨b,off,e,by grind [J0],fun k hk=>?_⟩;obtain⟨d0,d1⟩:=eX k hk;exact⟨(tC V rb b _ u0 u1 u2 hne).trans d0,(tC V rb b _ u0 u1 u2 hne).trans d1⟩
theorem U0 {V:World} {rb:Nat} {t:TypeId} (h:V.heap[rb]?=some (.cells #[Nl,Nl,I 0] t (0,0))) {ao:Option Addr} {l:List bG} (g:jn V ao l) (u0 u1 u2:Value):jn (J1 V rb u0 u1 u2) ao l:=fun hl=>by
 obtain⟨b,off,e,hb,eX⟩:=g hl;obtain⟨c0,c1,_,_⟩:=eX 0 hl;have hne:=Yc h c0 c1;refine⟨b,off,e,by grind [J0],fun k hk=>?_⟩;obtain⟨d0,d1,d2,d3⟩:=eX k hk;exact⟨(tC V rb b _ u0 u1 u2 hne).trans d0,(tC V rb b _ u0 u1 u2 hne).trans d1,(tC V rb b _ u0 u1 u2 hne).trans d2,U3 h d3 u0 u1 u2⟩
theorem Yb {V:World} {rb lo:Nat} {v:Value} {l:List aX} (h:dV lo V v l) (hlt:rb<lo) (u0 u1 u2:Value):dV lo (J1 V rb u0 u1 u2) v l :=
 GM (GM (GM h hlt _) hlt _) hlt _
open Go.RowKit
open Go.RowKit
open Go.RowKit
end Go.Proofs.YtlgoihmkgaaemaaGreat
