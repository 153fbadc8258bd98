import Derived.Test.YtlgoihmkgaaemaaGreatGQ31
set_option maxHeartbeats 20000000
set_option linter.unusedVariables false
set_option maxRecDepth 100000
set_option linter.unusedSimpArgs false
namespace Go.Proofs.YtlgoihmkgaaemaaGreat
open Go.RowKit Tryz
theorem akj (op a b c m:Int) (w:World) (h:op=9\/op=10):Calls prog 217 #[.agg #[I op,I a,I b,I c,I m]] w λe w'=>e=.returned (.bool (!gY [a,b] || !uv c))/\Below w.heap.size w w':=by
 have HA:Hid (∀V:World,Calls prog 229 #[.slice (some (Ad (w.heap.size+1) 0)) 2 2] ((w.alloc (.cells #[I op,I a,I b,I c,I m] 108)).alloc (.cells (tI [a,b]) 3)) λe w'=>e=.returned (.bool (gY [a,b]))/\((w.alloc (.cells #[I op,I a,I b,I c,I m] 108)).alloc (.cells (tI [a,b]) 3))=w'):=λV=>yA [a,b] (w.heap.size+1) _ ξ (by have e:=bH (w.alloc (.cells #[I op,I a,I b,I c,I m] 108)) (tI [a,b]) 3;rw[fY] at e;exact e)
 have HS:=dn (XT c);generalize gY [a,b]=R at HA ⊢;generalize uv c=S at HS ⊢;rcases h with rfl | rfl <;> cases R
 all_goals
  go_enter func217,ntmps217;go_wp2_with fail;refine(HA.o w).mono ?_;rintro e w' ⟨rfl,rfl⟩;go_wp2_with (refine(HS.o _).mono ?_;rintro e w' ⟨rfl,rfl⟩);go_ret;exact⟨ξ,((aN _ _).alloc (aK _) _).alloc ξ _⟩
theorem ahb (a b c m:Int) (w:World):Calls prog 217 #[.agg #[I 12,I a,I b,I c,I m]] w λe w'=>e=.returned (.bool false)/\Below w.heap.size w w':=by
 go_enter func217,ntmps217;go_wp2;go_ret;exact⟨ξ,(aN _ _).alloc (aK _) _⟩
theorem aha (a b c m:Int) (w:World):Calls prog 217 #[.agg #[I 16,I a,I b,I c,I m]] w λe w'=>e=.returned (.bool (!decide (1<=m/\m<=6)))/\Below w.heap.size w w':=by
 obtain⟨r,hr⟩:=ex (!decide (1<=m/\m<=6));have HR:=dn hr;rw[<- hr];clear hr;rcases(show(m<1/\r=true)\/((1<=m/\m<=6)/\r=false)\/((1<=m/\6<m)/\r=true) by rw[HR.o];by_cases h:1<=m/\m<=6 <;> simp[h] <;> omega) with⟨h,rfl⟩ | ⟨⟨h,h'⟩,rfl⟩ | ⟨⟨h,h'⟩,rfl⟩
 all_goals
  go_enter func217,ntmps217;go_wp2;go_ret;exact⟨by first | (simp;done) | (simp;omega),(aN _ _).alloc (aK _) _⟩
theorem aki (op a b c m:Int) (w:World) (h:op<1\/16<op):Calls prog 217 #[.agg #[I op,I a,I b,I c,I m]] w λe w'=>e=.returned (.bool true)/\Below w.heap.size w w':=by
 obtain⟨n1,n2,n3,n4,n5,n6,n7,n8,n9,F,J,q,G,B,y,A⟩:¬op=1/\¬op=2/\¬op=3/\¬op=4/\¬op=5/\¬op=6/\¬op=7/\¬op=8/\¬op=9/\¬op=10/\¬op=11/\¬op=12/\¬op=13/\¬op=14/\¬op=15/\¬op=16:=by omega
 clear h;go_enter func217,ntmps217;go_wp2;go_ret;exact⟨by simp[q],(aN _ _).alloc (aK _) _⟩
theorem Rt (i:eu) (h:i.op<1\/16<i.op):i.bad=true:=by
 unfold eu.bad;rw[aB ω,aB ω,aB ω,aB ω,aB ω,aB ω]
theorem N6 (i:eu) (w:World) (hi:i.fits):Calls prog 217 #[.agg i.cells] w λe w'=>e=.returned (.bool i.bad)/\Below w.heap.size w w':=by
 obtain⟨op,a,b,c,m⟩:=i;obtain⟨-,ha,hb,hc,-⟩:=hi;have e1:=amv a ha;have e2:=amu a b ha hb;have e3:=amt a b c ha hb hc;rcases(show(op<1\/16<op)\/(op=1\/op=11\/op=15)\/(op=2\/op=3\/op=4\/op=5\/op=6\/op=7)\/(op=8\/op=13\/op=14)\/(op=9\/op=10)\/op=12\/op=16 by omega) with h | h | h | h | h | rfl | rfl
 . rw[Rt _ h];exact aki op a b c m w h
 . have g:=akm op a b c m w h;rw[e1] at g;rcases h with rfl | rfl | rfl <;> exact g
 . have g:=akl op a b c m w h;rw[e3] at g;rcases h with rfl | rfl | rfl | rfl | rfl | rfl <;> exact g
 . have g:=akk op a b c m w h;rw[e2] at g;rcases h with rfl | rfl | rfl <;> exact g
 . have g:=akj op a b c m w h;rw[e2] at g;rcases h with rfl | rfl <;> exact g
 . exact ahb a b c m w
 exact aha a b c m w
open Go.RowKit
def IY (i:eu):Int:=if i.bad then 4 else if i.op=9 then 1 else if i.op=10 then 2 else if i.op=16 then 3 else 0
theorem ajr (D:Bool) (op:Int):D=true\/(D=false/\op=9)\/(D=false/\op=10)\/(D=false/\op=16)\/(D=false/\¬op=9/\¬op=10/\¬op=16):=by cases D <;> simp;omega
theorem XR (i:eu) (w:World) (hi:i.fits):Calls prog 194 #[.agg i.cells] w λe w'=>e=.returned (I (IY i))/\Below w.heap.size w w':=by
 have HB:=dn (λV=>N6 i V hi);have HK:Hid (IY i=if i.bad then 4 else if i.op=9 then 1 else if i.op=10 then 2 else if i.op=16 then 3 else 0):=rfl;obtain⟨op,a,b,c,m⟩:=i;unfold eu.cells at HB ⊢;simp only at HB HK ⊢;generalize IY ⟨op,a,b,c,m⟩=K at HK ⊢;generalize eu.bad ⟨op,a,b,c,m⟩=D at HK HB;clear hi;have fU:=dn ((aN w.heap.size w).alloc (aK _) (.cells #[I op,I a,I b,I c,I m] 108));have BX:=dn (bH w #[I op,I a,I b,I c,I m] 108);go_enter func194,ntmps194;go_wp2_with fail;refine(HB.o _).mono ?_;rintro e w1 ⟨rfl,q⟩;have cD:=dn (fU.o.trans (q.mono fU.o.size));have c0:=aA (aU BX.o q (aQ BX.o)) 0 rfl;clear q;rcases ajr D op with rfl | ⟨rfl,rfl⟩ | ⟨rfl,rfl⟩ | ⟨rfl,rfl⟩ | ⟨rfl,h1,h2,h3⟩
 all_goals
  go_wp2;go_ret;exact⟨by rw[HK.o];first | rfl | simp[*],cD.o⟩
theorem rq {x:Int} (h:tJ x) (h8:¬8<=x):∃n:Nat,x=(n:Int)/\n<8:=by
 obtain⟨h0,-⟩:=h;exact⟨x.toNat,ω,ω⟩
theorem Lq {N g:Nat} {w W:World} (h:Below N w W) (hg:N<=g) (v0 v1 v2 v3 v4:Value):Below N w (((((W.setCell (Ad g 0) v0).setCell (Ad g 1) v1).setCell (Ad g 2) v2).setCell (Ad g 3) v3).setCell (Ad g 4) v4) :=
 ((((h.setCell (p:=(Ad g 0)) hg v0).setCell (p:=(Ad g 1)) hg v1).setCell (p:=(Ad g 2)) hg v2).setCell (p:=(Ad g 3)) hg v3).setCell (p:=(Ad g 4)) hg v4
theorem ag9 (op a b c m:Int) (hi:eu.fits ⟨op,a,b,c,m⟩) (h:op=9\/op=10) (hd:eu.bad ⟨op,a,b,c,m⟩=false):∃na nb:Nat,a=(na:Int)/\b=(nb:Int)/\na<8/\nb<8:=by
 obtain⟨-,ha,hb,-⟩:=hi;have e:(decide (8<=a\/8<=b) || !(uv c))=false:=by
  rcases h with h | h <;> subst h <;> exact hd
 simp only[Ua,decide_eq_false_iff_not] at e;obtain⟨na,h1,h2⟩:=rq ha (λh=>e.1 (.inl h));obtain⟨nb,h3,h4⟩:=rq hb (λh=>e.1 (.inr h));exact⟨na,nb,h1,h3,h2,h4⟩
theorem ahf (p:bT) (s:ByteArray) (w:World) (h:s.size=8):Calls prog 149 #[p.val,.string s] w λe w'=>e=.returned (.tuple #[.agg (ru p (iC s)),I 0])/\Below w.heap.size w w':=by
 have HD:=dn (λV=>Lr s V h);have q:=Ec s h;generalize iC s=i at HD q ⊢;have HK:=dn (λV=>XR i V q);clear h;obtain⟨op,a,b,c,m⟩:=i;have F:Hid (ru p ⟨op,a,b,c,m⟩=if eu.bad ⟨op,a,b,c,m⟩ then #[I 4,I 0,I 0,I 0,I 0] else if op=9 then #[I 1,I (wrap64 (p.r b.toNat+m)),I c,I 0,I 0] else if op=10 then #[I 2,I (wrap64 (p.r b.toNat+m)),I c,I (p.r a.toNat),I 0] else if op=16 then #[I 3,I 0,I 0,I 0,I m] else #[I 0,I 0,I 0,I 0,I 0]):=rfl;have B:=dn (ag9 op a b c m q);have A:Hid (IY ⟨op,a,b,c,m⟩=if eu.bad ⟨op,a,b,c,m⟩ then 4 else if op=9 then 1 else if op=10 then 2 else if op=16 then 3 else 0):=rfl;obtain⟨D,hD⟩:=ex (eu.bad ⟨op,a,b,c,m⟩);generalize ru p ⟨op,a,b,c,m⟩=Q at F ⊢;generalize IY ⟨op,a,b,c,m⟩=K at A HK;rw[<- hD] at A F B;clear hD q;unfold eu.cells at HD HK;simp only at HD HK;have fU:=dn (((aN w.heap.size w).alloc (aK _) (.cells p.row 77)).alloc ξ (.cells #[I 0,I 0,I 0,I 0,I 0] 110));have BP:=dn (bu (bH w p.row 77) (.cells #[I 0,I 0,I 0,I 0,I 0] 110));have BR:=dn (bH (w.alloc (.cells p.row 77)) #[I 0,I 0,I 0,I 0,I 0] 110);rw[fY] at BR;unfold bT.val;go_enter func149,ntmps149;go_wp2_with fail;refine(HD.o _).mono ?_;rintro e w1 ⟨rfl,G⟩;have cD:=dn (fU.o.trans (G.mono fU.o.size));have L:=aU BP.o G (aQ BP.o);have Iz:=aU BR.o G (aQ BR.o);have M:=dn ((aN w1.heap.size w1).alloc (aK _) (.cells #[I op,I a,I b,I c,I m] 108));clear G;go_wp2_with fail;refine(HK.o _).mono ?_;rintro e w2 ⟨rfl,y⟩;have iJ:=dn (cD.o.trans ((M.o.trans (y.mono M.o.size)).mono cD.o.size));have O:=dn (aU (bu L _) y (aQ (bu L _)));have TE:=aU (bu Iz _) y (aQ (bu Iz _));have J:=aU (bH w1 #[I op,I a,I b,I c,I m] 108) y ξ;have T:=iJ.o.size;have l0:=aQ O.o;have l1:=aQ TE;have l2:=aQ J;have R:¬w1.heap.size=w.heap.size+1:=λh=>by have:=aQ Iz;omega
 obtain⟨t0,t1,t2,t3,t4⟩:=o5 TE;obtain⟨-,i1,i2,i3,i4⟩:=o5 J;have u0:=bG TE;clear y M J Iz TE L;have HC:Hid (∀n,n<8->w2.cell? (Ad w.heap.size n)=some (I (p.r n))):=λn hn=>aA O.o n (MH p n hn)
 rcases ajr D op with rfl | ⟨rfl,rfl⟩ | ⟨rfl,rfl⟩ | ⟨rfl,rfl⟩ | ⟨rfl,h1,h2,h3⟩
 all_goals
  have hK:=A.o;have hQ:=F.o
  try ((first | obtain⟨na,nb,rfl,rfl,CS,N⟩:=B.o (.inl rfl) rfl | obtain⟨na,nb,rfl,rfl,CS,N⟩:=B.o (.inr rfl) rfl);have ca:=HC.o na CS;have cb:=HC.o nb N)
  simp[*] at hK hQ;subst hK;have HQ:=dn hQ;clear hQ B A F;go_wp2_with fail
  try go_region
  try go_wp2
  refine b9 (v:=.tuple #[.agg Q,I 0]) (by rw[HQ.o];simp[results,results149,go_sem,t0,t1,t2,t3,t4,l1]) rfl ?_;exact⟨rfl,(by first | exact(Lq iJ.o (qI _) _ _ _ _ _).alloc (by simp;omega) _ | exact((Lq iJ.o (qI _) _ _ _ _ _).alloc (by simp;omega) _).drew)⟩
theorem XQ (F:FuncId) (op b c:Int) (w:World) (hF:F=231\/F=108) (h:op=2\/op=3\/op=4\/op=5\/op=6\/op=7):Calls prog F #[I op,I b,I c] w λe w'=>e=.returned (I (Ru op b c))/\w'=w:=by
 by_cases g:op=7
 . subst g;have h1:=abe c;have h2:=abf c;have h3:IntKind.u64.wrap (c%64)=c%64:=by rw[aof];omega
   have HR:=dn (show Ru 7 b c=wrap64 (IntKind.u64.wrap b/2 ^ min (c%64).toNat 64) from rfl);rw[HR.o];have h4:0<=c%64:=by omega
   generalize c%64=E at h1 h2 h3 h4 ⊢;clear h;rcases hF with rfl | rfl <;> ((first | go_enter func231,ntmps231 | go_enter func108,ntmps108);go_wp2;go_ret;exact⟨rfl,rfl⟩)
 rcases h with rfl | rfl | rfl | rfl | rfl | h
 all_goals try rcases hF with rfl | rfl <;> ((first | go_enter func231,ntmps231 | go_enter func108,ntmps108);go_wp2;go_ret;exact⟨rfl,rfl⟩)
 exact absurd h g
theorem ahd (a b:Int) (w:World):Calls prog 232 #[I 13,I a,I b] w λe w'=>e=.returned (.bool (decide (a=b)))/\w=w':=by
 go_enter func232,ntmps232;go_wp2;go_ret;exact⟨by first | rfl | simp[beq_eq_decide],rfl⟩
theorem ahc (a b:Int) (w:World):Calls prog 232 #[I 14,I a,I b] w λe w'=>e=.returned (.bool (decide (a<b)))/\w=w':=by
 go_enter func232,ntmps232;go_wp2;go_ret;exact⟨by first | rfl | simp[beq_eq_decide],rfl⟩
def ahg (p Q:bT) (na nb:Nat) (op a b m v:Int):Prop :=
 (op=1/\a=na/\Q=({ p with pc:=wrap64 (p.pc+8) }:bT).set na m)\/(op=9/\a=na/\Q=({ p with pc:=wrap64 (p.pc+8) }:bT).set na v)\/(op=11/\a=na/\Q=({ p with pc:=wrap64 (p.pc+8) }:bT).set na (wrap64 (p.pc+m)))\/(op=15/\a=na/\Q={ p with pc:=p.r na })\/(op=10/\a=na/\Q={ p with pc:=wrap64 (p.pc+8) })\/(op=12/\a=a/\Q={ p with pc:=wrap64 (p.pc+m) })\/(op=8/\(a=na/\b=nb)/\Q=({ p with pc:=wrap64 (p.pc+8) }:bT).set na (wrap64 (p.r nb+m)))
theorem MF {p Q:bT} {na nb:Nat} {op a b m v:Int} (h:ahg p Q na nb op a b m v) (c:Int) (w:World) (F:FuncId) (hF:F=219\/F=60) (CS:na<8) (hnb:nb<8):Calls prog F #[.agg p.row,.agg #[I op,I a,I b,I c,I m],I v] w λe w'=>e=.returned (.agg Q.row)/\Below w.heap.size w w':=by
 obtain⟨Y,hY⟩:=ex (Value.agg Q.row);have HY:=dn hY;rw[<- hY];clear hY;obtain⟨r0,r1,r2,r3,r4,r5,r6,r7,r8,r9,q,y,G⟩:=CU;have rs:=yc;have e8:=CW;have e9:=CV;have A:=CX;obtain⟨sa,B,ga⟩:=MI na CS;obtain⟨sb,J,gb⟩:=MI nb hnb;rcases hF with rfl | rfl <;> rcases h with⟨rfl,rfl,rfl⟩ | ⟨rfl,rfl,rfl⟩ | ⟨rfl,rfl,rfl⟩ | ⟨rfl,rfl,rfl⟩ | ⟨rfl,rfl,rfl⟩ | ⟨rfl,-,rfl⟩ | ⟨rfl,⟨rfl,rfl⟩,rfl⟩
 all_goals
  (first | go_enter func219,ntmps219 | go_enter func60,ntmps60)
  go_wp2_with fail
  try go_region
  try go_wp2
  refine b9 (v:=Y) (by rw[HY.o];simp[results,results219,results60,go_sem];rfl) rfl ?_;exact⟨rfl,(by first | exact(((aN _ _).alloc (aK _) _).alloc ξ _).alloc (by simp;omega) _ | exact((((aN _ _).alloc (aK _) _).alloc ξ _).alloc (by simp;omega) _).drew)⟩
theorem ams (op:Int) (F G:FuncId) (q p:bT) (na:Nat) (nb:Nat) (nc:Nat) (m v:Int) (w:World) (h:op=2\/op=3\/op=4\/op=5\/op=6\/op=7) (hF:(F=219/\q={ p with pc:=wrap64 (p.pc+8) }/\G=231)\/(F=60/\p=q/\G=108)) (CS:na<8) (hnb:nb<8) (hnc:nc<8):Calls prog F #[.agg p.row,.agg #[I op,I na,I nb,I nc,I m],I v] w λe w'=>e=.returned (.agg (eN p ⟨op,na,nb,nc,m⟩ v).row)/\Below w.heap.size w w':=by
 have HR:=dn (show eN p ⟨op,na,nb,nc,m⟩ v=({ p with pc:=wrap64 (p.pc+8) }:bT).set na (Ru op (p.r nb) (p.r nc)) from by rcases h with rfl | rfl | rfl | rfl | rfl | rfl <;> rfl);rw[HR.o];clear HR;have y:=dn (λw=>XQ G op (p.r nb) (p.r nc) w (by rcases hF with⟨_,_,rfl⟩ | ⟨_,_,rfl⟩ <;> simp) h);obtain⟨Y,hY⟩:=ex ((Ru op (p.r nb) (p.r nc)));rw[<- hY] at y ⊢;clear hY;have b:∀n,q.r n=p.r n:=λn=>by rcases hF with⟨_,rfl,_⟩ | ⟨_,rfl,_⟩ <;> rfl
 obtain⟨r0,r1,r2,r3,r4,r5,r6,r7,r8,r9,J,K,T⟩:=CU;have rs:=yc;have e8:=CW;have e9:=CV;have Q:=CX;obtain⟨sa,R,ga⟩:=MI na CS;have U:(0:Int)<=(na:Int):=by omega
 have L:(na:Int)<8:=by omega
 obtain⟨sb,B,gb⟩:=MI nb hnb;have N:(0:Int)<=(nb:Int):=by omega
 have M:(nb:Int)<8:=by omega
 obtain⟨sc,A,gc⟩:=MI nc hnc;have X:(0:Int)<=(nc:Int):=by omega
 have O:(nc:Int)<8:=by omega
 have BP:=dn (bu (bu (bH w q.row 77) (.cells #[I op,I na,I nb,I nc,I m] 108)) (.cells #[I 0,I 0,I 0,I 0,I 0,I 0,I 0,I 0,I 0,I 0,I 0,I 0,I 0] 77));have BI:=dn (bu (bH (w.alloc (.cells q.row 77)) #[I op,I na,I nb,I nc,I m] 108) (.cells #[I 0,I 0,I 0,I 0,I 0,I 0,I 0,I 0,I 0,I 0,I 0,I 0,I 0] 77));rw[fY] at BI;obtain⟨W,hW⟩:=ex ((((w.alloc (.cells q.row 77)).alloc (.cells #[I op,I na,I nb,I nc,I m] 108)).alloc (.cells #[I 0,I 0,I 0,I 0,I 0,I 0,I 0,I 0,I 0,I 0,I 0,I 0,I 0] 77)));have HW:=dn hW;rw[<- hW] at BP BI;clear hW;have k0:W.cell? (Ad (w.heap.size+1) 0)=some (I op):=aA BI.o 0 rfl;have k1:W.cell? (Ad (w.heap.size+1) 1)=some (I (na)):=aA BI.o 1 rfl;have k2:W.cell? (Ad (w.heap.size+1) 2)=some (I (nb)):=aA BI.o 2 rfl;have k3:W.cell? (Ad (w.heap.size+1) 3)=some (I (nc)):=aA BI.o 3 rfl;have k4:W.cell? (Ad w.heap.size nb)=some (I (p.r nb)):=(aA BP.o nb (B _)).trans (by rw[b]);have k5:W.cell? (Ad w.heap.size nc)=some (I (p.r nc)):=(aA BP.o nc (A _)).trans (by rw[b]);clear b;rcases hF with⟨rfl,rfl,rfl⟩ | ⟨rfl,rfl,rfl⟩ <;> rcases h with rfl | rfl | rfl | rfl | rfl | rfl
 all_goals
  as_aux_lemma =>
   (first | go_enter func219,ntmps219 | go_enter func60,ntmps60)
   go_wp2_with fail
   rw[<- HW.o];refine wp_region_still_tail 17 κ κ ?_;simp only[aaR,List.take_zero,aaS,List.drop_zero];show wpStill _ _ W.drew _ _ _
   repeat (first | still_step | still_call (y.o _))
   refine wpStill_nil ?_;show wpList _ _ _ _ _ W.drew;rw[HW.o];clear HW BP BI k0 k1 k2 k3 k4 k5;go_wp2;refine b9 (v:=.agg (({ p with pc:=wrap64 (p.pc+8) }:bT).set na Y).row) (by simp[results,results219,results60,go_sem];rfl) rfl ?_;exact⟨rfl,(by first | exact(((aN _ _).alloc (aK _) _).alloc ξ _).alloc (by simp;omega) _ | exact((((aN _ _).alloc (aK _) _).alloc ξ _).alloc (by simp;omega) _).drew)⟩
theorem abd (op:Int) (F:FuncId) (q p:bT) (na nb:Nat) (c m v d:Int) (t:Bool) (w:World) (CS:na<8) (hnb:nb<8) (hO:(op=13/\(p.r na==p.r nb)=t)\/(op=14/\decide (p.r na<p.r nb)=t)) (hT:(t=true/\d=m)\/(t=false/\d=8)) (hF:(F=219/\q={ p with pc:=wrap64 (p.pc+8) })\/(F=60/\p=q)) :
  Calls prog F #[.agg p.row,.agg #[I op,I na,I nb,I c,I m],I v] w λe w'=>e=.returned (.agg ({ p with pc:=wrap64 (p.pc+d) }:bT).row)/\Below w.heap.size w w':=by
 have b:∀n,q.r n=p.r n:=λn=>by rcases hF with⟨_,rfl⟩ | ⟨_,rfl⟩ <;> rfl
 obtain⟨Y,hY⟩:=ex (Value.agg ({ p with pc:=wrap64 (p.pc+d) }:bT).row);have HY:=dn hY;rw[<- hY];clear hY;obtain⟨r0,r1,r2,r3,r4,r5,r6,r7,r8,r9,B,G,N⟩:=CU;have rs:=yc;have e8:=CW;have e9:=CV;have M:=CX;obtain⟨sa,y,ga⟩:=MI na CS;have O:(0:Int)<=(na:Int):=by omega
 have J:(na:Int)<8:=by omega
 obtain⟨sb,A,gb⟩:=MI nb hnb;have L:(0:Int)<=(nb:Int):=by omega
 have K:(nb:Int)<8:=by omega
 have BP:=dn (bu (bu (bH w q.row 77) (.cells #[I op,I na,I nb,I c,I m] 108)) (.cells #[I 0,I 0,I 0,I 0,I 0,I 0,I 0,I 0,I 0,I 0,I 0,I 0,I 0] 77));have BI:=dn (bu (bH (w.alloc (.cells q.row 77)) #[I op,I na,I nb,I c,I m] 108) (.cells #[I 0,I 0,I 0,I 0,I 0,I 0,I 0,I 0,I 0,I 0,I 0,I 0,I 0] 77));rw[fY] at BI;obtain⟨W,hW⟩:=ex ((((w.alloc (.cells q.row 77)).alloc (.cells #[I op,I na,I nb,I c,I m] 108)).alloc (.cells #[I 0,I 0,I 0,I 0,I 0,I 0,I 0,I 0,I 0,I 0,I 0,I 0,I 0] 77)));have HW:=dn hW;rw[<- hW] at BP BI;clear hW;have k0:W.cell? (Ad (w.heap.size+1) 0)=some (I op):=aA BI.o 0 rfl;have k1:W.cell? (Ad (w.heap.size+1) 1)=some (I (na)):=aA BI.o 1 rfl;have k2:W.cell? (Ad (w.heap.size+1) 2)=some (I (nb)):=aA BI.o 2 rfl;have k3:W.cell? (Ad w.heap.size na)=some (I (p.r na)):=(aA BP.o na (y _)).trans (by rw[b]);have k4:W.cell? (Ad w.heap.size nb)=some (I (p.r nb)):=(aA BP.o nb (A _)).trans (by rw[b]);have HH:Hid (∀V,Calls prog 232 #[I op,I (p.r na),I (p.r nb)] V λe w'=>e=.returned (.bool t)/\w'=V):=λV=>by
  rcases hO with⟨rfl,h⟩ | ⟨rfl,h⟩
  . exact(ahd (p.r na) (p.r nb) V).mono λe w' g=>⟨by rw[g.1,<- h];rfl,g.2.symm⟩
  exact(ahc (p.r na) (p.r nb) V).mono λe w' g=>⟨by rw[g.1,<- h],g.2.symm⟩
 clear b;rcases hF with⟨rfl,rfl⟩ | ⟨rfl,rfl⟩ <;> rcases hT with⟨rfl,rfl⟩ | ⟨rfl,rfl⟩ <;> rcases hO with⟨rfl,hq⟩ | ⟨rfl,hq⟩
 all_goals
  (first | go_enter func219,ntmps219 | go_enter func60,ntmps60)
  go_wp2_with fail
  rw[<- HW.o];refine wp_region_still_lit κ κ ?_;show wpStill _ _ W.drew _ _ _
  repeat (first | still_step | still_call (HH.o _))
  refine wpStill_nil ?_;show Exit.then _ _ _ _ W.drew;rw[HW.o];clear HW BP BI k0 k1 k2 k3 k4;go_wp2;refine b9 (v:=Y) (by rw[HY.o];simp[results,results219,results60,go_sem];rfl) rfl ?_;exact⟨rfl,(by first | exact(((aN _ _).alloc (aK _) _).alloc ξ _).alloc (by simp;omega) _ | exact((((aN _ _).alloc (aK _) _).alloc ξ _).alloc (by simp;omega) _).drew)⟩
theorem ajs (op:Int) (F:FuncId) (q p:bT) (na nb:Nat) (c m v:Int) (w:World) (CS:na<8) (hnb:nb<8) (h:op=13\/op=14) (hF:(F=219/\q={ p with pc:=wrap64 (p.pc+8) })\/(F=60/\p=q)) :
  Calls prog F #[.agg p.row,.agg #[I op,I na,I nb,I c,I m],I v] w λe w'=>e=.returned (.agg (eN p ⟨op,na,nb,c,m⟩ v).row)/\Below w.heap.size w w':=by
 rcases h with rfl | rfl
 . by_cases g:p.r na=p.r nb
   . rw[show eN p ⟨13,na,nb,c,m⟩ v={ p with pc:=wrap64 (p.pc+m) } from aC g];exact abd 13 F q p na nb c m v m true w CS hnb (.inl ⟨rfl,by simpa using g⟩) (.inl ⟨rfl,rfl⟩) hF
   rw[show eN p ⟨13,na,nb,c,m⟩ v={ p with pc:=wrap64 (p.pc+8) } from aB g];exact abd 13 F q p na nb c m v 8 false w CS hnb (.inl ⟨rfl,by simpa using g⟩) (.inr ⟨rfl,rfl⟩) hF
 by_cases g:p.r na<p.r nb
 . rw[show eN p ⟨14,na,nb,c,m⟩ v={ p with pc:=wrap64 (p.pc+m) } from aC g];exact abd 14 F q p na nb c m v m true w CS hnb (.inr ⟨rfl,by simpa using g⟩) (.inl ⟨rfl,rfl⟩) hF
 rw[show eN p ⟨14,na,nb,c,m⟩ v={ p with pc:=wrap64 (p.pc+8) } from aB g];exact abd 14 F q p na nb c m v 8 false w CS hnb (.inr ⟨rfl,by simpa using g⟩) (.inr ⟨rfl,rfl⟩) hF
def C7 (p:bT) (m v:Int):bT:=if m=6 then { p with st:=2,cd:=p.r 0 } else if m=1 then p else p.set 0 v
theorem XU (p:bT) (m v:Int) (w:World) (h:1<=m/\m<=6):Calls prog 233 #[.agg p.row,I m,I v] w λe w'=>e=.returned (.agg (C7 p m v).row)/\Below w.heap.size w w':=by
 obtain⟨Y,hY⟩:=ex (Value.agg (C7 p m v).row);have HY:=dn hY;rw[<- hY];clear hY;obtain⟨r0,r1,r2,r3,r4,r5,r6,r7,r8,r9,b,y,A⟩:=CU;have rs:=yc;have e8:=CW;have e9:=CV;have B:=CX;have s0:∀(q:bT) (v:Int),q.row.setIfInBounds 0 (I v)=(q.set 0 v).row:=λq v=>MG q 0 v ω
 obtain rfl | rfl | rfl | rfl | rfl | rfl:m=1\/m=2\/m=3\/m=4\/m=5\/m=6:=by omega
 all_goals
  go_enter func233,ntmps233;go_wp2;refine b9 (v:=Y) (by rw[HY.o];simp[results,results233,go_sem];rfl) rfl ?_;exact⟨rfl,((aN _ _).alloc (aK _) _).alloc ξ _⟩
theorem ad9 (p:bT) (a b c m v:Int) (w:World) (h:1<=m/\m<=6):Calls prog 219 #[.agg p.row,.agg #[I 16,I a,I b,I c,I m],I v] w λe w'=>e=.returned (.agg (eN p ⟨16,a,b,c,m⟩ v).row)/\Below w.heap.size w w':=by
 have HR:=dn (show eN p ⟨16,a,b,c,m⟩ v=C7 ({ p with pc:=wrap64 (p.pc+8) }:bT) m v from rfl);rw[HR.o];have HC:Hid (∀V,Calls prog 233 #[.agg (({ p with pc:=wrap64 (p.pc+8) }:bT)).row,I m,I v] V λe w'=>e=.returned (.agg (C7 ({ p with pc:=wrap64 (p.pc+8) }:bT) m v).row)/\Below V.heap.size V w'):=λV=>XU ({ p with pc:=wrap64 (p.pc+8) }:bT) m v V h
 clear HR;generalize C7 ({ p with pc:=wrap64 (p.pc+8) }:bT) m v=R at HC ⊢;clear h;obtain⟨r0,r1,r2,r3,r4,r5,r6,r7,r8,r9,F,G,K⟩:=CU;have rs:=yc;have e8:=CW;have e9:=CV;have J:=CX;have fU:=dn ((((aN w.heap.size w).alloc (aK _) (.cells (({ p with pc:=wrap64 (p.pc+8) }:bT)).row 77)).alloc ξ (.cells #[I 16,I a,I b,I c,I m] 108)).alloc (by simp;omega) (.cells #[I 0,I 0,I 0,I 0,I 0,I 0,I 0,I 0,I 0,I 0,I 0,I 0,I 0] 77));have BR:=dn (bH ((w.alloc (.cells (({ p with pc:=wrap64 (p.pc+8) }:bT)).row 77)).alloc (.cells #[I 16,I a,I b,I c,I m] 108)) #[I 0,I 0,I 0,I 0,I 0,I 0,I 0,I 0,I 0,I 0,I 0,I 0,I 0] 77);rw[fY,fY] at BR;go_enter func219,ntmps219;go_wp2_with fail;refine(HC.o _).mono ?_;rintro e w1 ⟨rfl,q⟩;have cD:=dn (fU.o.trans (q.mono fU.o.size));have Iz:=dn (aU BR.o q (aQ BR.o));clear q fU BR HC;have u0:∀j,w1.frozen? (Ad (w.heap.size+1+1) j)=false:=λj=>bG Iz.o j
 have t0:w1.cell? (Ad (w.heap.size+1+1) 0)=some (I 0):=aA Iz.o 0 rfl;have t1:w1.cell? (Ad (w.heap.size+1+1) 1)=some (I 0):=aA Iz.o 1 rfl;have t2:w1.cell? (Ad (w.heap.size+1+1) 2)=some (I 0):=aA Iz.o 2 rfl;have t3:w1.cell? (Ad (w.heap.size+1+1) 3)=some (I 0):=aA Iz.o 3 rfl;have t4:w1.cell? (Ad (w.heap.size+1+1) 4)=some (I 0):=aA Iz.o 4 rfl;have t5:w1.cell? (Ad (w.heap.size+1+1) 5)=some (I 0):=aA Iz.o 5 rfl;have t6:w1.cell? (Ad (w.heap.size+1+1) 6)=some (I 0):=aA Iz.o 6 rfl;have t7:w1.cell? (Ad (w.heap.size+1+1) 7)=some (I 0):=aA Iz.o 7 rfl;have t8:w1.cell? (Ad (w.heap.size+1+1) 8)=some (I 0):=aA Iz.o 8 rfl;have t9:w1.cell? (Ad (w.heap.size+1+1) 9)=some (I 0):=aA Iz.o 9 rfl;have B:w1.cell? (Ad (w.heap.size+1+1) 10)=some (I 0):=aA Iz.o 10 rfl;have y:w1.cell? (Ad (w.heap.size+1+1) 11)=some (I 0):=aA Iz.o 11 rfl;have A:w1.cell? (Ad (w.heap.size+1+1) 12)=some (I 0):=aA Iz.o 12 rfl;unfold bT.row;go_wp2;refine b9 (v:=.agg (R).row) (by simp[results,results219,go_sem,t0,t1,t2,t3,t4,t5,t6,t7,t8,t9,B,y,A];rfl) rfl ?_;exact⟨rfl,((((((((((((cD.o.setCell (by simp;omega) _).setCell (by simp;omega) _).setCell (by simp;omega) _).setCell (by simp;omega) _).setCell (by simp;omega) _).setCell (by simp;omega) _).setCell (by simp;omega) _).setCell (by simp;omega) _).setCell (by simp;omega) _).setCell (by simp;omega) _).setCell (by simp;omega) _).setCell (by simp;omega) _).setCell (by simp;omega) _⟩
theorem ahe (p:bT) (a b c m v:Int) (w:World) (h:1<=m/\m<=6):Calls prog 60 #[.agg p.row,.agg #[I 16,I a,I b,I c,I m],I v] w λe w'=>e=.returned (.agg (eN p ⟨16,a,b,c,m⟩ v).row)/\Below w.heap.size w w':=by
 obtain⟨Y,hY⟩:=ex (Value.agg (eN p ⟨16,a,b,c,m⟩ v).row);have HY:=dn hY;rw[<- hY];clear hY;obtain⟨r0,r1,r2,r3,r4,r5,r6,r7,r8,r9,y,A,B⟩:=CU;have rs:=yc;have e8:=CW;have e9:=CV;have F:=CX;have s0:∀(q:bT) (v:Int),q.row.setIfInBounds 0 (I v)=(q.set 0 v).row:=λq v=>MG q 0 v ω
 obtain rfl | rfl | rfl | rfl | rfl | rfl:m=1\/m=2\/m=3\/m=4\/m=5\/m=6:=by omega
 all_goals
  go_enter func60,ntmps60;go_wp2;refine b9 (v:=Y) (by rw[HY.o];simp[results,results60,go_sem];rfl) rfl ?_;exact⟨rfl,(by first | exact(((aN _ _).alloc (aK _) _).alloc ξ _).alloc (by simp;omega) _ | exact((((aN _ _).alloc (aK _) _).alloc ξ _).alloc (by simp;omega) _).drew)⟩
theorem ad8 (F:FuncId) (hF:F=219\/F=60) (p:bT) (i:eu) (v:Int) (w:World) (hf:i.fits) (hb:i.bad=false):Calls prog F #[.agg p.row,.agg i.cells,I v] w λe w'=>e=.returned (.agg (eN p i v).row)/\Below w.heap.size w w':=by
 obtain⟨op,a,b,c,m⟩:=i;obtain⟨-,ha,B,hc,-⟩:=hf;rcases(show(op<1\/16<op)\/op=1\/(op=2\/op=3\/op=4\/op=5\/op=6\/op=7)\/op=8\/(op=9\/op=10)\/op=11\/op=12\/(op=13\/op=14)\/op=15\/op=16 by omega) with h | rfl | h | rfl | h | rfl | rfl | h | rfl | rfl
 . rw[Rt _ h] at hb;cases hb
 . obtain⟨na,rfl,CS⟩:=rq ha (D8 hb);exact MF (nb:=0) (.inl ⟨rfl,rfl,rfl⟩) c w _ hF CS Δ
 . have q:¬(8<=a\/8<=b\/8<=c):=by rcases h with rfl | rfl | rfl | rfl | rfl | rfl <;> exact D8 hb
   obtain⟨na,rfl,CS⟩:=rq ha (λh=>q (.inl h));obtain⟨nb,rfl,y⟩:=rq B (λh=>q (.inr (.inl h)));obtain⟨nc,rfl,G⟩:=rq hc (λh=>q (.inr (.inr h)));rcases hF with rfl | rfl
   . exact ams op _ _ _ p na nb nc m v w h (.inl ⟨rfl,rfl,rfl⟩) CS y G
   exact ams op _ _ _ p na nb nc m v w h (.inr ⟨rfl,rfl,rfl⟩) CS y G
 . have q:¬(8<=a\/8<=b):=D8 hb;obtain⟨na,rfl,CS⟩:=rq ha (λh=>q (.inl h));obtain⟨nb,rfl,y⟩:=rq B (λh=>q (.inr h));exact MF (.inr (.inr (.inr (.inr (.inr (.inr ⟨rfl,⟨rfl,rfl⟩,rfl⟩)))))) c w _ hF CS y
 . have A:(decide (8<=a\/8<=b) || !(uv c))=false:=by rcases h with rfl | rfl <;> exact hb
   have q:¬(8<=a\/8<=b):=D8 (Ua.1 A).1;obtain⟨na,rfl,CS⟩:=rq ha (λh=>q (.inl h));obtain⟨nb,rfl,y⟩:=rq B (λh=>q (.inr h));rcases h with rfl | rfl
   . exact MF (.inr (.inl ⟨rfl,rfl,rfl⟩)) c w _ hF CS y
   exact MF (.inr (.inr (.inr (.inr (.inl ⟨rfl,rfl,rfl⟩))))) c w _ hF CS y
 . obtain⟨na,rfl,CS⟩:=rq ha (D8 hb);exact MF (nb:=0) (.inr (.inr (.inl ⟨rfl,rfl,rfl⟩))) c w _ hF CS Δ
 . exact MF (na:=0) (nb:=0) (.inr (.inr (.inr (.inr (.inr (.inl ⟨rfl,rfl,rfl⟩)))))) c w _ hF Δ Δ
 . have q:¬(8<=a\/8<=b):=by rcases h with rfl | rfl <;> exact D8 hb
   obtain⟨na,rfl,CS⟩:=rq ha (λh=>q (.inl h));obtain⟨nb,rfl,y⟩:=rq B (λh=>q (.inr h));rcases hF with rfl | rfl
   . exact ajs op _ _ p na nb c m v w CS y h (.inl ⟨rfl,rfl⟩)
   exact ajs op _ _ p na nb c m v w CS y h (.inr ⟨rfl,rfl⟩)
 . obtain⟨na,rfl,CS⟩:=rq ha (D8 hb);exact MF (nb:=0) (.inr (.inr (.inr (.inl ⟨rfl,rfl,rfl⟩)))) c w _ hF CS Δ
 have A:(!(decide (1<=m/\m<=6)))=false:=hb;rcases hF with rfl | rfl
 . exact ad9 p a b c m v w (by simpa using A)
 exact ahe p a b c m v w (by simpa using A)
abbrev XV:=ad8 _ (.inl rfl)
theorem IV {N g:Nat} {w W:World} (h:Below N w W) (hg:N<=g) (v0 v1 v2 v3 v4 v5 v6 v7 v8 v9 v10 v11 v12:Value):Below N w (((((((((((((W.setCell (Ad g 0) v0).setCell (Ad g 1) v1).setCell (Ad g 2) v2).setCell (Ad g 3) v3).setCell (Ad g 4) v4).setCell (Ad g 5) v5).setCell (Ad g 6) v6).setCell (Ad g 7) v7).setCell (Ad g 8) v8).setCell (Ad g 9) v9).setCell (Ad g 10) v10).setCell (Ad g 11) v11).setCell (Ad g 12) v12) :=
 (((((((((((((h.setCell (p:=(Ad g 0)) hg v0).setCell (p:=(Ad g 1)) hg v1).setCell (p:=(Ad g 2)) hg v2).setCell (p:=(Ad g 3)) hg v3).setCell (p:=(Ad g 4)) hg v4).setCell (p:=(Ad g 5)) hg v5).setCell (p:=(Ad g 6)) hg v6).setCell (p:=(Ad g 7)) hg v7).setCell (p:=(Ad g 8)) hg v8).setCell (p:=(Ad g 9)) hg v9).setCell (p:=(Ad g 10)) hg v10).setCell (p:=(Ad g 11)) hg v11).setCell (p:=(Ad g 12)) hg v12)
theorem abc {w:World} {b:Nat} {a0 a1 a2 a3 a4 a5 a6 a7 a8 a9 a10 a11 a12:Value} {t:TypeId} (h:w.heap[b]?=some (.cells #[a0,a1,a2,a3,a4,a5,a6,a7,a8,a9,a10,a11,a12] t (0,0))):w.cell? (Ad b 0)=some a0/\w.cell? (Ad b 1)=some a1/\w.cell? (Ad b 2)=some a2/\w.cell? (Ad b 3)=some a3/\w.cell? (Ad b 4)=some a4/\w.cell? (Ad b 5)=some a5/\w.cell? (Ad b 6)=some a6/\w.cell? (Ad b 7)=some a7/\w.cell? (Ad b 8)=some a8/\w.cell? (Ad b 9)=some a9/\w.cell? (Ad b 10)=some a10/\w.cell? (Ad b 11)=some a11/\w.cell? (Ad b 12)=some a12:=⟨aA h 0 rfl,aA h 1 rfl,aA h 2 rfl,aA h 3 rfl,aA h 4 rfl,aA h 5 rfl,aA h 6 rfl,aA h 7 rfl,aA h 8 rfl,aA h 9 rfl,aA h 10 rfl,aA h 11 rfl,aA h 12 rfl⟩
theorem aq6 (w:World) (c:Array Value) (t:TypeId) (c':Array Value) (t':TypeId):Hid (Below w.heap.size w ((w.alloc (.cells c t)).alloc (.cells c' t')))/\Hid (((w.alloc (.cells c t)).alloc (.cells c' t')).heap[w.heap.size]?=some (.cells c t (0,0)))/\Hid (((w.alloc (.cells c t)).alloc (.cells c' t')).heap[w.heap.size+1]?=some (.cells c' t' (0,0))):=by
 refine⟨((aN _ _).alloc (aK _) _).alloc ξ _,bu (bH w c t) _,?_⟩;have:=bH (w.alloc (.cells c t)) c' t';rw[fY] at this;exact this
theorem akn (p:bT) (s:ByteArray) (v:Int) (w:World) (h:s.size=8) (X:Array Value) (C:Int) (hX:((iC s).bad=true/\X=#[I 0,I 0,I 0,I 0,I 0,I 0,I 0,I 0,I 0,I 0,I 0,I 0,I 0]/\C=10)\/((iC s).bad=false/\X=(eN p (iC s) v).row/\C=0)):Calls prog 197 #[p.val,.string s,I v] w λe w'=>e=.returned (.tuple #[.agg X,I C])/\Below w.heap.size w w':=by
 have HD:=dn (λV=>Lr s V h);have q:=Ec s h;generalize iC s=i at HD q hX;have HK:=dn (λV=>N6 i V q);have HN:i.bad=false->Hid (∀V,_):=λb=>dn (λV=>XV p i v V q b)
 generalize hR:eN p i v=R at HN hX;obtain⟨fU,BP,BR⟩:=aq6 w p.row 77 #[I 0,I 0,I 0,I 0,I 0,I 0,I 0,I 0,I 0,I 0,I 0,I 0,I 0] 77;unfold bT.val;obtain⟨op,a,b,c,m⟩:=i;unfold eu.cells at HD HK HN;simp only at HD HK HN;rcases hX with⟨bad,rfl,rfl⟩ | ⟨bad,rfl,rfl⟩
 all_goals
  rw[bad] at HK
  first | have HN:=HN bad | clear HN
  clear q bad hR h;go_enter func197,ntmps197;go_wp2_with fail;refine(HD.o _).mono ?_;rintro e w1 ⟨rfl,A⟩;have cD:=dn (fU.o.trans (A.mono fU.o.size));have J:=dn (aU BP.o A (aQ BP.o));have Iz:=dn (aU BR.o A (aQ BR.o));have K:=dn ((aN w1.heap.size w1).alloc (aK _) (.cells #[I op,I a,I b,I c,I m] 108));have L:=dn (bH w1 #[I op,I a,I b,I c,I m] 108);clear A;go_wp2_with fail;refine(HK.o _).mono ?_;rintro e w2 ⟨rfl,y⟩;have iJ:=dn (cD.o.trans ((K.o.trans (y.mono K.o.size)).mono cD.o.size));have F:=aU (bu J.o _) y (aQ (bu J.o _));have TE:=dn (aU (bu Iz.o _) y (aQ (bu Iz.o _)));have O:=aU L.o y (aQ L.o);have W:=iJ.o.size;clear y K Iz J fU BP BR HD HK cD L;obtain⟨i0,i1,i2,i3,i4⟩:=o5 O;unfold bT.row at F;obtain⟨p0,p1,p2,p3,p4,p5,p6,p7,p8,p9,U,Q,T⟩:=abc F;clear F O
 . obtain⟨t0,t1,t2,t3,t4,t5,t6,t7,t8,t9,M,B,N⟩:=abc TE.o;have u0:=bG TE.o;go_wp2;refine b9 (v:=.tuple #[.agg #[I 0,I 0,I 0,I 0,I 0,I 0,I 0,I 0,I 0,I 0,I 0,I 0,I 0],I 10]) (by simp[results,results197,go_sem,t0,t1,t2,t3,t4,t5,t6,t7,t8,t9,M,B,N]) rfl ?_;exact⟨rfl,IV iJ.o (qI _) _ _ _ _ _ _ _ _ _ _ _ _ _⟩
 unfold bT.row at HN;go_wp2_with fail;refine(HN.o _).mono ?_;rintro e w3 ⟨rfl,G⟩;have ou:=dn (iJ.o.trans (G.mono iJ.o.size));have UC:=aU TE.o G (aQ TE.o);obtain⟨t0,t1,t2,t3,t4,t5,t6,t7,t8,t9,M,B,N⟩:=abc UC;have u0:=bG UC;clear G HN UC;go_wp2;refine b9 (v:=.tuple #[.agg R.row,I 0]) (by simp[results,results197,go_sem,t0,t1,t2,t3,t4,t5,t6,t7,t8,t9,M,B,N];rfl) rfl ?_;exact⟨rfl,IV ou.o (qI _) _ _ _ _ _ _ _ _ _ _ _ _ _⟩
theorem ad7 (p:bT) (s:ByteArray) (v:Int) (w:World) (h:s.size=8) (bad:(iC s).bad=false):Calls prog 197 #[p.val,.string s,I v] w λe w'=>e=.returned (.tuple #[.agg (eN p (iC s) v).row,I 0])/\Below w.heap.size w w':=akn p s v w h _ _ (.inr ⟨bad,rfl,rfl⟩)
variable {MT:y7} {σ:Type} {Hd:World->(Nat->Prop)->σ->Prop} {Ok:σ->List Bool->Prop} {o:lK σ} {lo mb gb:Nat} {D:Nat->Prop} {vr vo:Value} {st:dB σ}
theorem ahV (C:ja MT lo mb Hd Ok o) (k:Nat) (w:World) (h:fR MT Hd lo mb gb w D vr vo st) (hok:ez Ok st) (hk:k<st.ps.length) (h1:(aO st.ps k).st=1) (R:(Int×(Int×Int))×dB σ) (hR:R=((0,(0,0)),st)) :
  Calls prog 150 #[.pointer (some (Ad gb 0)),I (k:Int),.agg #[I 0,I 0,I 0,I 0,I 0]] w λe w'=>e=.returned (.tuple #[I R.1.1,.agg (eI R.1.2)])/\cV MT Hd lo mb gb w D vr vo R.2 w':=by
 have HG:=ai h;have HC:=ai C;have Qk:=ai hok;have y:=ai (lY k hk h1);have Nc:=ai hk;have A:=ai h1;have HR:=ai hR;have Lm:st.ps.length<=4:=by have:=C.ok.few _ _ hok.mem;unfold bY at this;rw[fI] at this;exact this
 have b:=ai (hok.fit k hk);have q:=aQ h.head;have g0:w.cell? (Ad gb 0)=some (.iface MT.T (.pointer (some (Ad mb 0)))):=aA h.head 0 rfl;have g1:w.cell? (Ad gb 1)=some vr:=aA h.head 1 rfl;have jc:=ai (((aN w.heap.size w).alloc (aK _) (.cells #[I 0,I 0,I 0,I 0,I 0] 110)).alloc ξ (.cells #[I 0,I 0] 75));have BX:=ai (bu (bH w #[I 0,I 0,I 0,I 0,I 0] 110) (.cells #[I 0,I 0] 75));have BY:Hid (((w.alloc (.cells #[I 0,I 0,I 0,I 0,I 0] 110)).alloc (.cells #[I 0,I 0] 75)).heap[w.heap.size+1]?=some (.cells #[I 0,I 0] 75 (0,0))):=by
  have:=bH (w.alloc (.cells #[I 0,I 0,I 0,I 0,I 0] 110)) #[I 0,I 0] 75;rw[fY] at this;exact this
 clear hR hok;clear h C hk h1;go_enter func150,ntmps150;go_wp2;refine b9 (v:=.tuple #[I 0,.agg #[I 0,I 0]]) (by simp[results,results150,go_sem]) rfl ?_;rw[HR.o];exact⟨rfl,cV.after jc.o (cV.refl (HG.o.below HC.o jc.o))⟩
theorem ahR (C:ja MT lo mb Hd Ok o) (k:Nat) (w:World) (h:fR MT Hd lo mb gb w D vr vo st) (hok:ez Ok st) (hk:k<st.ps.length) (h1:(aO st.ps k).st=1) (R:(Int×(Int×Int))×dB σ) (hR:R=((0,(4,(aO st.ps k).pc)),st)) :
  Calls prog 150 #[.pointer (some (Ad gb 0)),I (k:Int),.agg #[I 4,I 0,I 0,I 0,I 0]] w λe w'=>e=.returned (.tuple #[I R.1.1,.agg (eI R.1.2)])/\cV MT Hd lo mb gb w D vr vo R.2 w':=by
 have HG:=ai h;have HC:=ai C;have Qk:=ai hok;have K:=ai (lY k hk h1);have Nc:=ai hk;have L:=ai h1;have HR:=ai hR;have Lm:st.ps.length<=4:=by have:=C.ok.few _ _ hok.mem;unfold bY at this;rw[fI] at this;exact this
 have J:=ai (hok.fit k hk);have B:=aQ h.head;have g0:w.cell? (Ad gb 0)=some (.iface MT.T (.pointer (some (Ad mb 0)))):=aA h.head 0 rfl;have g1:w.cell? (Ad gb 1)=some vr:=aA h.head 1 rfl;have jc:=ai (((aN w.heap.size w).alloc (aK _) (.cells #[I 4,I 0,I 0,I 0,I 0] 110)).alloc ξ (.cells #[I 0,I 0] 75));have BX:=ai (bu (bH w #[I 4,I 0,I 0,I 0,I 0] 110) (.cells #[I 0,I 0] 75));have BY:Hid (((w.alloc (.cells #[I 4,I 0,I 0,I 0,I 0] 110)).alloc (.cells #[I 0,I 0] 75)).heap[w.heap.size+1]?=some (.cells #[I 0,I 0] 75 (0,0))):=by
  have:=bH (w.alloc (.cells #[I 4,I 0,I 0,I 0,I 0] 110)) #[I 0,I 0] 75;rw[fY] at this;exact this
 clear hR hok;obtain⟨pb,cap,S0,A,q,y⟩:=h.proc k hk;obtain⟨pc,b⟩:=ex ((aO st.ps k).pc);rw[<- b] at HR;have c8:w.cell? (Ad pb (k*13+8))=some (I pc):=by rw[b];exact q 8 ω
 generalize st.ps.length=n at S0 hk Lm;subst S0;have C2:(k:Int)<(n:Int):=by omega
 have F:¬pb=w.heap.size:=by omega
 have G:¬gb=w.heap.size:=by omega
 clear h C h1 q y b;go_enter func150,ntmps150;go_wp2;go_region;go_wp2;refine b9 (v:=.tuple #[I 0,.agg #[I 4,I pc]]) (by simp[results,results150,go_sem]) rfl ?_;rw[HR.o];have hb:Below w.heap.size w ((w.alloc (.cells #[I 4,I 0,I 0,I 0,I 0] 110)).alloc (.cells #[I 4,I pc] 75)).drew:=(((aN w.heap.size w).alloc (aK _) _).alloc ξ _).drew;exact⟨rfl,cV.after hb (cV.refl (HG.o.below HC.o hb))⟩
theorem ahS (C:ja MT lo mb Hd Ok o) (k:Nat) (c:Int) (w:World) (h:fR MT Hd lo mb gb w D vr vo st) (hok:ez Ok st) (hk:k<st.ps.length) (h1:(aO st.ps k).st=1) (R:(Int×(Int×Int))×dB σ) (hc:1<=c/\c<=6) (hR:R=(((iH o st k c).1,(0,0)),(iH o st k c).2)) :
  Calls prog 150 #[.pointer (some (Ad gb 0)),I (k:Int),.agg #[I 3,I 0,I 0,I 0,I c]] w λe w'=>e=.returned (.tuple #[I R.1.1,.agg (eI R.1.2)])/\cV MT Hd lo mb gb w D vr vo R.2 w':=by
 have HG:=ai h;have HC:=ai C;have Qk:=ai hok;have B:=ai (lY k hk h1);have Nc:=ai hk;have F:=ai h1;have HR:=ai hR;have Lm:st.ps.length<=4:=by have:=C.ok.few _ _ hok.mem;unfold bY at this;rw[fI] at this;exact this
 have A:=ai (hok.fit k hk);have y:=aQ h.head;have g0:w.cell? (Ad gb 0)=some (.iface MT.T (.pointer (some (Ad mb 0)))):=aA h.head 0 rfl;have g1:w.cell? (Ad gb 1)=some vr:=aA h.head 1 rfl;have jc:=ai (((aN w.heap.size w).alloc (aK _) (.cells #[I 3,I 0,I 0,I 0,I c] 110)).alloc ξ (.cells #[I 0,I 0] 75));have BX:=ai (bu (bH w #[I 3,I 0,I 0,I 0,I c] 110) (.cells #[I 0,I 0] 75));have BY:Hid (((w.alloc (.cells #[I 3,I 0,I 0,I 0,I c] 110)).alloc (.cells #[I 0,I 0] 75)).heap[w.heap.size+1]?=some (.cells #[I 0,I 0] 75 (0,0))):=by
  have:=bH (w.alloc (.cells #[I 3,I 0,I 0,I 0,I c] 110)) #[I 0,I 0] 75;rw[fY] at this;exact this
 clear hR hok;have WI:=ai (λV (hV:Below w.heap.size w V)=>ae4 C k c V (h.below C hV) Qk.o hk h1 hc);generalize iH o st k c=X at WI HR;clear h C h1;go_enter func150,ntmps150;go_wp2_with (go_at_call 196;refine(WI.o _ jc.o).mono ?_;rintro e w1 ⟨rfl,ZK⟩;have q:=ai (iq.behind HC.o HG.o jc.o ZK);obtain⟨_,_,_,_,b,_⟩:=ZK;have Ql:=ai (HG.o.aside HC.o b ω BY.o);have y0:=aA (v:=I 0) Ql.o 0 rfl;have y1:=aA (v:=I 0) Ql.o 1 rfl;have z0:=bG Ql.o 0;have z1:=bG Ql.o 1;clear b);refine b9 (v:=.tuple #[I X.1,.agg #[I 0,I 0]]) (by simp[results,results150,go_sem,y0,y1]) rfl ?_;rw[HR.o];have hy:w.heap.size<=w.heap.size+1/\w.heap.size+1<((w.alloc (.cells #[I 3,I 0,I 0,I 0,I c] 110)).alloc (.cells #[I 0,I 0] 75)).heap.size:=⟨ω,aQ BY.o⟩;exact⟨rfl,((q.o.set HC.o (Ad (w.heap.size+1) 0) _ hy hy.1).set HC.o (Ad (w.heap.size+1) 1) _ hy hy.1).left⟩
end Go.Proofs.YtlgoihmkgaaemaaGreat
