import Derived.Test.YtlgoihmkgaaemaaGreatGP28
import Derived.StillTailTactics
set_option maxHeartbeats 20000000
set_option linter.unusedVariables false
set_option maxRecDepth 100000
set_option linter.unusedSimpArgs false
namespace Go.Proofs.YtlgoihmkgaaemaaGreat
open Go.RowKit Tryz
def FQ (i:eJ):Int:=if i.bad then 4 else if i.op=9 then 1 else if i.op=10 then 2 else if i.op=16 then 3 else 0
theorem Tv (i:eJ) (w:World) (hi:i.fits):Calls prog 194 #[.agg i.cells] w λe w'=>e=.returned (I (FQ i))/\Below w.heap.size w w':=by
 have HB:=bJ (λV=>KI i V hi);have HK:Hid (FQ i=if i.bad then 4 else if i.op=9 then 1 else if i.op=10 then 2 else if i.op=16 then 3 else 0):=rfl;obtain⟨op,a,b,c,m⟩:=i;unfold eJ.cells at HB ⊢;simp only at HB HK ⊢;obtain⟨D,hD⟩:=ex (eJ.bad ⟨op,a,b,c,m⟩);generalize FQ ⟨op,a,b,c,m⟩=K at HK ⊢;rw[<- hD] at HK HB;clear hD hi;have eB:=bJ ((aN w.heap.size w).alloc (aJ _) (.cells #[I op,I a,I b,I c,I m] 108));have BX:=bJ (bG w #[I op,I a,I b,I c,I m] 108);cases D
 . simp only[Bool.false_eq_true,Bw] at HK;by_cases h1:op=9
   . subst h1;obtain rfl:K=1:=by rw[HK.o];rfl
     go_enter func194,ntmps194;go_wp2_with fail;refine(HB.o _).mono ?_;rintro e w1 ⟨rfl,h⟩;have dz:=bJ (eB.o.trans (h.mono eB.o.size));have c0:=aA (aO BX.o h (aM BX.o)) 0 rfl;clear h;go_wp2;go_ret;exact⟨rfl,dz.o⟩
   by_cases h2:op=10
   . subst h2;obtain rfl:K=2:=by rw[HK.o];rfl
     go_enter func194,ntmps194;go_wp2_with fail;refine(HB.o _).mono ?_;rintro e w1 ⟨rfl,h⟩;have dz:=bJ (eB.o.trans (h.mono eB.o.size));have c0:=aA (aO BX.o h (aM BX.o)) 0 rfl;clear h;go_wp2;go_ret;exact⟨rfl,dz.o⟩
   by_cases h3:op=16
   . subst h3;obtain rfl:K=3:=by rw[HK.o];rfl
     go_enter func194,ntmps194;go_wp2_with fail;refine(HB.o _).mono ?_;rintro e w1 ⟨rfl,h⟩;have dz:=bJ (eB.o.trans (h.mono eB.o.size));have c0:=aA (aO BX.o h (aM BX.o)) 0 rfl;clear h;go_wp2;go_ret;exact⟨rfl,dz.o⟩
   obtain rfl:K=0:=by rw[HK.o,aH h1,aH h2,aH h3]
   go_enter func194,ntmps194;go_wp2_with fail;refine(HB.o _).mono ?_;rintro e w1 ⟨rfl,h⟩;have dz:=bJ (eB.o.trans (h.mono eB.o.size));have c0:=aA (aO BX.o h (aM BX.o)) 0 rfl;clear h;go_wp2;go_ret;exact⟨rfl,dz.o⟩
 simp only[Bv] at HK;obtain rfl:K=4:=HK.o;go_enter func194,ntmps194;go_wp2_with fail;refine(HB.o _).mono ?_;rintro e w1 ⟨rfl,h⟩;have dz:=bJ (eB.o.trans (h.mono eB.o.size));clear h;go_wp2;go_ret;exact⟨rfl,dz.o⟩
theorem pY {x:Int} (h:rH x) (h8:¬8<=x):∃n:Nat,x=(n:Int)/\n<8:=by
 obtain⟨h0,-⟩:=h;exact⟨x.toNat,ω,ω⟩
theorem mg {N g:Nat} {w W:World} (h:Below N w W) (hg:N<=g) (v0 v1 v2 v3 v4:Value):Below N w (((((W.setCell (Ad g 0) v0).setCell (Ad g 1) v1).setCell (Ad g 2) v2).setCell (Ad g 3) v3).setCell (Ad g 4) v4) :=
 ((((h.setCell (p:=(Ad g 0)) hg v0).setCell (p:=(Ad g 1)) hg v1).setCell (p:=(Ad g 2)) hg v2).setCell (p:=(Ad g 3)) hg v3).setCell (p:=(Ad g 4)) hg v4
variable (op:Int) (p:bQ) (a b c m:Int) (na:Nat) (v:Int) (w:World) (F:FuncId) (nb:Nat)
theorem acF (hi:eJ.fits ⟨op,a,b,c,m⟩) (h:op=9\/op=10) (hd:eJ.bad ⟨op,a,b,c,m⟩=false):∃na nb:Nat,a=(na:Int)/\b=(nb:Int)/\na<8/\nb<8:=by
 obtain⟨-,ha,hb,-⟩:=hi;have e:(decide (8<=a\/8<=b) || !(pR c))=false:=by
  rcases h with h | h <;> subst h <;> exact hd
 simp only[Hj,Qq] at e;obtain⟨na,h1,h2⟩:=pY ha (λh=>e.1 (.inl h));obtain⟨nb,h3,h4⟩:=pY hb (λh=>e.1 (.inr h));exact⟨na,nb,h1,h3,h2,h4⟩
theorem acN (s:ByteArray) (w:World) (h:s.size=8):Calls prog 149 #[p.val,.string s] w λe w'=>e=.returned (.tuple #[.agg (pZ p (iq s)),I 0])/\Below w.heap.size w w':=by
 have HD:=bJ (λV=>Io s V h);have G:=BV s h;generalize iq s=i at HD G ⊢;have HK:=bJ (λV=>Tv i V G);clear h;obtain⟨op,a,b,c,m⟩:=i;have Ml:Hid (pZ p ⟨op,a,b,c,m⟩=if eJ.bad ⟨op,a,b,c,m⟩ then #[I 4,I 0,I 0,I 0,I 0] else if op=9 then #[I 1,I (wrap64 (p.r b.toNat+m)),I c,I 0,I 0] else if op=10 then #[I 2,I (wrap64 (p.r b.toNat+m)),I c,I (p.r a.toNat),I 0] else if op=16 then #[I 3,I 0,I 0,I 0,I m] else #[I 0,I 0,I 0,I 0,I 0]):=rfl;have F:=bJ (acF op a b c m G);have A:Hid (FQ ⟨op,a,b,c,m⟩=if eJ.bad ⟨op,a,b,c,m⟩ then 4 else if op=9 then 1 else if op=10 then 2 else if op=16 then 3 else 0):=rfl;obtain⟨D,hD⟩:=ex (eJ.bad ⟨op,a,b,c,m⟩);generalize pZ p ⟨op,a,b,c,m⟩=Q at Ml ⊢;generalize FQ ⟨op,a,b,c,m⟩=K at A HK;rw[<- hD] at A Ml F;clear hD G;unfold eJ.cells at HD HK;simp only at HD HK;have eB:=bJ (((aN w.heap.size w).alloc (aJ _) (.cells p.row 77)).alloc ξ (.cells #[I 0,I 0,I 0,I 0,I 0] 110));have BP:=bJ (bB (bG w p.row 77) (.cells #[I 0,I 0,I 0,I 0,I 0] 110));have BR:=bJ (bG (w.alloc (.cells p.row 77)) #[I 0,I 0,I 0,I 0,I 0] 110);rw[fp] at BR;unfold bQ.val;cases D
 . simp only[Bool.false_eq_true,Bw] at A Ml;by_cases h1:op=9
   . obtain⟨na,nb,rfl,rfl,tR,M⟩:=F.o (.inl h1) rfl;subst h1;obtain rfl:K=1:=A.o;obtain rfl:=Ml.o;clear F A Ml;rw[kq];go_enter func149,ntmps149;go_wp2_with fail;refine(HD.o _).mono ?_;rintro e w1 ⟨rfl,y⟩;have dz:=bJ (eB.o.trans (y.mono eB.o.size));have ZJ:=bJ (aO BP.o y (aM BP.o));have Di:=bJ (aO BR.o y (aM BR.o));have Sy:=bJ ((aN w1.heap.size w1).alloc (aJ _) (.cells #[I 9,I na,I nb,I c,I m] 108));have SP:=bJ (bG w1 #[I 9,I na,I nb,I c,I m] 108);clear y;go_wp2_with fail;refine(HK.o _).mono ?_;rintro e w2 ⟨rfl,q⟩;have iI:=bJ (dz.o.trans ((Sy.o.trans (q.mono Sy.o.size)).mono dz.o.size));have B:=bJ (aO (bB ZJ.o _) q (aM (bB ZJ.o _)));have Jj:=bJ (aO (bB Di.o _) q (aM (bB Di.o _)));have V5:=bJ (aO SP.o q (aM SP.o));have L:=iI.o.size;have l0:=aM B.o;have l1:=aM Jj.o;have l2:=aM V5.o;have J:¬w1.heap.size=w.heap.size+1:=λh=>by have:=aM Di.o;omega
     clear q Sy SP;obtain⟨t0,t1,t2,t3,t4⟩:=kj Jj.o;have u0:∀j,w2.frozen? (Ad (w.heap.size+1) j)=false:=λj=>br Jj.o j
     have cb:w2.cell? (Ad w.heap.size nb)=some (I (p.r nb)):=aA B.o nb (Au p nb M);have i2:w2.cell? (Ad w1.heap.size 2)=some (I nb):=aA V5.o 2 rfl;have i3:w2.cell? (Ad w1.heap.size 3)=some (I c):=aA V5.o 3 rfl;have i4:w2.cell? (Ad w1.heap.size 4)=some (I m):=aA V5.o 4 rfl;go_wp2_with fail;go_region;go_wp2;refine bW (v:=.tuple #[.agg #[I 1,I (wrap64 (p.r nb+m)),I c,I 0,I 0],I 0]) (by simp[results,results149,go_sem,t0,t1,t2,t3,t4,l1]) rfl ?_;exact⟨rfl,(by first | exact(mg iI.o (iO _) _ _ _ _ _).alloc (by simp;omega) _ | exact((mg iI.o (iO _) _ _ _ _ _).alloc (by simp;omega) _).drew)⟩
   by_cases h2:op=10
   . obtain⟨na,nb,rfl,rfl,tR,M⟩:=F.o (.inr h2) rfl;subst h2;obtain rfl:K=2:=A.o;obtain rfl:=Ml.o;clear F A Ml h1;rw[aH Δ,aQ rfl,kq,kq];go_enter func149,ntmps149;go_wp2_with fail;refine(HD.o _).mono ?_;rintro e w1 ⟨rfl,y⟩;have dz:=bJ (eB.o.trans (y.mono eB.o.size));have ZJ:=bJ (aO BP.o y (aM BP.o));have Di:=bJ (aO BR.o y (aM BR.o));have Sy:=bJ ((aN w1.heap.size w1).alloc (aJ _) (.cells #[I 10,I na,I nb,I c,I m] 108));have SP:=bJ (bG w1 #[I 10,I na,I nb,I c,I m] 108);clear y;go_wp2_with fail;refine(HK.o _).mono ?_;rintro e w2 ⟨rfl,q⟩;have iI:=bJ (dz.o.trans ((Sy.o.trans (q.mono Sy.o.size)).mono dz.o.size));have B:=bJ (aO (bB ZJ.o _) q (aM (bB ZJ.o _)));have Jj:=bJ (aO (bB Di.o _) q (aM (bB Di.o _)));have V5:=bJ (aO SP.o q (aM SP.o));have L:=iI.o.size;have l0:=aM B.o;have l1:=aM Jj.o;have l2:=aM V5.o;have J:¬w1.heap.size=w.heap.size+1:=λh=>by have:=aM Di.o;omega
     clear q Sy SP;obtain⟨t0,t1,t2,t3,t4⟩:=kj Jj.o;have u0:∀j,w2.frozen? (Ad (w.heap.size+1) j)=false:=λj=>br Jj.o j
     have ca:w2.cell? (Ad w.heap.size na)=some (I (p.r na)):=aA B.o na (Au p na tR);have i1:w2.cell? (Ad w1.heap.size 1)=some (I na):=aA V5.o 1 rfl;have cb:w2.cell? (Ad w.heap.size nb)=some (I (p.r nb)):=aA B.o nb (Au p nb M);have i2:w2.cell? (Ad w1.heap.size 2)=some (I nb):=aA V5.o 2 rfl;have i3:w2.cell? (Ad w1.heap.size 3)=some (I c):=aA V5.o 3 rfl;have i4:w2.cell? (Ad w1.heap.size 4)=some (I m):=aA V5.o 4 rfl;go_wp2_with fail;go_region;go_wp2;refine bW (v:=.tuple #[.agg #[I 2,I (wrap64 (p.r nb+m)),I c,I (p.r na),I 0],I 0]) (by simp[results,results149,go_sem,t0,t1,t2,t3,t4,l1]) rfl ?_;exact⟨rfl,(by first | exact(mg iI.o (iO _) _ _ _ _ _).alloc (by simp;omega) _ | exact((mg iI.o (iO _) _ _ _ _ _).alloc (by simp;omega) _).drew)⟩
   by_cases h3:op=16
   . subst h3;obtain rfl:K=3:=A.o;obtain rfl:=Ml.o;clear F A Ml h1 h2;rw[aH Δ,aH Δ,aQ rfl];go_enter func149,ntmps149;go_wp2_with fail;refine(HD.o _).mono ?_;rintro e w1 ⟨rfl,y⟩;have dz:=bJ (eB.o.trans (y.mono eB.o.size));have ZJ:=bJ (aO BP.o y (aM BP.o));have Di:=bJ (aO BR.o y (aM BR.o));have Sy:=bJ ((aN w1.heap.size w1).alloc (aJ _) (.cells #[I 16,I a,I b,I c,I m] 108));have SP:=bJ (bG w1 #[I 16,I a,I b,I c,I m] 108);clear y;go_wp2_with fail;refine(HK.o _).mono ?_;rintro e w2 ⟨rfl,q⟩;have iI:=bJ (dz.o.trans ((Sy.o.trans (q.mono Sy.o.size)).mono dz.o.size));have B:=bJ (aO (bB ZJ.o _) q (aM (bB ZJ.o _)));have Jj:=bJ (aO (bB Di.o _) q (aM (bB Di.o _)));have V5:=bJ (aO SP.o q (aM SP.o));have L:=iI.o.size;have l0:=aM B.o;have l1:=aM Jj.o;have l2:=aM V5.o;have J:¬w1.heap.size=w.heap.size+1:=λh=>by have:=aM Di.o;omega
     clear q Sy SP;obtain⟨t0,t1,t2,t3,t4⟩:=kj Jj.o;have u0:∀j,w2.frozen? (Ad (w.heap.size+1) j)=false:=λj=>br Jj.o j
     have i4:w2.cell? (Ad w1.heap.size 4)=some (I m):=aA V5.o 4 rfl;go_wp2;refine bW (v:=.tuple #[.agg #[I 3,I 0,I 0,I 0,I m],I 0]) (by simp[results,results149,go_sem,t0,t1,t2,t3,t4,l1]) rfl ?_;exact⟨rfl,(by first | exact(mg iI.o (iO _) _ _ _ _ _).alloc (by simp;omega) _ | exact((mg iI.o (iO _) _ _ _ _ _).alloc (by simp;omega) _).drew)⟩
   obtain rfl:K=0:=by rw[A.o,aH h1,aH h2,aH h3]
   obtain rfl:Q=#[I 0,I 0,I 0,I 0,I 0]:=by rw[Ml.o,aH h1,aH h2,aH h3]
   clear F A Ml h1 h2 h3;go_enter func149,ntmps149;go_wp2_with fail;refine(HD.o _).mono ?_;rintro e w1 ⟨rfl,y⟩;have dz:=bJ (eB.o.trans (y.mono eB.o.size));have ZJ:=bJ (aO BP.o y (aM BP.o));have Di:=bJ (aO BR.o y (aM BR.o));have Sy:=bJ ((aN w1.heap.size w1).alloc (aJ _) (.cells #[I op,I a,I b,I c,I m] 108));have SP:=bJ (bG w1 #[I op,I a,I b,I c,I m] 108);clear y;go_wp2_with fail;refine(HK.o _).mono ?_;rintro e w2 ⟨rfl,q⟩;have iI:=bJ (dz.o.trans ((Sy.o.trans (q.mono Sy.o.size)).mono dz.o.size));have B:=bJ (aO (bB ZJ.o _) q (aM (bB ZJ.o _)));have Jj:=bJ (aO (bB Di.o _) q (aM (bB Di.o _)));have V5:=bJ (aO SP.o q (aM SP.o));have L:=iI.o.size;have l0:=aM B.o;have l1:=aM Jj.o;have l2:=aM V5.o;have J:¬w1.heap.size=w.heap.size+1:=λh=>by have:=aM Di.o;omega
   clear q Sy SP;obtain⟨t0,t1,t2,t3,t4⟩:=kj Jj.o;have u0:∀j,w2.frozen? (Ad (w.heap.size+1) j)=false:=λj=>br Jj.o j
   go_wp2;refine bW (v:=.tuple #[.agg #[I 0,I 0,I 0,I 0,I 0],I 0]) (by simp[results,results149,go_sem,t0,t1,t2,t3,t4,l1]) rfl ?_;exact⟨rfl,(by first | exact(mg iI.o (iO _) _ _ _ _ _).alloc (by simp;omega) _ | exact((mg iI.o (iO _) _ _ _ _ _).alloc (by simp;omega) _).drew)⟩
 simp only[Bv] at A Ml;obtain rfl:K=4:=A.o;obtain rfl:=Ml.o;clear F A Ml;go_enter func149,ntmps149;go_wp2_with fail;refine(HD.o _).mono ?_;rintro e w1 ⟨rfl,y⟩;have dz:=bJ (eB.o.trans (y.mono eB.o.size));have ZJ:=bJ (aO BP.o y (aM BP.o));have Di:=bJ (aO BR.o y (aM BR.o));have Sy:=bJ ((aN w1.heap.size w1).alloc (aJ _) (.cells #[I op,I a,I b,I c,I m] 108));have SP:=bJ (bG w1 #[I op,I a,I b,I c,I m] 108);clear y;go_wp2_with fail;refine(HK.o _).mono ?_;rintro e w2 ⟨rfl,q⟩;have iI:=bJ (dz.o.trans ((Sy.o.trans (q.mono Sy.o.size)).mono dz.o.size));have B:=bJ (aO (bB ZJ.o _) q (aM (bB ZJ.o _)));have Jj:=bJ (aO (bB Di.o _) q (aM (bB Di.o _)));have V5:=bJ (aO SP.o q (aM SP.o));have L:=iI.o.size;have l0:=aM B.o;have l1:=aM Jj.o;have l2:=aM V5.o;have J:¬w1.heap.size=w.heap.size+1:=λh=>by have:=aM Di.o;omega
 clear q Sy SP;obtain⟨t0,t1,t2,t3,t4⟩:=kj Jj.o;have u0:∀j,w2.frozen? (Ad (w.heap.size+1) j)=false:=λj=>br Jj.o j
 go_wp2;refine bW (v:=.tuple #[.agg #[I 4,I 0,I 0,I 0,I 0],I 0]) (by simp[results,results149,go_sem,t0,t1,t2,t3,t4,l1]) rfl ?_;exact⟨rfl,(by first | exact(mg iI.o (iO _) _ _ _ _ _).alloc (by simp;omega) _ | exact((mg iI.o (iO _) _ _ _ _ _).alloc (by simp;omega) _).drew)⟩
theorem Tu (op b c:Int) (w:World) (hF:F=231\/F=108) (h:op=2\/op=3\/op=4\/op=5\/op=6\/op=7):Calls prog F #[I op,I b,I c] w λe w'=>e=.returned (I (NY op b c))/\w'=w:=by
 by_cases g:op=7
 . subst g;have h1:=WK c;have h2:=WN c;have h3:IntKind.u64.wrap (c%64)=c%64:=by rw[aj4];omega
   have HR:=bJ (show NY 7 b c=wrap64 (IntKind.u64.wrap b/2 ^ min (c%64).toNat 64) from rfl);rw[HR.o];have h4:0<=c%64:=by omega
   generalize c%64=E at h1 h2 h3 h4 ⊢;clear h;rcases hF with rfl | rfl <;> ((first | go_enter func231,ntmps231 | go_enter func108,ntmps108);go_wp2;go_ret;exact⟨rfl,rfl⟩)
 rcases h with rfl | rfl | rfl | rfl | rfl | h
 all_goals try rcases hF with rfl | rfl <;> ((first | go_enter func231,ntmps231 | go_enter func108,ntmps108);go_wp2;go_ret;exact⟨rfl,rfl⟩)
 exact absurd h g
theorem acK:Calls prog 232 #[I 13,I a,I b] w λe w'=>e=.returned (.bool (decide (a=b)))/\w=w':=by
 go_enter func232,ntmps232;go_wp2;go_ret;exact⟨by first | rfl | simp[beq_eq_decide],rfl⟩
theorem acJ:Calls prog 232 #[I 14,I a,I b] w λe w'=>e=.returned (.bool (decide (a<b)))/\w=w':=by
 go_enter func232,ntmps232;go_wp2;go_ret;exact⟨by first | rfl | simp[beq_eq_decide],rfl⟩
theorem anu (b:Int) (c:Int) (m v:Int) (w:World) (F:FuncId) (hF:F=219\/F=60) (tR:na<8):Calls prog F #[.agg p.row,.agg #[I 1,I na,I b,I c,I m],I v] w λe w'=>e=.returned (.agg (di p ⟨1,na,b,c,m⟩ v).row)/\Below w.heap.size w w':=by
 have HR:=bJ (show di p ⟨1,na,b,c,m⟩ v=({ p with pc:=wrap64 (p.pc+8) }:bQ).set na m from rfl);rw[HR.o];clear HR;obtain⟨r0,r1,r2,r3,r4,r5,r6,r7,r8,r9,A,y,h⟩:=pN;have rs:=mG;have e8:=pP;have e9:=pO;have r:=pQ;obtain⟨sa,q,ga⟩:=wu na tR;rcases hF with rfl | rfl
 all_goals
  (first | go_enter func219,ntmps219 | go_enter func60,ntmps60)
  go_wp2;refine bW (v:=.agg (({ p with pc:=wrap64 (p.pc+8) }:bQ).set na m).row) (by simp[results,results219,results60,go_sem];rfl) rfl ?_;exact⟨rfl,(by first | exact(((aN _ _).alloc (aJ _) _).alloc ξ _).alloc (by simp;omega) _ | exact((((aN _ _).alloc (aJ _) _).alloc ξ _).alloc (by simp;omega) _).drew)⟩
theorem ant (c:Int) (m v:Int) (w:World) (F:FuncId) (hF:F=219\/F=60) (tR:na<8) (hnb:nb<8):Calls prog F #[.agg p.row,.agg #[I 8,I na,I nb,I c,I m],I v] w λe w'=>e=.returned (.agg (di p ⟨8,na,nb,c,m⟩ v).row)/\Below w.heap.size w w':=by
 have HR:=bJ (show di p ⟨8,na,nb,c,m⟩ v=({ p with pc:=wrap64 (p.pc+8) }:bQ).set na (wrap64 (p.r nb+m)) from rfl);rw[HR.o];clear HR;obtain⟨r0,r1,r2,r3,r4,r5,r6,r7,r8,r9,A,y,b⟩:=pN;have rs:=mG;have e8:=pP;have e9:=pO;have q:=pQ;obtain⟨sa,h,ga⟩:=wu na tR;obtain⟨sb,B,gb⟩:=wu nb hnb;rcases hF with rfl | rfl
 all_goals
  (first | go_enter func219,ntmps219 | go_enter func60,ntmps60)
  go_wp2_with fail
  go_region;go_wp2;refine bW (v:=.agg (({ p with pc:=wrap64 (p.pc+8) }:bQ).set na (wrap64 (p.r nb+m))).row) (by simp[results,results219,results60,go_sem];rfl) rfl ?_;exact⟨rfl,(by first | exact(((aN _ _).alloc (aJ _) _).alloc ξ _).alloc (by simp;omega) _ | exact((((aN _ _).alloc (aJ _) _).alloc ξ _).alloc (by simp;omega) _).drew)⟩
theorem ans (c:Int) (m v:Int) (w:World) (F:FuncId) (hF:F=219\/F=60) (tR:na<8) (hnb:nb<8):Calls prog F #[.agg p.row,.agg #[I 9,I na,I nb,I c,I m],I v] w λe w'=>e=.returned (.agg (di p ⟨9,na,nb,c,m⟩ v).row)/\Below w.heap.size w w':=by
 have HR:=bJ (show di p ⟨9,na,nb,c,m⟩ v=({ p with pc:=wrap64 (p.pc+8) }:bQ).set na v from rfl);rw[HR.o];clear HR;obtain⟨r0,r1,r2,r3,r4,r5,r6,r7,r8,r9,y,r,b⟩:=pN;have rs:=mG;have e8:=pP;have e9:=pO;have q:=pQ;obtain⟨sa,h,ga⟩:=wu na tR;obtain⟨sb,A,gb⟩:=wu nb hnb;rcases hF with rfl | rfl
 all_goals
  (first | go_enter func219,ntmps219 | go_enter func60,ntmps60)
  go_wp2;refine bW (v:=.agg (({ p with pc:=wrap64 (p.pc+8) }:bQ).set na v).row) (by simp[results,results219,results60,go_sem];rfl) rfl ?_;exact⟨rfl,(by first | exact(((aN _ _).alloc (aJ _) _).alloc ξ _).alloc (by simp;omega) _ | exact((((aN _ _).alloc (aJ _) _).alloc ξ _).alloc (by simp;omega) _).drew)⟩
theorem akz (c:Int) (m v:Int) (w:World) (F:FuncId) (hF:F=219\/F=60) (tR:na<8) (hnb:nb<8):Calls prog F #[.agg p.row,.agg #[I 10,I na,I nb,I c,I m],I v] w λe w'=>e=.returned (.agg (di p ⟨10,na,nb,c,m⟩ v).row)/\Below w.heap.size w w':=by
 have HR:=bJ (show di p ⟨10,na,nb,c,m⟩ v=({ p with pc:=wrap64 (p.pc+8) }:bQ) from rfl);rw[HR.o];clear HR;obtain⟨r0,r1,r2,r3,r4,r5,r6,r7,r8,r9,y,r,b⟩:=pN;have rs:=mG;have e8:=pP;have e9:=pO;have q:=pQ;obtain⟨sa,h,ga⟩:=wu na tR;obtain⟨sb,A,gb⟩:=wu nb hnb;rcases hF with rfl | rfl
 all_goals
  (first | go_enter func219,ntmps219 | go_enter func60,ntmps60)
  go_wp2;refine bW (v:=.agg (({ p with pc:=wrap64 (p.pc+8) }:bQ)).row) (by simp[results,results219,results60,go_sem];rfl) rfl ?_;exact⟨rfl,(by first | exact(((aN _ _).alloc (aJ _) _).alloc ξ _).alloc (by simp;omega) _ | exact((((aN _ _).alloc (aJ _) _).alloc ξ _).alloc (by simp;omega) _).drew)⟩
theorem aky (b:Int) (c:Int) (m v:Int) (w:World) (F:FuncId) (hF:F=219\/F=60) (tR:na<8):Calls prog F #[.agg p.row,.agg #[I 11,I na,I b,I c,I m],I v] w λe w'=>e=.returned (.agg (di p ⟨11,na,b,c,m⟩ v).row)/\Below w.heap.size w w':=by
 have HR:=bJ (show di p ⟨11,na,b,c,m⟩ v=({ p with pc:=wrap64 (p.pc+8) }:bQ).set na (wrap64 (p.pc+m)) from rfl);rw[HR.o];clear HR;obtain⟨r0,r1,r2,r3,r4,r5,r6,r7,r8,r9,A,y,h⟩:=pN;have rs:=mG;have e8:=pP;have e9:=pO;have r:=pQ;obtain⟨sa,q,ga⟩:=wu na tR;rcases hF with rfl | rfl
 all_goals
  (first | go_enter func219,ntmps219 | go_enter func60,ntmps60)
  go_wp2;refine bW (v:=.agg (({ p with pc:=wrap64 (p.pc+8) }:bQ).set na (wrap64 (p.pc+m))).row) (by simp[results,results219,results60,go_sem];rfl) rfl ?_;exact⟨rfl,(by first | exact(((aN _ _).alloc (aJ _) _).alloc ξ _).alloc (by simp;omega) _ | exact((((aN _ _).alloc (aJ _) _).alloc ξ _).alloc (by simp;omega) _).drew)⟩
theorem akx (hF:F=219\/F=60):Calls prog F #[.agg p.row,.agg #[I 12,I a,I b,I c,I m],I v] w λe w'=>e=.returned (.agg (di p ⟨12,a,b,c,m⟩ v).row)/\Below w.heap.size w w':=by
 have HR:=bJ (show di p ⟨12,a,b,c,m⟩ v=({ p with pc:=wrap64 (p.pc+m) }:bQ) from rfl);rw[HR.o];clear HR;obtain⟨r0,r1,r2,r3,r4,r5,r6,r7,r8,r9,r,y,h⟩:=pN;have rs:=mG;have e8:=pP;have e9:=pO;have q:=pQ;rcases hF with rfl | rfl
 all_goals
  (first | go_enter func219,ntmps219 | go_enter func60,ntmps60)
  go_wp2;refine bW (v:=.agg (({ p with pc:=wrap64 (p.pc+m) }:bQ)).row) (by simp[results,results219,results60,go_sem];rfl) rfl ?_;exact⟨rfl,(by first | exact(((aN _ _).alloc (aJ _) _).alloc ξ _).alloc (by simp;omega) _ | exact((((aN _ _).alloc (aJ _) _).alloc ξ _).alloc (by simp;omega) _).drew)⟩
theorem akw (b:Int) (c:Int) (m v:Int) (w:World) (F:FuncId) (hF:F=219\/F=60) (tR:na<8):Calls prog F #[.agg p.row,.agg #[I 15,I na,I b,I c,I m],I v] w λe w'=>e=.returned (.agg (di p ⟨15,na,b,c,m⟩ v).row)/\Below w.heap.size w w':=by
 have HR:=bJ (show di p ⟨15,na,b,c,m⟩ v=({ p with pc:=p.r na }:bQ) from rfl);rw[HR.o];clear HR;obtain⟨r0,r1,r2,r3,r4,r5,r6,r7,r8,r9,B,A,h⟩:=pN;have rs:=mG;have e8:=pP;have e9:=pO;have y:=pQ;obtain⟨sa,q,ga⟩:=wu na tR;rcases hF with rfl | rfl
 all_goals
  (first | go_enter func219,ntmps219 | go_enter func60,ntmps60)
  go_wp2;refine bW (v:=.agg (({ p with pc:=p.r na }:bQ)).row) (by simp[results,results219,results60,go_sem];rfl) rfl ?_;exact⟨rfl,(by first | exact(((aN _ _).alloc (aJ _) _).alloc ξ _).alloc (by simp;omega) _ | exact((((aN _ _).alloc (aJ _) _).alloc ξ _).alloc (by simp;omega) _).drew)⟩
theorem ahL (G:FuncId) (q p:bQ) (na:Nat) (nb:Nat) (nc:Nat) (m v:Int) (w:World) (h:op=2\/op=3\/op=4\/op=5\/op=6\/op=7) (hF:(F=219/\q={ p with pc:=wrap64 (p.pc+8) }/\G=231)\/(F=60/\p=q/\G=108)) (tR:na<8) (hnb:nb<8) (hnc:nc<8):Calls prog F #[.agg p.row,.agg #[I op,I na,I nb,I nc,I m],I v] w λe w'=>e=.returned (.agg (di p ⟨op,na,nb,nc,m⟩ v).row)/\Below w.heap.size w w':=by
 have HR:=bJ (show di p ⟨op,na,nb,nc,m⟩ v=({ p with pc:=wrap64 (p.pc+8) }:bQ).set na (NY op (p.r nb) (p.r nc)) from by rcases h with rfl | rfl | rfl | rfl | rfl | rfl <;> rfl);rw[HR.o];clear HR;have y:=bJ (λw=>Tu G op (p.r nb) (p.r nc) w (by rcases hF with⟨_,_,rfl⟩ | ⟨_,_,rfl⟩ <;> simp) h);obtain⟨Y,hY⟩:=ex ((NY op (p.r nb) (p.r nc)));rw[<- hY] at y ⊢;clear hY;have b:∀n,q.r n=p.r n:=λn=>by rcases hF with⟨_,rfl,_⟩ | ⟨_,rfl,_⟩ <;> rfl
 obtain⟨r0,r1,r2,r3,r4,r5,r6,r7,r8,r9,X,N,J⟩:=pN;have rs:=mG;have e8:=pP;have e9:=pO;have M:=pQ;obtain⟨sa,K,ga⟩:=wu na tR;have T:(0:Int)<=(na:Int):=by omega
 have R:(na:Int)<8:=by omega
 obtain⟨sb,B,gb⟩:=wu nb hnb;have Q:(0:Int)<=(nb:Int):=by omega
 have L:(nb:Int)<8:=by omega
 obtain⟨sc,A,gc⟩:=wu nc hnc;have O:(0:Int)<=(nc:Int):=by omega
 have U:(nc:Int)<8:=by omega
 have BP:=bJ (bB (bB (bG w q.row 77) (.cells #[I op,I na,I nb,I nc,I m] 108)) (.cells #[I 0,I 0,I 0,I 0,I 0,I 0,I 0,I 0,I 0,I 0,I 0,I 0,I 0] 77));have BI:=bJ (bB (bG (w.alloc (.cells q.row 77)) #[I op,I na,I nb,I nc,I m] 108) (.cells #[I 0,I 0,I 0,I 0,I 0,I 0,I 0,I 0,I 0,I 0,I 0,I 0,I 0] 77));rw[fp] at BI;obtain⟨W,hW⟩:=ex ((((w.alloc (.cells q.row 77)).alloc (.cells #[I op,I na,I nb,I nc,I m] 108)).alloc (.cells #[I 0,I 0,I 0,I 0,I 0,I 0,I 0,I 0,I 0,I 0,I 0,I 0,I 0] 77)));have HW:=bJ hW;rw[<- hW] at BP BI;clear hW;have k0:W.cell? (Ad (w.heap.size+1) 0)=some (I op):=aA BI.o 0 rfl;have k1:W.cell? (Ad (w.heap.size+1) 1)=some (I (na)):=aA BI.o 1 rfl;have k2:W.cell? (Ad (w.heap.size+1) 2)=some (I (nb)):=aA BI.o 2 rfl;have k3:W.cell? (Ad (w.heap.size+1) 3)=some (I (nc)):=aA BI.o 3 rfl;have k4:W.cell? (Ad w.heap.size nb)=some (I (p.r nb)):=(aA BP.o nb (B _)).trans (by rw[b]);have k5:W.cell? (Ad w.heap.size nc)=some (I (p.r nc)):=(aA BP.o nc (A _)).trans (by rw[b]);clear b;rcases hF with⟨rfl,rfl,rfl⟩ | ⟨rfl,rfl,rfl⟩ <;> rcases h with rfl | rfl | rfl | rfl | rfl | rfl
 all_goals
  as_aux_lemma =>
   (first | go_enter func219,ntmps219 | go_enter func60,ntmps60)
   go_wp2_with fail
   rw[<- HW.o];refine wp_region_still_tail 17 κ κ ?_;simp only[List.take_succ_cons,List.take_zero,List.drop_succ_cons,List.drop_zero];show wpStill _ _ W.drew _ _ _
   repeat (first | still_step | still_call (y.o _))
   refine wpStill_nil ?_;show wpList _ _ _ _ _ W.drew;rw[HW.o];clear HW BP BI k0 k1 k2 k3 k4 k5;go_wp2;refine bW (v:=.agg (({ p with pc:=wrap64 (p.pc+8) }:bQ).set na Y).row) (by simp[results,results219,results60,go_sem];rfl) rfl ?_;exact⟨rfl,(by first | exact(((aN _ _).alloc (aJ _) _).alloc ξ _).alloc (by simp;omega) _ | exact((((aN _ _).alloc (aJ _) _).alloc ξ _).alloc (by simp;omega) _).drew)⟩
theorem WJ (q p:bQ) (na nb:Nat) (c m v d:Int) (t:Bool) (w:World) (tR:na<8) (hnb:nb<8) (hO:(op=13/\(p.r na==p.r nb)=t)\/(op=14/\decide (p.r na<p.r nb)=t)) (hT:(t=true/\d=m)\/(t=false/\d=8)) (hF:(F=219/\q={ p with pc:=wrap64 (p.pc+8) })\/(F=60/\p=q)) :
  Calls prog F #[.agg p.row,.agg #[I op,I na,I nb,I c,I m],I v] w λe w'=>e=.returned (.agg ({ p with pc:=wrap64 (p.pc+d) }:bQ).row)/\Below w.heap.size w w':=by
 have b:∀n,q.r n=p.r n:=λn=>by rcases hF with⟨_,rfl⟩ | ⟨_,rfl⟩ <;> rfl
 obtain⟨Y,hY⟩:=ex (Value.agg ({ p with pc:=wrap64 (p.pc+d) }:bQ).row);have HY:=bJ hY;rw[<- hY];clear hY;obtain⟨r0,r1,r2,r3,r4,r5,r6,r7,r8,r9,O,K,B⟩:=pN;have rs:=mG;have e8:=pP;have e9:=pO;have J:=pQ;obtain⟨sa,y,ga⟩:=wu na tR;have N:(0:Int)<=(na:Int):=by omega
 have M:(na:Int)<8:=by omega
 obtain⟨sb,A,gb⟩:=wu nb hnb;have L:(0:Int)<=(nb:Int):=by omega
 have G:(nb:Int)<8:=by omega
 have BP:=bJ (bB (bB (bG w q.row 77) (.cells #[I op,I na,I nb,I c,I m] 108)) (.cells #[I 0,I 0,I 0,I 0,I 0,I 0,I 0,I 0,I 0,I 0,I 0,I 0,I 0] 77));have BI:=bJ (bB (bG (w.alloc (.cells q.row 77)) #[I op,I na,I nb,I c,I m] 108) (.cells #[I 0,I 0,I 0,I 0,I 0,I 0,I 0,I 0,I 0,I 0,I 0,I 0,I 0] 77));rw[fp] at BI;obtain⟨W,hW⟩:=ex ((((w.alloc (.cells q.row 77)).alloc (.cells #[I op,I na,I nb,I c,I m] 108)).alloc (.cells #[I 0,I 0,I 0,I 0,I 0,I 0,I 0,I 0,I 0,I 0,I 0,I 0,I 0] 77)));have HW:=bJ hW;rw[<- hW] at BP BI;clear hW;have k0:W.cell? (Ad (w.heap.size+1) 0)=some (I op):=aA BI.o 0 rfl;have k1:W.cell? (Ad (w.heap.size+1) 1)=some (I (na)):=aA BI.o 1 rfl;have k2:W.cell? (Ad (w.heap.size+1) 2)=some (I (nb)):=aA BI.o 2 rfl;have k3:W.cell? (Ad w.heap.size na)=some (I (p.r na)):=(aA BP.o na (y _)).trans (by rw[b]);have k4:W.cell? (Ad w.heap.size nb)=some (I (p.r nb)):=(aA BP.o nb (A _)).trans (by rw[b]);have HH:Hid (∀V,Calls prog 232 #[I op,I (p.r na),I (p.r nb)] V λe w'=>e=.returned (.bool t)/\w'=V):=λV=>by
  rcases hO with⟨rfl,h⟩ | ⟨rfl,h⟩
  . exact(acK (p.r na) (p.r nb) V).mono λe w' g=>⟨by rw[g.1,<- h];rfl,g.2.symm⟩
  exact(acJ (p.r na) (p.r nb) V).mono λe w' g=>⟨by rw[g.1,<- h],g.2.symm⟩
 clear b;rcases hF with⟨rfl,rfl⟩ | ⟨rfl,rfl⟩ <;> rcases hT with⟨rfl,rfl⟩ | ⟨rfl,rfl⟩ <;> rcases hO with⟨rfl,hq⟩ | ⟨rfl,hq⟩
 all_goals
  (first | go_enter func219,ntmps219 | go_enter func60,ntmps60)
  go_wp2_with fail
  rw[<- HW.o];refine wp_region_still_lit κ κ ?_;show wpStill _ _ W.drew _ _ _
  repeat (first | still_step | still_call (HH.o _))
  refine wpStill_nil ?_;show Exit.then _ _ _ _ W.drew;rw[HW.o];clear HW BP BI k0 k1 k2 k3 k4;go_wp2;refine bW (v:=Y) (by rw[HY.o];simp[results,results219,results60,go_sem];rfl) rfl ?_;exact⟨rfl,(by first | exact(((aN _ _).alloc (aJ _) _).alloc ξ _).alloc (by simp;omega) _ | exact((((aN _ _).alloc (aJ _) _).alloc ξ _).alloc (by simp;omega) _).drew)⟩
theorem afc (q p:bQ) (na nb:Nat) (c m v:Int) (w:World) (tR:na<8) (hnb:nb<8) (h:op=13\/op=14) (hF:(F=219/\q={ p with pc:=wrap64 (p.pc+8) })\/(F=60/\p=q)) :
  Calls prog F #[.agg p.row,.agg #[I op,I na,I nb,I c,I m],I v] w λe w'=>e=.returned (.agg (di p ⟨op,na,nb,c,m⟩ v).row)/\Below w.heap.size w w':=by
 rcases h with rfl | rfl
 . by_cases g:p.r na=p.r nb
   . rw[show di p ⟨13,na,nb,c,m⟩ v={ p with pc:=wrap64 (p.pc+m) } from aQ g];exact WJ 13 F q p na nb c m v m true w tR hnb (.inl ⟨rfl,by simpa using g⟩) (.inl ⟨rfl,rfl⟩) hF
   rw[show di p ⟨13,na,nb,c,m⟩ v={ p with pc:=wrap64 (p.pc+8) } from aH g];exact WJ 13 F q p na nb c m v 8 false w tR hnb (.inl ⟨rfl,by simpa using g⟩) (.inr ⟨rfl,rfl⟩) hF
 by_cases g:p.r na<p.r nb
 . rw[show di p ⟨14,na,nb,c,m⟩ v={ p with pc:=wrap64 (p.pc+m) } from aQ g];exact WJ 14 F q p na nb c m v m true w tR hnb (.inr ⟨rfl,by simpa using g⟩) (.inl ⟨rfl,rfl⟩) hF
 rw[show di p ⟨14,na,nb,c,m⟩ v={ p with pc:=wrap64 (p.pc+8) } from aH g];exact WJ 14 F q p na nb c m v 8 false w tR hnb (.inr ⟨rfl,by simpa using g⟩) (.inr ⟨rfl,rfl⟩) hF
def Ar (p:bQ) (m v:Int):bQ:=if m=6 then { p with st:=2,cd:=p.r 0 } else if m=1 then p else p.set 0 v
theorem Tw (h:1<=m/\m<=6):Calls prog 233 #[.agg p.row,I m,I v] w λe w'=>e=.returned (.agg (Ar p m v).row)/\Below w.heap.size w w':=by
 obtain⟨Y,hY⟩:=ex (Value.agg (Ar p m v).row);have HY:=bJ hY;rw[<- hY];clear hY;obtain⟨r0,r1,r2,r3,r4,r5,r6,r7,r8,r9,y,A,b⟩:=pN;have rs:=mG;have e8:=pP;have e9:=pO;have r:=pQ;have s0:∀(q:bQ) (v:Int),q.row.setIfInBounds 0 (I v)=(q.set 0 v).row:=λq v=>Jx q 0 v ω
 obtain rfl | rfl | rfl | rfl | rfl | rfl:m=1\/m=2\/m=3\/m=4\/m=5\/m=6:=by omega
 all_goals
  go_enter func233,ntmps233;go_wp2;refine bW (v:=Y) (by rw[HY.o];simp[results,results233,go_sem];rfl) rfl ?_;exact⟨rfl,((aN _ _).alloc (aJ _) _).alloc ξ _⟩
theorem Z8 (h:1<=m/\m<=6):Calls prog 219 #[.agg p.row,.agg #[I 16,I a,I b,I c,I m],I v] w λe w'=>e=.returned (.agg (di p ⟨16,a,b,c,m⟩ v).row)/\Below w.heap.size w w':=by
 have HR:=bJ (show di p ⟨16,a,b,c,m⟩ v=Ar ({ p with pc:=wrap64 (p.pc+8) }:bQ) m v from rfl);rw[HR.o];have HC:Hid (∀V,Calls prog 233 #[.agg (({ p with pc:=wrap64 (p.pc+8) }:bQ)).row,I m,I v] V λe w'=>e=.returned (.agg (Ar ({ p with pc:=wrap64 (p.pc+8) }:bQ) m v).row)/\Below V.heap.size V w'):=λV=>Tw ({ p with pc:=wrap64 (p.pc+8) }:bQ) m v V h
 clear HR;generalize Ar ({ p with pc:=wrap64 (p.pc+8) }:bQ) m v=R at HC ⊢;clear h;obtain⟨r0,r1,r2,r3,r4,r5,r6,r7,r8,r9,J,G,B⟩:=pN;have rs:=mG;have e8:=pP;have e9:=pO;have F:=pQ;have eB:=bJ ((((aN w.heap.size w).alloc (aJ _) (.cells (({ p with pc:=wrap64 (p.pc+8) }:bQ)).row 77)).alloc ξ (.cells #[I 16,I a,I b,I c,I m] 108)).alloc (by simp;omega) (.cells #[I 0,I 0,I 0,I 0,I 0,I 0,I 0,I 0,I 0,I 0,I 0,I 0,I 0] 77));have BR:=bJ (bG ((w.alloc (.cells (({ p with pc:=wrap64 (p.pc+8) }:bQ)).row 77)).alloc (.cells #[I 16,I a,I b,I c,I m] 108)) #[I 0,I 0,I 0,I 0,I 0,I 0,I 0,I 0,I 0,I 0,I 0,I 0,I 0] 77);rw[fp,fp] at BR;go_enter func219,ntmps219;go_wp2_with fail;refine(HC.o _).mono ?_;rintro e w1 ⟨rfl,q⟩;have dz:=bJ (eB.o.trans (q.mono eB.o.size));have Di:=bJ (aO BR.o q (aM BR.o));clear q eB BR HC;have u0:∀j,w1.frozen? (Ad (w.heap.size+1+1) j)=false:=λj=>br Di.o j
 have t0:w1.cell? (Ad (w.heap.size+1+1) 0)=some (I 0):=aA Di.o 0 rfl;have t1:w1.cell? (Ad (w.heap.size+1+1) 1)=some (I 0):=aA Di.o 1 rfl;have t2:w1.cell? (Ad (w.heap.size+1+1) 2)=some (I 0):=aA Di.o 2 rfl;have t3:w1.cell? (Ad (w.heap.size+1+1) 3)=some (I 0):=aA Di.o 3 rfl;have t4:w1.cell? (Ad (w.heap.size+1+1) 4)=some (I 0):=aA Di.o 4 rfl;have t5:w1.cell? (Ad (w.heap.size+1+1) 5)=some (I 0):=aA Di.o 5 rfl;have t6:w1.cell? (Ad (w.heap.size+1+1) 6)=some (I 0):=aA Di.o 6 rfl;have t7:w1.cell? (Ad (w.heap.size+1+1) 7)=some (I 0):=aA Di.o 7 rfl;have t8:w1.cell? (Ad (w.heap.size+1+1) 8)=some (I 0):=aA Di.o 8 rfl;have t9:w1.cell? (Ad (w.heap.size+1+1) 9)=some (I 0):=aA Di.o 9 rfl;have y:w1.cell? (Ad (w.heap.size+1+1) 10)=some (I 0):=aA Di.o 10 rfl;have r:w1.cell? (Ad (w.heap.size+1+1) 11)=some (I 0):=aA Di.o 11 rfl;have A:w1.cell? (Ad (w.heap.size+1+1) 12)=some (I 0):=aA Di.o 12 rfl;unfold bQ.row;go_wp2;refine bW (v:=.agg (R).row) (by simp[results,results219,go_sem,t0,t1,t2,t3,t4,t5,t6,t7,t8,t9,y,r,A];rfl) rfl ?_;exact⟨rfl,((((((((((((dz.o.setCell (by simp;omega) _).setCell (by simp;omega) _).setCell (by simp;omega) _).setCell (by simp;omega) _).setCell (by simp;omega) _).setCell (by simp;omega) _).setCell (by simp;omega) _).setCell (by simp;omega) _).setCell (by simp;omega) _).setCell (by simp;omega) _).setCell (by simp;omega) _).setCell (by simp;omega) _).setCell (by simp;omega) _⟩
theorem acL (h:1<=m/\m<=6):Calls prog 60 #[.agg p.row,.agg #[I 16,I a,I b,I c,I m],I v] w λe w'=>e=.returned (.agg (di p ⟨16,a,b,c,m⟩ v).row)/\Below w.heap.size w w':=by
 obtain⟨Y,hY⟩:=ex (Value.agg (di p ⟨16,a,b,c,m⟩ v).row);have HY:=bJ hY;rw[<- hY];clear hY;obtain⟨r0,r1,r2,r3,r4,r5,r6,r7,r8,r9,A,B,r⟩:=pN;have rs:=mG;have e8:=pP;have e9:=pO;have y:=pQ;have s0:∀(q:bQ) (v:Int),q.row.setIfInBounds 0 (I v)=(q.set 0 v).row:=λq v=>Jx q 0 v ω
 obtain rfl | rfl | rfl | rfl | rfl | rfl:m=1\/m=2\/m=3\/m=4\/m=5\/m=6:=by omega
 all_goals
  go_enter func60,ntmps60;go_wp2;refine bW (v:=Y) (by rw[HY.o];simp[results,results60,go_sem];rfl) rfl ?_;exact⟨rfl,(by first | exact(((aN _ _).alloc (aJ _) _).alloc ξ _).alloc (by simp;omega) _ | exact((((aN _ _).alloc (aJ _) _).alloc ξ _).alloc (by simp;omega) _).drew)⟩
theorem Z7 (hF:F=219\/F=60) (p:bQ) (i:eJ) (v:Int) (w:World) (hf:i.fits) (hb:i.bad=false):Calls prog F #[.agg p.row,.agg i.cells,I v] w λe w'=>e=.returned (.agg (di p i v).row)/\Below w.heap.size w w':=by
 obtain⟨op,a,b,c,m⟩:=i;obtain⟨-,ha,A,hc,-⟩:=hf;rcases(show(op<1\/16<op)\/op=1\/(op=2\/op=3\/op=4\/op=5\/op=6\/op=7)\/op=8\/(op=9\/op=10)\/op=11\/op=12\/(op=13\/op=14)\/op=15\/op=16 by omega) with h | rfl | h | rfl | h | rfl | rfl | h | rfl | rfl
 . rw[NW _ h] at hb;cases hb
 . obtain⟨na,rfl,tR⟩:=pY ha (zG hb);exact anu p na b c m v w _ hF tR
 . have q:¬(8<=a\/8<=b\/8<=c):=by rcases h with rfl | rfl | rfl | rfl | rfl | rfl <;> exact zG hb
   obtain⟨na,rfl,tR⟩:=pY ha (λh=>q (.inl h));obtain⟨nb,rfl,r⟩:=pY A (λh=>q (.inr (.inl h)));obtain⟨nc,rfl,B⟩:=pY hc (λh=>q (.inr (.inr h)));rcases hF with rfl | rfl
   . exact ahL op _ _ _ p na nb nc m v w h (.inl ⟨rfl,rfl,rfl⟩) tR r B
   exact ahL op _ _ _ p na nb nc m v w h (.inr ⟨rfl,rfl,rfl⟩) tR r B
 . have q:¬(8<=a\/8<=b):=zG hb;obtain⟨na,rfl,tR⟩:=pY ha (λh=>q (.inl h));obtain⟨nb,rfl,r⟩:=pY A (λh=>q (.inr h));exact ant p na nb c m v w _ hF tR r
 . have y:(decide (8<=a\/8<=b) || !(pR c))=false:=by rcases h with rfl | rfl <;> exact hb
   have q:¬(8<=a\/8<=b):=zG (Hj.1 y).1;obtain⟨na,rfl,tR⟩:=pY ha (λh=>q (.inl h));obtain⟨nb,rfl,r⟩:=pY A (λh=>q (.inr h));rcases h with rfl | rfl
   . exact ans p na nb c m v w _ hF tR r
   exact akz p na nb c m v w _ hF tR r
 . obtain⟨na,rfl,tR⟩:=pY ha (zG hb);exact aky p na b c m v w _ hF tR
 . exact akx p a b c m v w _ hF
 . have q:¬(8<=a\/8<=b):=by rcases h with rfl | rfl <;> exact zG hb
   obtain⟨na,rfl,tR⟩:=pY ha (λh=>q (.inl h));obtain⟨nb,rfl,r⟩:=pY A (λh=>q (.inr h));rcases hF with rfl | rfl
   . exact afc op _ _ p na nb c m v w tR r h (.inl ⟨rfl,rfl⟩)
   exact afc op _ _ p na nb c m v w tR r h (.inr ⟨rfl,rfl⟩)
 . obtain⟨na,rfl,tR⟩:=pY ha (zG hb);exact akw p na b c m v w _ hF tR
 have y:(!(decide (1<=m/\m<=6)))=false:=hb;rcases hF with rfl | rfl
 . exact Z8 p a b c m v w (by simpa using y)
 exact acL p a b c m v w (by simpa using y)
abbrev Tx:=Z7 _ (.inl rfl)
theorem FP {N g:Nat} {w W:World} (h:Below N w W) (hg:N<=g) (v0 v1 v2 v3 v4 v5 v6 v7 v8 v9 v10 v11 v12:Value):Below N w (((((((((((((W.setCell (Ad g 0) v0).setCell (Ad g 1) v1).setCell (Ad g 2) v2).setCell (Ad g 3) v3).setCell (Ad g 4) v4).setCell (Ad g 5) v5).setCell (Ad g 6) v6).setCell (Ad g 7) v7).setCell (Ad g 8) v8).setCell (Ad g 9) v9).setCell (Ad g 10) v10).setCell (Ad g 11) v11).setCell (Ad g 12) v12) :=
 (((((((((((((h.setCell (p:=(Ad g 0)) hg v0).setCell (p:=(Ad g 1)) hg v1).setCell (p:=(Ad g 2)) hg v2).setCell (p:=(Ad g 3)) hg v3).setCell (p:=(Ad g 4)) hg v4).setCell (p:=(Ad g 5)) hg v5).setCell (p:=(Ad g 6)) hg v6).setCell (p:=(Ad g 7)) hg v7).setCell (p:=(Ad g 8)) hg v8).setCell (p:=(Ad g 9)) hg v9).setCell (p:=(Ad g 10)) hg v10).setCell (p:=(Ad g 11)) hg v11).setCell (p:=(Ad g 12)) hg v12)
theorem acM {w:World} {b:Nat} {a0 a1 a2 a3 a4 a5 a6 a7 a8 a9 a10 a11 a12:Value} {t:TypeId} (h:w.heap[b]?=some (.cells #[a0,a1,a2,a3,a4,a5,a6,a7,a8,a9,a10,a11,a12] t (0,0))):w.cell? (Ad b 0)=some a0/\w.cell? (Ad b 1)=some a1/\w.cell? (Ad b 2)=some a2/\w.cell? (Ad b 3)=some a3/\w.cell? (Ad b 4)=some a4/\w.cell? (Ad b 5)=some a5/\w.cell? (Ad b 6)=some a6/\w.cell? (Ad b 7)=some a7/\w.cell? (Ad b 8)=some a8/\w.cell? (Ad b 9)=some a9/\w.cell? (Ad b 10)=some a10/\w.cell? (Ad b 11)=some a11/\w.cell? (Ad b 12)=some a12:=⟨aA h 0 rfl,aA h 1 rfl,aA h 2 rfl,aA h 3 rfl,aA h 4 rfl,aA h 5 rfl,aA h 6 rfl,aA h 7 rfl,aA h 8 rfl,aA h 9 rfl,aA h 10 rfl,aA h 11 rfl,aA h 12 rfl⟩
theorem anr (c:Array Value) (t:TypeId) (c':Array Value) (t':TypeId):Hid (Below w.heap.size w ((w.alloc (.cells c t)).alloc (.cells c' t')))/\Hid (((w.alloc (.cells c t)).alloc (.cells c' t')).heap[w.heap.size]?=some (.cells c t (0,0)))/\Hid (((w.alloc (.cells c t)).alloc (.cells c' t')).heap[w.heap.size+1]?=some (.cells c' t' (0,0))):=by
 refine⟨((aN _ _).alloc (aJ _) _).alloc ξ _,bB (bG w c t) _,?_⟩;have:=bG (w.alloc (.cells c t)) c' t';rw[fp] at this;exact this
theorem afZ (s:ByteArray) (v:Int) (w:World) (h:s.size=8) (X:Array Value) (C:Int) (hX:((iq s).bad=true/\X=#[I 0,I 0,I 0,I 0,I 0,I 0,I 0,I 0,I 0,I 0,I 0,I 0,I 0]/\C=10)\/((iq s).bad=false/\X=(di p (iq s) v).row/\C=0)):Calls prog 197 #[p.val,.string s,I v] w λe w'=>e=.returned (.tuple #[.agg X,I C])/\Below w.heap.size w w':=by
 have HD:=bJ (λV=>Io s V h);have q:=BV s h;generalize iq s=i at HD q hX;have HK:=bJ (λV=>KI i V q);have HN:i.bad=false->Hid (∀V,_):=λb=>bJ (λV=>Tx p i v V q b)
 generalize hR:di p i v=R at HN hX;obtain⟨eB,BP,BR⟩:=anr w p.row 77 #[I 0,I 0,I 0,I 0,I 0,I 0,I 0,I 0,I 0,I 0,I 0,I 0,I 0] 77;unfold bQ.val;obtain⟨op,a,b,c,m⟩:=i;unfold eJ.cells at HD HK HN;simp only at HD HK HN;rcases hX with⟨bad,rfl,rfl⟩ | ⟨bad,rfl,rfl⟩
 all_goals
  rw[bad] at HK
  first | have HN:=HN bad | clear HN
  clear q bad hR h;go_enter func197,ntmps197;go_wp2_with fail;refine(HD.o _).mono ?_;rintro e w1 ⟨rfl,y⟩;have dz:=bJ (eB.o.trans (y.mono eB.o.size));have ZJ:=bJ (aO BP.o y (aM BP.o));have Di:=bJ (aO BR.o y (aM BR.o));have Sy:=bJ ((aN w1.heap.size w1).alloc (aJ _) (.cells #[I op,I a,I b,I c,I m] 108));have SP:=bJ (bG w1 #[I op,I a,I b,I c,I m] 108);clear y;go_wp2_with fail;refine(HK.o _).mono ?_;rintro e w2 ⟨rfl,r⟩;have iI:=bJ (dz.o.trans ((Sy.o.trans (r.mono Sy.o.size)).mono dz.o.size));have B:=aO (bB ZJ.o _) r (aM (bB ZJ.o _));have Jj:=bJ (aO (bB Di.o _) r (aM (bB Di.o _)));have V5:=aO SP.o r (aM SP.o);have M:=iI.o.size;clear r Sy Di ZJ eB BP BR HD HK dz SP;obtain⟨i0,i1,i2,i3,i4⟩:=kj V5;unfold bQ.row at B;obtain⟨p0,p1,p2,p3,p4,p5,p6,p7,p8,p9,L,N,K⟩:=acM B;clear B V5
 . obtain⟨t0,t1,t2,t3,t4,t5,t6,t7,t8,t9,F,G,J⟩:=acM Jj.o;have u0:=br Jj.o;go_wp2;refine bW (v:=.tuple #[.agg #[I 0,I 0,I 0,I 0,I 0,I 0,I 0,I 0,I 0,I 0,I 0,I 0,I 0],I 10]) (by simp[results,results197,go_sem,t0,t1,t2,t3,t4,t5,t6,t7,t8,t9,F,G,J]) rfl ?_;exact⟨rfl,FP iI.o (iO _) _ _ _ _ _ _ _ _ _ _ _ _ _⟩
 unfold bQ.row at HN;go_wp2_with fail;refine(HN.o _).mono ?_;rintro e w3 ⟨rfl,A⟩;have kE:=bJ (iI.o.trans (A.mono iI.o.size));have V4:=aO Jj.o A (aM Jj.o);obtain⟨t0,t1,t2,t3,t4,t5,t6,t7,t8,t9,F,G,J⟩:=acM V4;have u0:=br V4;clear A HN V4;go_wp2;refine bW (v:=.tuple #[.agg R.row,I 0]) (by simp[results,results197,go_sem,t0,t1,t2,t3,t4,t5,t6,t7,t8,t9,F,G,J];rfl) rfl ?_;exact⟨rfl,FP kE.o (iO _) _ _ _ _ _ _ _ _ _ _ _ _ _⟩
theorem Z6 (s:ByteArray) (v:Int) (w:World) (h:s.size=8) (bad:(iq s).bad=false):Calls prog 197 #[p.val,.string s,I v] w λe w'=>e=.returned (.tuple #[.agg (di p (iq s) v).row,I 0])/\Below w.heap.size w w':=afZ p s v w h _ _ (.inr ⟨bad,rfl,rfl⟩)
end Go.Proofs.YtlgoihmkgaaemaaGreat
