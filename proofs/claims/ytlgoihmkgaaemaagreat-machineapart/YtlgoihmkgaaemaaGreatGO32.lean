import Derived.Test.YtlgoihmkgaaemaaGreatGO31
import Derived.StillTailTactics
set_option maxHeartbeats 20000000
set_option linter.unusedVariables false
set_option maxRecDepth 100000
set_option linter.unusedSimpArgs false
namespace Go.Proofs.YtlgoihmkgaaemaaGreat
open Go.RowKit
def Fp (i:dU):Int:=if i.bad then 4 else if i.op=9 then 1 else if i.op=10 then 2 else if i.op=16 then 3 else 0
theorem SI (i:dU) (w:World) (hi:i.fits):Calls Tryz.prog 194 #[.agg i.cells] w fun e w'=>e=.returned (I (Fp i))/\Below w.heap.size w w':=by
 have HB:=br (fun V=>Kh i V hi);have HK:Hid (Fp i=if i.bad then 4 else if i.op=9 then 1 else if i.op=10 then 2 else if i.op=16 then 3 else 0):=rfl;obtain⟨op,a,b,c,m⟩:=i;unfold dU.cells at HB ⊢;simp only at HB HK ⊢;obtain⟨K,hK⟩:=ex (Fp ⟨op,a,b,c,m⟩);obtain⟨D,hD⟩:=ex (dU.bad ⟨op,a,b,c,m⟩);rw[<- hK] at HK ⊢;rw[<- hD] at HK HB;clear hK hD hi;have gB:=br ((aK w.heap.size w).alloc (aD _) (.cells #[I op,I a,I b,I c,I m] 108));have BX:=br (bB w #[I op,I a,I b,I c,I m] 108);cases D
 · simp only[Bool.false_eq_true,tL] at HK;by_cases h1:op=9
   · subst h1;obtain rfl:K=1:=by rw[HK.o];rfl
     go_enter Tryz.func194,Tryz.ntmps194;go_wp2_with fail
     refine(HB.o _).mono ?_;rintro e w1 ⟨rfl,hb1⟩;have cH:=br (gB.o.trans (hb1.mono gB.o.size));have c0:=aq (aN BX.o hb1 (aJ BX.o)) 0 rfl;clear hb1;go_wp2;go_ret;exact⟨rfl,cH.o⟩
   · by_cases h2:op=10
     · subst h2;obtain rfl:K=2:=by rw[HK.o];rfl
       go_enter Tryz.func194,Tryz.ntmps194;go_wp2_with fail
       refine(HB.o _).mono ?_;rintro e w1 ⟨rfl,hb1⟩;have cH:=br (gB.o.trans (hb1.mono gB.o.size));have c0:=aq (aN BX.o hb1 (aJ BX.o)) 0 rfl;clear hb1;go_wp2;go_ret;exact⟨rfl,cH.o⟩
     · by_cases h3:op=16
       · subst h3;obtain rfl:K=3:=by rw[HK.o];rfl
         go_enter Tryz.func194,Tryz.ntmps194;go_wp2_with fail
         refine(HB.o _).mono ?_;rintro e w1 ⟨rfl,hb1⟩;have cH:=br (gB.o.trans (hb1.mono gB.o.size));have c0:=aq (aN BX.o hb1 (aJ BX.o)) 0 rfl;clear hb1;go_wp2;go_ret;exact⟨rfl,cH.o⟩
       · obtain rfl:K=0:=by rw[HK.o,au h1,au h2,au h3]
         go_enter Tryz.func194,Tryz.ntmps194;go_wp2_with fail
         refine(HB.o _).mono ?_;rintro e w1 ⟨rfl,hb1⟩;have cH:=br (gB.o.trans (hb1.mono gB.o.size));have c0:=aq (aN BX.o hb1 (aJ BX.o)) 0 rfl;clear hb1;go_wp2;go_ret;exact⟨rfl,cH.o⟩
 · simp only[tK] at HK;obtain rfl:K=4:=HK.o;go_enter Tryz.func194,Tryz.ntmps194;go_wp2_with fail
   refine(HB.o _).mono ?_;rintro e w1 ⟨rfl,hb1⟩;have cH:=br (gB.o.trans (hb1.mono gB.o.size));clear hb1;go_wp2;go_ret;exact⟨rfl,cH.o⟩
open Go.RowKit
theorem gG {x:Int} (h:qV x) (h8:¬8<=x):∃n:Nat,x=(n:Int)/\n<8:=by
 obtain⟨h0,-⟩:=h;exact⟨x.toNat,by omega,by omega⟩
theorem lW {N g:Nat} {w W:World} (h:Below N w W) (hg:N<=g) (v0 v1 v2 v3 v4:Value):Below N w (((((W.setCell (Ad g 0) v0).setCell (Ad g 1) v1).setCell (Ad g 2) v2).setCell (Ad g 3) v3).setCell (Ad g 4) v4) :=
 ((((h.setCell (p:=(Ad g 0)) hg v0).setCell (p:=(Ad g 1)) hg v1).setCell (p:=(Ad g 2)) hg v2).setCell (p:=(Ad g 3)) hg v3).setCell (p:=(Ad g 4)) hg v4
theorem aba (op a b c m:Int) (hi:dU.fits ⟨op,a,b,c,m⟩) (h:op=9∨op=10) (hd:dU.bad ⟨op,a,b,c,m⟩=false):∃na nb:Nat,a=(na:Int)/\b=(nb:Int)/\na<8/\nb<8:=by
 obtain⟨-,ha,hb,-⟩:=hi;have e:(decide (8<=a∨8<=b) || !(oD c))=false:=by
  rcases h with h | h <;> subst h <;> exact hd
 simp only[J1,decide_eq_false_iff_not] at e;obtain⟨na,h1,h2⟩:=gG ha (fun h=>e.1 (.inl h));obtain⟨nb,h3,h4⟩:=gG hb (fun h=>e.1 (.inr h));exact⟨na,nb,h1,h3,h2,h4⟩
theorem abg (p:bO) (s:ByteArray) (w:World) (h:s.size=8):Calls Tryz.prog 149 #[p.val,.string s] w fun e w'=>e=.returned (.tuple #[.agg (pD p (ik s)),I 0])/\Below w.heap.size w w':=by
 have HD:=br (fun V=>Ie s V h);have hfit:=A4 s h;obtain⟨i,hi⟩:=ex (ik s);rw[<- hi] at HD hfit ⊢;have HK:=br (fun V=>SI i V hfit);clear hi h;obtain⟨op,a,b,c,m⟩:=i;have LR:Hid (pD p ⟨op,a,b,c,m⟩=if dU.bad ⟨op,a,b,c,m⟩ then #[I 4,I 0,I 0,I 0,I 0] else if op=9 then #[I 1,I (wrap64 (p.r b.toNat+m)),I c,I 0,I 0] else if op=10 then #[I 2,I (wrap64 (p.r b.toNat+m)),I c,I (p.r a.toNat),I 0] else if op=16 then #[I 3,I 0,I 0,I 0,I m] else #[I 0,I 0,I 0,I 0,I 0]):=rfl;have HRg:=br (aba op a b c m hfit);have HKN:Hid (Fp ⟨op,a,b,c,m⟩=if dU.bad ⟨op,a,b,c,m⟩ then 4 else if op=9 then 1 else if op=10 then 2 else if op=16 then 3 else 0):=rfl;obtain⟨K,hK⟩:=ex (Fp ⟨op,a,b,c,m⟩);obtain⟨D,hD⟩:=ex (dU.bad ⟨op,a,b,c,m⟩);obtain⟨Q,hQ⟩:=ex (pD p ⟨op,a,b,c,m⟩);rw[<- hQ] at LR ⊢;rw[<- hK] at HKN HK;rw[<- hD] at HKN LR HRg;clear hK hD hQ hfit;unfold dU.cells at HD HK;simp only at HD HK;have gB:=br (((aK w.heap.size w).alloc (aD _) (.cells p.row 77)).alloc (by simp) (.cells #[I 0,I 0,I 0,I 0,I 0] 110));have BP:=br (bk (bB w p.row 77) (.cells #[I 0,I 0,I 0,I 0,I 0] 110));have BR:=br (bB (w.alloc (.cells p.row 77)) #[I 0,I 0,I 0,I 0,I 0] 110);rw[gh] at BR;unfold bO.val;cases D
 · simp only[Bool.false_eq_true,tL] at HKN LR;by_cases h1:op=9
   · obtain⟨na,nb,rfl,rfl,rH,hnb⟩:=HRg.o (.inl h1) rfl;subst h1;obtain rfl:K=1:=HKN.o;obtain rfl:=LR.o;clear HRg HKN LR;rw[jz];go_enter Tryz.func149,Tryz.ntmps149;go_wp2_with fail
     refine(HD.o _).mono ?_;rintro e w1 ⟨rfl,hb1⟩;have cH:=br (gB.o.trans (hb1.mono gB.o.size));have Yq:=br (aN BP.o hb1 (aJ BP.o));have CL:=br (aN BR.o hb1 (aJ BR.o));have MZ:=br ((aK w1.heap.size w1).alloc (aD _) (.cells #[I 9,I na,I nb,I c,I m] 108));have Sj:=br (bB w1 #[I 9,I na,I nb,I c,I m] 108);clear hb1;go_wp2_with fail
     refine(HK.o _).mono ?_;rintro e w2 ⟨rfl,hb2⟩;have gK:=br (cH.o.trans ((MZ.o.trans (hb2.mono MZ.o.size)).mono cH.o.size));have Oj:=br (aN (bk Yq.o _) hb2 (aJ (bk Yq.o _)));have JS:=br (aN (bk CL.o _) hb2 (aJ (bk CL.o _)));have Ya:=br (aN Sj.o hb2 (aJ Sj.o));have sz2:=gK.o.size;have l0:=aJ Oj.o;have l1:=aJ JS.o;have l2:=aJ Ya.o;have ne1:¬w1.heap.size=w.heap.size+1:=fun h=>by have:=aJ CL.o;omega
     clear hb2 MZ Sj;obtain⟨t0,t1,t2,t3,t4⟩:=iT JS.o;have u0:∀j,w2.frozen? (Ad (w.heap.size+1) j)=false:=fun j=>aO JS.o j
     have cb:w2.cell? (Ad w.heap.size nb)=some (I (p.r nb)):=aq Oj.o nb (zT p nb hnb);have i2:w2.cell? (Ad w1.heap.size 2)=some (I nb):=aq Ya.o 2 rfl;have i3:w2.cell? (Ad w1.heap.size 3)=some (I c):=aq Ya.o 3 rfl;have i4:w2.cell? (Ad w1.heap.size 4)=some (I m):=aq Ya.o 4 rfl;go_wp2_with fail
     go_region;go_wp2;refine bI (v:=.tuple #[.agg #[I 1,I (wrap64 (p.r nb+m)),I c,I 0,I 0],I 0]) (by simp[results,Tryz.results149,go_sem,t0,t1,t2,t3,t4,l1]) rfl ?_;exact⟨rfl,(by first | exact(lW gK.o (kZ _) _ _ _ _ _).alloc (by simp;omega) _ | exact((lW gK.o (kZ _) _ _ _ _ _).alloc (by simp;omega) _).drew)⟩
   · by_cases h2:op=10
     · obtain⟨na,nb,rfl,rfl,rH,hnb⟩:=HRg.o (.inr h2) rfl;subst h2;obtain rfl:K=2:=HKN.o;obtain rfl:=LR.o;clear HRg HKN LR h1;rw[au (by decide),aB rfl,jz,jz];go_enter Tryz.func149,Tryz.ntmps149;go_wp2_with fail
       refine(HD.o _).mono ?_;rintro e w1 ⟨rfl,hb1⟩;have cH:=br (gB.o.trans (hb1.mono gB.o.size));have Yq:=br (aN BP.o hb1 (aJ BP.o));have CL:=br (aN BR.o hb1 (aJ BR.o));have MZ:=br ((aK w1.heap.size w1).alloc (aD _) (.cells #[I 10,I na,I nb,I c,I m] 108));have Sj:=br (bB w1 #[I 10,I na,I nb,I c,I m] 108);clear hb1;go_wp2_with fail
       refine(HK.o _).mono ?_;rintro e w2 ⟨rfl,hb2⟩;have gK:=br (cH.o.trans ((MZ.o.trans (hb2.mono MZ.o.size)).mono cH.o.size));have Oj:=br (aN (bk Yq.o _) hb2 (aJ (bk Yq.o _)));have JS:=br (aN (bk CL.o _) hb2 (aJ (bk CL.o _)));have Ya:=br (aN Sj.o hb2 (aJ Sj.o));have sz2:=gK.o.size;have l0:=aJ Oj.o;have l1:=aJ JS.o;have l2:=aJ Ya.o;have ne1:¬w1.heap.size=w.heap.size+1:=fun h=>by have:=aJ CL.o;omega
       clear hb2 MZ Sj;obtain⟨t0,t1,t2,t3,t4⟩:=iT JS.o;have u0:∀j,w2.frozen? (Ad (w.heap.size+1) j)=false:=fun j=>aO JS.o j
       have ca:w2.cell? (Ad w.heap.size na)=some (I (p.r na)):=aq Oj.o na (zT p na rH);have i1:w2.cell? (Ad w1.heap.size 1)=some (I na):=aq Ya.o 1 rfl;have cb:w2.cell? (Ad w.heap.size nb)=some (I (p.r nb)):=aq Oj.o nb (zT p nb hnb);have i2:w2.cell? (Ad w1.heap.size 2)=some (I nb):=aq Ya.o 2 rfl;have i3:w2.cell? (Ad w1.heap.size 3)=some (I c):=aq Ya.o 3 rfl;have i4:w2.cell? (Ad w1.heap.size 4)=some (I m):=aq Ya.o 4 rfl;go_wp2_with fail
       go_region;go_wp2;refine bI (v:=.tuple #[.agg #[I 2,I (wrap64 (p.r nb+m)),I c,I (p.r na),I 0],I 0]) (by simp[results,Tryz.results149,go_sem,t0,t1,t2,t3,t4,l1]) rfl ?_;exact⟨rfl,(by first | exact(lW gK.o (kZ _) _ _ _ _ _).alloc (by simp;omega) _ | exact((lW gK.o (kZ _) _ _ _ _ _).alloc (by simp;omega) _).drew)⟩
     · by_cases h3:op=16
       · subst h3;obtain rfl:K=3:=HKN.o;obtain rfl:=LR.o;clear HRg HKN LR h1 h2;rw[au (by decide),au (by decide),aB rfl];go_enter Tryz.func149,Tryz.ntmps149;go_wp2_with fail
         refine(HD.o _).mono ?_;rintro e w1 ⟨rfl,hb1⟩;have cH:=br (gB.o.trans (hb1.mono gB.o.size));have Yq:=br (aN BP.o hb1 (aJ BP.o));have CL:=br (aN BR.o hb1 (aJ BR.o));have MZ:=br ((aK w1.heap.size w1).alloc (aD _) (.cells #[I 16,I a,I b,I c,I m] 108));have Sj:=br (bB w1 #[I 16,I a,I b,I c,I m] 108);clear hb1;go_wp2_with fail
         refine(HK.o _).mono ?_;rintro e w2 ⟨rfl,hb2⟩;have gK:=br (cH.o.trans ((MZ.o.trans (hb2.mono MZ.o.size)).mono cH.o.size));have Oj:=br (aN (bk Yq.o _) hb2 (aJ (bk Yq.o _)));have JS:=br (aN (bk CL.o _) hb2 (aJ (bk CL.o _)));have Ya:=br (aN Sj.o hb2 (aJ Sj.o));have sz2:=gK.o.size;have l0:=aJ Oj.o;have l1:=aJ JS.o;have l2:=aJ Ya.o;have ne1:¬w1.heap.size=w.heap.size+1:=fun h=>by have:=aJ CL.o;omega
         clear hb2 MZ Sj;obtain⟨t0,t1,t2,t3,t4⟩:=iT JS.o;have u0:∀j,w2.frozen? (Ad (w.heap.size+1) j)=false:=fun j=>aO JS.o j
         have i4:w2.cell? (Ad w1.heap.size 4)=some (I m):=aq Ya.o 4 rfl;go_wp2;refine bI (v:=.tuple #[.agg #[I 3,I 0,I 0,I 0,I m],I 0]) (by simp[results,Tryz.results149,go_sem,t0,t1,t2,t3,t4,l1]) rfl ?_;exact⟨rfl,(by first | exact(lW gK.o (kZ _) _ _ _ _ _).alloc (by simp;omega) _ | exact((lW gK.o (kZ _) _ _ _ _ _).alloc (by simp;omega) _).drew)⟩
       · obtain rfl:K=0:=by rw[HKN.o,au h1,au h2,au h3]
         obtain rfl:Q=#[I 0,I 0,I 0,I 0,I 0]:=by rw[LR.o,au h1,au h2,au h3]
         clear HRg HKN LR h1 h2 h3;go_enter Tryz.func149,Tryz.ntmps149;go_wp2_with fail
         refine(HD.o _).mono ?_;rintro e w1 ⟨rfl,hb1⟩;have cH:=br (gB.o.trans (hb1.mono gB.o.size));have Yq:=br (aN BP.o hb1 (aJ BP.o));have CL:=br (aN BR.o hb1 (aJ BR.o));have MZ:=br ((aK w1.heap.size w1).alloc (aD _) (.cells #[I op,I a,I b,I c,I m] 108));have Sj:=br (bB w1 #[I op,I a,I b,I c,I m] 108);clear hb1;go_wp2_with fail
         refine(HK.o _).mono ?_;rintro e w2 ⟨rfl,hb2⟩;have gK:=br (cH.o.trans ((MZ.o.trans (hb2.mono MZ.o.size)).mono cH.o.size));have Oj:=br (aN (bk Yq.o _) hb2 (aJ (bk Yq.o _)));have JS:=br (aN (bk CL.o _) hb2 (aJ (bk CL.o _)));have Ya:=br (aN Sj.o hb2 (aJ Sj.o));have sz2:=gK.o.size;have l0:=aJ Oj.o;have l1:=aJ JS.o;have l2:=aJ Ya.o;have ne1:¬w1.heap.size=w.heap.size+1:=fun h=>by have:=aJ CL.o;omega
         clear hb2 MZ Sj;obtain⟨t0,t1,t2,t3,t4⟩:=iT JS.o;have u0:∀j,w2.frozen? (Ad (w.heap.size+1) j)=false:=fun j=>aO JS.o j
         go_wp2;refine bI (v:=.tuple #[.agg #[I 0,I 0,I 0,I 0,I 0],I 0]) (by simp[results,Tryz.results149,go_sem,t0,t1,t2,t3,t4,l1]) rfl ?_;exact⟨rfl,(by first | exact(lW gK.o (kZ _) _ _ _ _ _).alloc (by simp;omega) _ | exact((lW gK.o (kZ _) _ _ _ _ _).alloc (by simp;omega) _).drew)⟩
 · simp only[tK] at HKN LR;obtain rfl:K=4:=HKN.o;obtain rfl:=LR.o;clear HRg HKN LR;go_enter Tryz.func149,Tryz.ntmps149;go_wp2_with fail
   refine(HD.o _).mono ?_;rintro e w1 ⟨rfl,hb1⟩;have cH:=br (gB.o.trans (hb1.mono gB.o.size));have Yq:=br (aN BP.o hb1 (aJ BP.o));have CL:=br (aN BR.o hb1 (aJ BR.o));have MZ:=br ((aK w1.heap.size w1).alloc (aD _) (.cells #[I op,I a,I b,I c,I m] 108));have Sj:=br (bB w1 #[I op,I a,I b,I c,I m] 108);clear hb1;go_wp2_with fail
   refine(HK.o _).mono ?_;rintro e w2 ⟨rfl,hb2⟩;have gK:=br (cH.o.trans ((MZ.o.trans (hb2.mono MZ.o.size)).mono cH.o.size));have Oj:=br (aN (bk Yq.o _) hb2 (aJ (bk Yq.o _)));have JS:=br (aN (bk CL.o _) hb2 (aJ (bk CL.o _)));have Ya:=br (aN Sj.o hb2 (aJ Sj.o));have sz2:=gK.o.size;have l0:=aJ Oj.o;have l1:=aJ JS.o;have l2:=aJ Ya.o;have ne1:¬w1.heap.size=w.heap.size+1:=fun h=>by have:=aJ CL.o;omega
   clear hb2 MZ Sj;obtain⟨t0,t1,t2,t3,t4⟩:=iT JS.o;have u0:∀j,w2.frozen? (Ad (w.heap.size+1) j)=false:=fun j=>aO JS.o j
   go_wp2;refine bI (v:=.tuple #[.agg #[I 4,I 0,I 0,I 0,I 0],I 0]) (by simp[results,Tryz.results149,go_sem,t0,t1,t2,t3,t4,l1]) rfl ?_;exact⟨rfl,(by first | exact(lW gK.o (kZ _) _ _ _ _ _).alloc (by simp;omega) _ | exact((lW gK.o (kZ _) _ _ _ _ _).alloc (by simp;omega) _).drew)⟩
open Go.RowKit
open Go.RowKit
theorem SH (F:FuncId) (op b c:Int) (w:World) (hF:F=231∨F=108) (h:op=2∨op=3∨op=4∨op=5∨op=6∨op=7):Calls Tryz.prog F #[I op,I b,I c] w fun e w'=>e=.returned (I (Np op b c))/\w'=w:=by
 by_cases g:op=7
 · subst g;have h1:=VF c;have h2:=VG c;have h3:IntKind.u64.wrap (c%64)=c%64:=by rw[ahw];omega
   have HR:=br (show Np 7 b c=wrap64 (IntKind.u64.wrap b/2 ^ min (c%64).toNat 64) from rfl);rw[HR.o];have h4:0<=c%64:=by omega
   obtain⟨E,hE⟩:=ex (c%64);rw[<- hE] at h1 h2 h3 h4 ⊢;clear hE h;rcases hF with rfl | rfl <;> ((first | go_enter Tryz.func231,Tryz.ntmps231 | go_enter Tryz.func108,Tryz.ntmps108);go_wp2;go_ret;exact⟨rfl,rfl⟩)
 · rcases h with rfl | rfl | rfl | rfl | rfl | h
   all_goals try rcases hF with rfl | rfl <;> ((first | go_enter Tryz.func231,Tryz.ntmps231 | go_enter Tryz.func108,Tryz.ntmps108);go_wp2;go_ret;exact⟨rfl,rfl⟩)
   exact absurd h g
theorem abf (a b:Int) (w:World):Calls Tryz.prog 232 #[I 13,I a,I b] w fun e w'=>e=.returned (.bool (decide (a=b)))/\w=w':=by
 go_enter Tryz.func232,Tryz.ntmps232;go_wp2;go_ret;exact⟨by first | rfl | simp[beq_eq_decide],rfl⟩
theorem abe (a b:Int) (w:World):Calls Tryz.prog 232 #[I 14,I a,I b] w fun e w'=>e=.returned (.bool (decide (a<b)))/\w=w':=by
 go_enter Tryz.func232,Tryz.ntmps232;go_wp2;go_ret;exact⟨by first | rfl | simp[beq_eq_decide],rfl⟩
open Go.RowKit
theorem aj9 (p:bO) (na:Nat) (b:Int) (c:Int) (m v:Int) (w:World) (F:FuncId) (hF:F=219∨F=60) (rH:na<8):Calls Tryz.prog F #[.agg p.row,.agg #[I 1,I na,I b,I c,I m],I v] w fun e w'=>e=.returned (.agg (dg p ⟨1,na,b,c,m⟩ v).row)/\Below w.heap.size w w':=by
 have HR:=br (show dg p ⟨1,na,b,c,m⟩ v=({ p with pc:=wrap64 (p.pc+8) }:bO).set na m from rfl);rw[HR.o];clear HR;obtain⟨r0,r1,r2,r3,r4,r5,r6,r7,r8,r9,r10,r11,r12⟩:=qq;have rs:=mW;have e8:=qw;have e9:=qu;have e10:=qx;obtain⟨sa,ga1,ga⟩:=vU na rH;rcases hF with rfl | rfl
 all_goals
  (first | go_enter Tryz.func219,Tryz.ntmps219 | go_enter Tryz.func60,Tryz.ntmps60)
  go_wp2;refine bI (v:=.agg (({ p with pc:=wrap64 (p.pc+8) }:bO).set na m).row) (by simp[results,Tryz.results219,Tryz.results60,go_sem];rfl) rfl ?_;exact⟨rfl,(by first | exact(((aK _ _).alloc (aD _) _).alloc (by simp) _).alloc (by simp;omega) _ | exact((((aK _ _).alloc (aD _) _).alloc (by simp) _).alloc (by simp;omega) _).drew)⟩
theorem aj8 (p:bO) (na:Nat) (nb:Nat) (c:Int) (m v:Int) (w:World) (F:FuncId) (hF:F=219∨F=60) (rH:na<8) (hnb:nb<8):Calls Tryz.prog F #[.agg p.row,.agg #[I 8,I na,I nb,I c,I m],I v] w fun e w'=>e=.returned (.agg (dg p ⟨8,na,nb,c,m⟩ v).row)/\Below w.heap.size w w':=by
 have HR:=br (show dg p ⟨8,na,nb,c,m⟩ v=({ p with pc:=wrap64 (p.pc+8) }:bO).set na (wrap64 (p.r nb+m)) from rfl);rw[HR.o];clear HR;obtain⟨r0,r1,r2,r3,r4,r5,r6,r7,r8,r9,r10,r11,r12⟩:=qq;have rs:=mW;have e8:=qw;have e9:=qu;have e10:=qx;obtain⟨sa,ga1,ga⟩:=vU na rH;obtain⟨sb,gb1,gb⟩:=vU nb hnb;rcases hF with rfl | rfl
 all_goals
  (first | go_enter Tryz.func219,Tryz.ntmps219 | go_enter Tryz.func60,Tryz.ntmps60)
  go_wp2_with fail
  go_region;go_wp2;refine bI (v:=.agg (({ p with pc:=wrap64 (p.pc+8) }:bO).set na (wrap64 (p.r nb+m))).row) (by simp[results,Tryz.results219,Tryz.results60,go_sem];rfl) rfl ?_;exact⟨rfl,(by first | exact(((aK _ _).alloc (aD _) _).alloc (by simp) _).alloc (by simp;omega) _ | exact((((aK _ _).alloc (aD _) _).alloc (by simp) _).alloc (by simp;omega) _).drew)⟩
theorem aj7 (p:bO) (na:Nat) (nb:Nat) (c:Int) (m v:Int) (w:World) (F:FuncId) (hF:F=219∨F=60) (rH:na<8) (hnb:nb<8):Calls Tryz.prog F #[.agg p.row,.agg #[I 9,I na,I nb,I c,I m],I v] w fun e w'=>e=.returned (.agg (dg p ⟨9,na,nb,c,m⟩ v).row)/\Below w.heap.size w w':=by
 have HR:=br (show dg p ⟨9,na,nb,c,m⟩ v=({ p with pc:=wrap64 (p.pc+8) }:bO).set na v from rfl);rw[HR.o];clear HR;obtain⟨r0,r1,r2,r3,r4,r5,r6,r7,r8,r9,r10,r11,r12⟩:=qq;have rs:=mW;have e8:=qw;have e9:=qu;have e10:=qx;obtain⟨sa,ga1,ga⟩:=vU na rH;obtain⟨sb,gb1,gb⟩:=vU nb hnb;rcases hF with rfl | rfl
 all_goals
  (first | go_enter Tryz.func219,Tryz.ntmps219 | go_enter Tryz.func60,Tryz.ntmps60)
  go_wp2;refine bI (v:=.agg (({ p with pc:=wrap64 (p.pc+8) }:bO).set na v).row) (by simp[results,Tryz.results219,Tryz.results60,go_sem];rfl) rfl ?_;exact⟨rfl,(by first | exact(((aK _ _).alloc (aD _) _).alloc (by simp) _).alloc (by simp;omega) _ | exact((((aK _ _).alloc (aD _) _).alloc (by simp) _).alloc (by simp;omega) _).drew)⟩
theorem ah2 (p:bO) (na:Nat) (nb:Nat) (c:Int) (m v:Int) (w:World) (F:FuncId) (hF:F=219∨F=60) (rH:na<8) (hnb:nb<8):Calls Tryz.prog F #[.agg p.row,.agg #[I 10,I na,I nb,I c,I m],I v] w fun e w'=>e=.returned (.agg (dg p ⟨10,na,nb,c,m⟩ v).row)/\Below w.heap.size w w':=by
 have HR:=br (show dg p ⟨10,na,nb,c,m⟩ v=({ p with pc:=wrap64 (p.pc+8) }:bO) from rfl);rw[HR.o];clear HR;obtain⟨r0,r1,r2,r3,r4,r5,r6,r7,r8,r9,r10,r11,r12⟩:=qq;have rs:=mW;have e8:=qw;have e9:=qu;have e10:=qx;obtain⟨sa,ga1,ga⟩:=vU na rH;obtain⟨sb,gb1,gb⟩:=vU nb hnb;rcases hF with rfl | rfl
 all_goals
  (first | go_enter Tryz.func219,Tryz.ntmps219 | go_enter Tryz.func60,Tryz.ntmps60)
  go_wp2;refine bI (v:=.agg (({ p with pc:=wrap64 (p.pc+8) }:bO)).row) (by simp[results,Tryz.results219,Tryz.results60,go_sem];rfl) rfl ?_;exact⟨rfl,(by first | exact(((aK _ _).alloc (aD _) _).alloc (by simp) _).alloc (by simp;omega) _ | exact((((aK _ _).alloc (aD _) _).alloc (by simp) _).alloc (by simp;omega) _).drew)⟩
theorem ah1 (p:bO) (na:Nat) (b:Int) (c:Int) (m v:Int) (w:World) (F:FuncId) (hF:F=219∨F=60) (rH:na<8):Calls Tryz.prog F #[.agg p.row,.agg #[I 11,I na,I b,I c,I m],I v] w fun e w'=>e=.returned (.agg (dg p ⟨11,na,b,c,m⟩ v).row)/\Below w.heap.size w w':=by
 have HR:=br (show dg p ⟨11,na,b,c,m⟩ v=({ p with pc:=wrap64 (p.pc+8) }:bO).set na (wrap64 (p.pc+m)) from rfl);rw[HR.o];clear HR;obtain⟨r0,r1,r2,r3,r4,r5,r6,r7,r8,r9,r10,r11,r12⟩:=qq;have rs:=mW;have e8:=qw;have e9:=qu;have e10:=qx;obtain⟨sa,ga1,ga⟩:=vU na rH;rcases hF with rfl | rfl
 all_goals
  (first | go_enter Tryz.func219,Tryz.ntmps219 | go_enter Tryz.func60,Tryz.ntmps60)
  go_wp2;refine bI (v:=.agg (({ p with pc:=wrap64 (p.pc+8) }:bO).set na (wrap64 (p.pc+m))).row) (by simp[results,Tryz.results219,Tryz.results60,go_sem];rfl) rfl ?_;exact⟨rfl,(by first | exact(((aK _ _).alloc (aD _) _).alloc (by simp) _).alloc (by simp;omega) _ | exact((((aK _ _).alloc (aD _) _).alloc (by simp) _).alloc (by simp;omega) _).drew)⟩
theorem ahZ (p:bO) (a:Int) (b:Int) (c:Int) (m v:Int) (w:World) (F:FuncId) (hF:F=219∨F=60):Calls Tryz.prog F #[.agg p.row,.agg #[I 12,I a,I b,I c,I m],I v] w fun e w'=>e=.returned (.agg (dg p ⟨12,a,b,c,m⟩ v).row)/\Below w.heap.size w w':=by
 have HR:=br (show dg p ⟨12,a,b,c,m⟩ v=({ p with pc:=wrap64 (p.pc+m) }:bO) from rfl);rw[HR.o];clear HR;obtain⟨r0,r1,r2,r3,r4,r5,r6,r7,r8,r9,r10,r11,r12⟩:=qq;have rs:=mW;have e8:=qw;have e9:=qu;have e10:=qx;rcases hF with rfl | rfl
 all_goals
  (first | go_enter Tryz.func219,Tryz.ntmps219 | go_enter Tryz.func60,Tryz.ntmps60)
  go_wp2;refine bI (v:=.agg (({ p with pc:=wrap64 (p.pc+m) }:bO)).row) (by simp[results,Tryz.results219,Tryz.results60,go_sem];rfl) rfl ?_;exact⟨rfl,(by first | exact(((aK _ _).alloc (aD _) _).alloc (by simp) _).alloc (by simp;omega) _ | exact((((aK _ _).alloc (aD _) _).alloc (by simp) _).alloc (by simp;omega) _).drew)⟩
theorem ahY (p:bO) (na:Nat) (b:Int) (c:Int) (m v:Int) (w:World) (F:FuncId) (hF:F=219∨F=60) (rH:na<8):Calls Tryz.prog F #[.agg p.row,.agg #[I 15,I na,I b,I c,I m],I v] w fun e w'=>e=.returned (.agg (dg p ⟨15,na,b,c,m⟩ v).row)/\Below w.heap.size w w':=by
 have HR:=br (show dg p ⟨15,na,b,c,m⟩ v=({ p with pc:=p.r na }:bO) from rfl);rw[HR.o];clear HR;obtain⟨r0,r1,r2,r3,r4,r5,r6,r7,r8,r9,r10,r11,r12⟩:=qq;have rs:=mW;have e8:=qw;have e9:=qu;have e10:=qx;obtain⟨sa,ga1,ga⟩:=vU na rH;rcases hF with rfl | rfl
 all_goals
  (first | go_enter Tryz.func219,Tryz.ntmps219 | go_enter Tryz.func60,Tryz.ntmps60)
  go_wp2;refine bI (v:=.agg (({ p with pc:=p.r na }:bO)).row) (by simp[results,Tryz.results219,Tryz.results60,go_sem];rfl) rfl ?_;exact⟨rfl,(by first | exact(((aK _ _).alloc (aD _) _).alloc (by simp) _).alloc (by simp;omega) _ | exact((((aK _ _).alloc (aD _) _).alloc (by simp) _).alloc (by simp;omega) _).drew)⟩
open Go.RowKit
theorem Mv (op:Int) (F G:FuncId) (q p:bO) (na:Nat) (nb:Nat) (nc:Nat) (m v:Int) (w:World) (h:op=2∨op=3∨op=4∨op=5∨op=6∨op=7) (hF:(F=219/\q={ p with pc:=wrap64 (p.pc+8) }/\G=231)∨(F=60/\p=q/\G=108)) (rH:na<8) (hnb:nb<8) (hnc:nc<8):Calls Tryz.prog F #[.agg p.row,.agg #[I op,I na,I nb,I nc,I m],I v] w fun e w'=>e=.returned (.agg (dg p ⟨op,na,nb,nc,m⟩ v).row)/\Below w.heap.size w w':=by
 have HR:=br (show dg p ⟨op,na,nb,nc,m⟩ v=({ p with pc:=wrap64 (p.pc+8) }:bO).set na (Np op (p.r nb) (p.r nc)) from by rcases h with rfl | rfl | rfl | rfl | rfl | rfl <;> rfl);rw[HR.o];clear HR;have HRK:=br (fun w=>SH G op (p.r nb) (p.r nc) w (by rcases hF with⟨_,_,rfl⟩ | ⟨_,_,rfl⟩ <;> simp) h);obtain⟨Y,hY⟩:=ex ((Np op (p.r nb) (p.r nc)));rw[<- hY] at HRK ⊢;clear hY;have hqr:∀n,q.r n=p.r n:=fun n=>by rcases hF with⟨_,rfl,_⟩ | ⟨_,rfl,_⟩ <;> rfl
 obtain⟨r0,r1,r2,r3,r4,r5,r6,r7,r8,r9,r10,r11,r12⟩:=qq;have rs:=mW;have e8:=qw;have e9:=qu;have e10:=qx;obtain⟨sa,ga1,ga⟩:=vU na rH;have ba0:(0:Int)<=(na:Int):=by omega
 have ba1:(na:Int)<8:=by omega
 obtain⟨sb,gb1,gb⟩:=vU nb hnb;have bb0:(0:Int)<=(nb:Int):=by omega
 have bb1:(nb:Int)<8:=by omega
 obtain⟨sc,gc1,gc⟩:=vU nc hnc;have bc0:(0:Int)<=(nc:Int):=by omega
 have bc1:(nc:Int)<8:=by omega
 have BP:=br (bk (bk (bB w q.row 77) (.cells #[I op,I na,I nb,I nc,I m] 108)) (.cells #[I 0,I 0,I 0,I 0,I 0,I 0,I 0,I 0,I 0,I 0,I 0,I 0,I 0] 77));have BI:=br (bk (bB (w.alloc (.cells q.row 77)) #[I op,I na,I nb,I nc,I m] 108) (.cells #[I 0,I 0,I 0,I 0,I 0,I 0,I 0,I 0,I 0,I 0,I 0,I 0,I 0] 77));rw[gh] at BI;obtain⟨W,hW⟩:=ex ((((w.alloc (.cells q.row 77)).alloc (.cells #[I op,I na,I nb,I nc,I m] 108)).alloc (.cells #[I 0,I 0,I 0,I 0,I 0,I 0,I 0,I 0,I 0,I 0,I 0,I 0,I 0] 77)));have HW:=br hW;rw[<- hW] at BP BI;clear hW;have k0:W.cell? (Ad (w.heap.size+1) 0)=some (I op):=aq BI.o 0 rfl;have k1:W.cell? (Ad (w.heap.size+1) 1)=some (I (na)):=aq BI.o 1 rfl;have k2:W.cell? (Ad (w.heap.size+1) 2)=some (I (nb)):=aq BI.o 2 rfl;have k3:W.cell? (Ad (w.heap.size+1) 3)=some (I (nc)):=aq BI.o 3 rfl;have k4:W.cell? (Ad w.heap.size nb)=some (I (p.r nb)):=(aq BP.o nb (gb1 _)).trans (by rw[hqr]);have k5:W.cell? (Ad w.heap.size nc)=some (I (p.r nc)):=(aq BP.o nc (gc1 _)).trans (by rw[hqr]);clear hqr;rcases hF with⟨rfl,rfl,rfl⟩ | ⟨rfl,rfl,rfl⟩ <;> rcases h with rfl | rfl | rfl | rfl | rfl | rfl
 all_goals
  as_aux_lemma =>
   (first | go_enter Tryz.func219,Tryz.ntmps219 | go_enter Tryz.func60,Tryz.ntmps60)
   go_wp2_with fail
   rw[<- HW.o];refine wp_region_still_tail 17 (by kernel_rfl) (by kernel_rfl) ?_;simp only[Vm,List.take_zero,Vn,List.drop_zero];show wpStill _ _ W.drew _ _ _
   repeat (first | still_step | still_call (HRK.o _))
   refine wpStill_nil ?_;show wpList _ _ _ _ _ W.drew;rw[HW.o];clear HW BP BI k0 k1 k2 k3 k4 k5;go_wp2;refine bI (v:=.agg (({ p with pc:=wrap64 (p.pc+8) }:bO).set na Y).row) (by simp[results,Tryz.results219,Tryz.results60,go_sem];rfl) rfl ?_;exact⟨rfl,(by first | exact(((aK _ _).alloc (aD _) _).alloc (by simp) _).alloc (by simp;omega) _ | exact((((aK _ _).alloc (aD _) _).alloc (by simp) _).alloc (by simp;omega) _).drew)⟩
open Go.RowKit
theorem VE (op:Int) (F:FuncId) (q p:bO) (na nb:Nat) (c m v d:Int) (t:Bool) (w:World) (rH:na<8) (hnb:nb<8) (hO:(op=13/\(p.r na==p.r nb)=t)∨(op=14/\decide (p.r na<p.r nb)=t)) (hT:(t=true/\d=m)∨(t=false/\d=8)) (hF:(F=219/\q={ p with pc:=wrap64 (p.pc+8) })∨(F=60/\p=q)) :
  Calls Tryz.prog F #[.agg p.row,.agg #[I op,I na,I nb,I c,I m],I v] w fun e w'=>e=.returned (.agg ({ p with pc:=wrap64 (p.pc+d) }:bO).row)/\Below w.heap.size w w':=by
 have hqr:∀n,q.r n=p.r n:=fun n=>by rcases hF with⟨_,rfl⟩ | ⟨_,rfl⟩ <;> rfl
 obtain⟨Y,hY⟩:=ex (Value.agg ({ p with pc:=wrap64 (p.pc+d) }:bO).row);have HY:=br hY;rw[<- hY];clear hY;obtain⟨r0,r1,r2,r3,r4,r5,r6,r7,r8,r9,r10,r11,r12⟩:=qq;have rs:=mW;have e8:=qw;have e9:=qu;have e10:=qx;obtain⟨sa,ga1,ga⟩:=vU na rH;have ba0:(0:Int)<=(na:Int):=by omega
 have ba1:(na:Int)<8:=by omega
 obtain⟨sb,gb1,gb⟩:=vU nb hnb;have bb0:(0:Int)<=(nb:Int):=by omega
 have bb1:(nb:Int)<8:=by omega
 have BP:=br (bk (bk (bB w q.row 77) (.cells #[I op,I na,I nb,I c,I m] 108)) (.cells #[I 0,I 0,I 0,I 0,I 0,I 0,I 0,I 0,I 0,I 0,I 0,I 0,I 0] 77));have BI:=br (bk (bB (w.alloc (.cells q.row 77)) #[I op,I na,I nb,I c,I m] 108) (.cells #[I 0,I 0,I 0,I 0,I 0,I 0,I 0,I 0,I 0,I 0,I 0,I 0,I 0] 77));rw[gh] at BI;obtain⟨W,hW⟩:=ex ((((w.alloc (.cells q.row 77)).alloc (.cells #[I op,I na,I nb,I c,I m] 108)).alloc (.cells #[I 0,I 0,I 0,I 0,I 0,I 0,I 0,I 0,I 0,I 0,I 0,I 0,I 0] 77)));have HW:=br hW;rw[<- hW] at BP BI;clear hW;have k0:W.cell? (Ad (w.heap.size+1) 0)=some (I op):=aq BI.o 0 rfl;have k1:W.cell? (Ad (w.heap.size+1) 1)=some (I (na)):=aq BI.o 1 rfl;have k2:W.cell? (Ad (w.heap.size+1) 2)=some (I (nb)):=aq BI.o 2 rfl;have k3:W.cell? (Ad w.heap.size na)=some (I (p.r na)):=(aq BP.o na (ga1 _)).trans (by rw[hqr]);have k4:W.cell? (Ad w.heap.size nb)=some (I (p.r nb)):=(aq BP.o nb (gb1 _)).trans (by rw[hqr]);have HH:Hid (∀V,Calls Tryz.prog 232 #[I op,I (p.r na),I (p.r nb)] V fun e w'=>e=.returned (.bool t)/\w'=V):=fun V=>by
  rcases hO with⟨rfl,h⟩ | ⟨rfl,h⟩
  · exact(abf (p.r na) (p.r nb) V).mono fun e w' g=>⟨by rw[g.1,<- h];rfl,g.2.symm⟩
  · exact(abe (p.r na) (p.r nb) V).mono fun e w' g=>⟨by rw[g.1,<- h],g.2.symm⟩
 clear hqr;rcases hF with⟨rfl,rfl⟩ | ⟨rfl,rfl⟩ <;> rcases hT with⟨rfl,rfl⟩ | ⟨rfl,rfl⟩ <;> rcases hO with⟨rfl,hq⟩ | ⟨rfl,hq⟩
 all_goals
  (first | go_enter Tryz.func219,Tryz.ntmps219 | go_enter Tryz.func60,Tryz.ntmps60)
  go_wp2_with fail
  rw[<- HW.o];refine wp_region_still_lit (by kernel_rfl) (by kernel_rfl) ?_;show wpStill _ _ W.drew _ _ _
  repeat (first | still_step | still_call (HH.o _))
  refine wpStill_nil ?_;show Exit.then _ _ _ _ W.drew;rw[HW.o];clear HW BP BI k0 k1 k2 k3 k4;go_wp2;refine bI (v:=Y) (by rw[HY.o];simp[results,Tryz.results219,Tryz.results60,go_sem];rfl) rfl ?_;exact⟨rfl,(by first | exact(((aK _ _).alloc (aD _) _).alloc (by simp) _).alloc (by simp;omega) _ | exact((((aK _ _).alloc (aD _) _).alloc (by simp) _).alloc (by simp;omega) _).drew)⟩
theorem ade (op:Int) (F:FuncId) (q p:bO) (na nb:Nat) (c m v:Int) (w:World) (rH:na<8) (hnb:nb<8) (h:op=13∨op=14) (hF:(F=219/\q={ p with pc:=wrap64 (p.pc+8) })∨(F=60/\p=q)) :
  Calls Tryz.prog F #[.agg p.row,.agg #[I op,I na,I nb,I c,I m],I v] w fun e w'=>e=.returned (.agg (dg p ⟨op,na,nb,c,m⟩ v).row)/\Below w.heap.size w w':=by
 rcases h with rfl | rfl
 · by_cases g:p.r na=p.r nb
   · rw[show dg p ⟨13,na,nb,c,m⟩ v={ p with pc:=wrap64 (p.pc+m) } from aB g];exact VE 13 F q p na nb c m v m true w rH hnb (.inl ⟨rfl,by simpa using g⟩) (.inl ⟨rfl,rfl⟩) hF
   · rw[show dg p ⟨13,na,nb,c,m⟩ v={ p with pc:=wrap64 (p.pc+8) } from au g];exact VE 13 F q p na nb c m v 8 false w rH hnb (.inl ⟨rfl,by simpa using g⟩) (.inr ⟨rfl,rfl⟩) hF
 · by_cases g:p.r na<p.r nb
   · rw[show dg p ⟨14,na,nb,c,m⟩ v={ p with pc:=wrap64 (p.pc+m) } from aB g];exact VE 14 F q p na nb c m v m true w rH hnb (.inr ⟨rfl,by simpa using g⟩) (.inl ⟨rfl,rfl⟩) hF
   · rw[show dg p ⟨14,na,nb,c,m⟩ v={ p with pc:=wrap64 (p.pc+8) } from au g];exact VE 14 F q p na nb c m v 8 false w rH hnb (.inr ⟨rfl,by simpa using g⟩) (.inr ⟨rfl,rfl⟩) hF
open Go.RowKit
def zS (p:bO) (m v:Int):bO:=if m=6 then { p with st:=2,cd:=p.r 0 } else if m=1 then p else p.set 0 v
theorem SJ (p:bO) (m v:Int) (w:World) (h:1<=m/\m<=6):Calls Tryz.prog 233 #[.agg p.row,I m,I v] w fun e w'=>e=.returned (.agg (zS p m v).row)/\Below w.heap.size w w':=by
 obtain⟨Y,hY⟩:=ex (Value.agg (zS p m v).row);have HY:=br hY;rw[<- hY];clear hY;obtain⟨r0,r1,r2,r3,r4,r5,r6,r7,r8,r9,r10,r11,r12⟩:=qq;have rs:=mW;have e8:=qw;have e9:=qu;have e10:=qx;have s0:∀(q:bO) (v:Int),q.row.setIfInBounds 0 (I v)=(q.set 0 v).row:=fun q v=>Ql q 0 v (by omega)
 obtain rfl | rfl | rfl | rfl | rfl | rfl:m=1∨m=2∨m=3∨m=4∨m=5∨m=6:=by omega
 all_goals
  go_enter Tryz.func233,Tryz.ntmps233;go_wp2;refine bI (v:=Y) (by rw[HY.o];simp[results,Tryz.results233,go_sem];rfl) rfl ?_;exact⟨rfl,((aK _ _).alloc (aD _) _).alloc (by simp) _⟩
theorem YM (p:bO) (a b c m v:Int) (w:World) (h:1<=m/\m<=6):Calls Tryz.prog 219 #[.agg p.row,.agg #[I 16,I a,I b,I c,I m],I v] w fun e w'=>e=.returned (.agg (dg p ⟨16,a,b,c,m⟩ v).row)/\Below w.heap.size w w':=by
 have HR:=br (show dg p ⟨16,a,b,c,m⟩ v=zS ({ p with pc:=wrap64 (p.pc+8) }:bO) m v from rfl);rw[HR.o];have HC:Hid (∀V,Calls Tryz.prog 233 #[.agg (({ p with pc:=wrap64 (p.pc+8) }:bO)).row,I m,I v] V fun e w'=>e=.returned (.agg (zS ({ p with pc:=wrap64 (p.pc+8) }:bO) m v).row)/\Below V.heap.size V w'):=fun V=>SJ ({ p with pc:=wrap64 (p.pc+8) }:bO) m v V h
 clear HR;obtain⟨R,hR⟩:=ex (zS ({ p with pc:=wrap64 (p.pc+8) }:bO) m v);rw[<- hR] at HC ⊢;clear hR h;obtain⟨r0,r1,r2,r3,r4,r5,r6,r7,r8,r9,r10,r11,r12⟩:=qq;have rs:=mW;have e8:=qw;have e9:=qu;have e10:=qx;have gB:=br ((((aK w.heap.size w).alloc (aD _) (.cells (({ p with pc:=wrap64 (p.pc+8) }:bO)).row 77)).alloc (by simp) (.cells #[I 16,I a,I b,I c,I m] 108)).alloc (by simp;omega) (.cells #[I 0,I 0,I 0,I 0,I 0,I 0,I 0,I 0,I 0,I 0,I 0,I 0,I 0] 77));have BR:=br (bB ((w.alloc (.cells (({ p with pc:=wrap64 (p.pc+8) }:bO)).row 77)).alloc (.cells #[I 16,I a,I b,I c,I m] 108)) #[I 0,I 0,I 0,I 0,I 0,I 0,I 0,I 0,I 0,I 0,I 0,I 0,I 0] 77);rw[gh,gh] at BR;go_enter Tryz.func219,Tryz.ntmps219;go_wp2_with fail
 refine(HC.o _).mono ?_;rintro e w1 ⟨rfl,hb1⟩;have cH:=br (gB.o.trans (hb1.mono gB.o.size));have CL:=br (aN BR.o hb1 (aJ BR.o));clear hb1 gB BR HC;have u0:∀j,w1.frozen? (Ad (w.heap.size+1+1) j)=false:=fun j=>aO CL.o j
 have t0:w1.cell? (Ad (w.heap.size+1+1) 0)=some (I 0):=aq CL.o 0 rfl;have t1:w1.cell? (Ad (w.heap.size+1+1) 1)=some (I 0):=aq CL.o 1 rfl;have t2:w1.cell? (Ad (w.heap.size+1+1) 2)=some (I 0):=aq CL.o 2 rfl;have t3:w1.cell? (Ad (w.heap.size+1+1) 3)=some (I 0):=aq CL.o 3 rfl;have t4:w1.cell? (Ad (w.heap.size+1+1) 4)=some (I 0):=aq CL.o 4 rfl;have t5:w1.cell? (Ad (w.heap.size+1+1) 5)=some (I 0):=aq CL.o 5 rfl;have t6:w1.cell? (Ad (w.heap.size+1+1) 6)=some (I 0):=aq CL.o 6 rfl;have t7:w1.cell? (Ad (w.heap.size+1+1) 7)=some (I 0):=aq CL.o 7 rfl;have t8:w1.cell? (Ad (w.heap.size+1+1) 8)=some (I 0):=aq CL.o 8 rfl;have t9:w1.cell? (Ad (w.heap.size+1+1) 9)=some (I 0):=aq CL.o 9 rfl;have t10:w1.cell? (Ad (w.heap.size+1+1) 10)=some (I 0):=aq CL.o 10 rfl;have t11:w1.cell? (Ad (w.heap.size+1+1) 11)=some (I 0):=aq CL.o 11 rfl;have t12:w1.cell? (Ad (w.heap.size+1+1) 12)=some (I 0):=aq CL.o 12 rfl;unfold bO.row;go_wp2;refine bI (v:=.agg (R).row) (by simp[results,Tryz.results219,go_sem,t0,t1,t2,t3,t4,t5,t6,t7,t8,t9,t10,t11,t12];rfl) rfl ?_;exact⟨rfl,((((((((((((cH.o.setCell (by simp;omega) _).setCell (by simp;omega) _).setCell (by simp;omega) _).setCell (by simp;omega) _).setCell (by simp;omega) _).setCell (by simp;omega) _).setCell (by simp;omega) _).setCell (by simp;omega) _).setCell (by simp;omega) _).setCell (by simp;omega) _).setCell (by simp;omega) _).setCell (by simp;omega) _).setCell (by simp;omega) _⟩
open Go.RowKit
open Go.RowKit
theorem SK (p:bO) (i:dU) (v:Int) (w:World) (hf:i.fits) (hb:i.bad=false):Calls Tryz.prog 219 #[.agg p.row,.agg i.cells,I v] w fun e w'=>e=.returned (.agg (dg p i v).row)/\Below w.heap.size w w':=by
 obtain⟨op,a,b,c,m⟩:=i;obtain⟨-,ha,hb',hc,-⟩:=hf;rcases Nk op with h | h | h | h | h | h | h | h | h | h | h | h | h | h | h | h | h
 · rw[Nn _ h] at hb;cases hb
 · subst h;obtain⟨na,rfl,rH⟩:=gG ha (qU hb);exact aj9 p na b c m v w _ (.inl rfl) rH
 · subst h;have hb2:¬(8<=a∨8<=b∨8<=c):=qU hb;obtain⟨na,rfl,rH⟩:=gG ha (fun h=>hb2 (.inl h));obtain⟨nb,rfl,hnb⟩:=gG hb' (fun h=>hb2 (.inr (.inl h)));obtain⟨nc,rfl,hnc⟩:=gG hc (fun h=>hb2 (.inr (.inr h)));exact Mv 2 _ _ _ p na nb nc m v w (by simp) (.inl ⟨rfl,rfl,rfl⟩) rH hnb hnc
 · subst h;have hb2:¬(8<=a∨8<=b∨8<=c):=qU hb;obtain⟨na,rfl,rH⟩:=gG ha (fun h=>hb2 (.inl h));obtain⟨nb,rfl,hnb⟩:=gG hb' (fun h=>hb2 (.inr (.inl h)));obtain⟨nc,rfl,hnc⟩:=gG hc (fun h=>hb2 (.inr (.inr h)));exact Mv 3 _ _ _ p na nb nc m v w (by simp) (.inl ⟨rfl,rfl,rfl⟩) rH hnb hnc
 · subst h;have hb2:¬(8<=a∨8<=b∨8<=c):=qU hb;obtain⟨na,rfl,rH⟩:=gG ha (fun h=>hb2 (.inl h));obtain⟨nb,rfl,hnb⟩:=gG hb' (fun h=>hb2 (.inr (.inl h)));obtain⟨nc,rfl,hnc⟩:=gG hc (fun h=>hb2 (.inr (.inr h)));exact Mv 4 _ _ _ p na nb nc m v w (by simp) (.inl ⟨rfl,rfl,rfl⟩) rH hnb hnc
 · subst h;have hb2:¬(8<=a∨8<=b∨8<=c):=qU hb;obtain⟨na,rfl,rH⟩:=gG ha (fun h=>hb2 (.inl h));obtain⟨nb,rfl,hnb⟩:=gG hb' (fun h=>hb2 (.inr (.inl h)));obtain⟨nc,rfl,hnc⟩:=gG hc (fun h=>hb2 (.inr (.inr h)));exact Mv 5 _ _ _ p na nb nc m v w (by simp) (.inl ⟨rfl,rfl,rfl⟩) rH hnb hnc
 · subst h;have hb2:¬(8<=a∨8<=b∨8<=c):=qU hb;obtain⟨na,rfl,rH⟩:=gG ha (fun h=>hb2 (.inl h));obtain⟨nb,rfl,hnb⟩:=gG hb' (fun h=>hb2 (.inr (.inl h)));obtain⟨nc,rfl,hnc⟩:=gG hc (fun h=>hb2 (.inr (.inr h)));exact Mv 6 _ _ _ p na nb nc m v w (by simp) (.inl ⟨rfl,rfl,rfl⟩) rH hnb hnc
 · subst h;have hb2:¬(8<=a∨8<=b∨8<=c):=qU hb;obtain⟨na,rfl,rH⟩:=gG ha (fun h=>hb2 (.inl h));obtain⟨nb,rfl,hnb⟩:=gG hb' (fun h=>hb2 (.inr (.inl h)));obtain⟨nc,rfl,hnc⟩:=gG hc (fun h=>hb2 (.inr (.inr h)));exact Mv 7 _ _ _ p na nb nc m v w (by simp) (.inl ⟨rfl,rfl,rfl⟩) rH hnb hnc
 · subst h;have hb2:¬(8<=a∨8<=b):=qU hb;obtain⟨na,rfl,rH⟩:=gG ha (fun h=>hb2 (.inl h));obtain⟨nb,rfl,hnb⟩:=gG hb' (fun h=>hb2 (.inr h));exact aj8 p na nb c m v w _ (.inl rfl) rH hnb
 · subst h;have hb3:(decide (8<=a∨8<=b) || !(oD c))=false:=hb;have hb2:¬(8<=a∨8<=b):=qU (J1.1 hb3).1;obtain⟨na,rfl,rH⟩:=gG ha (fun h=>hb2 (.inl h));obtain⟨nb,rfl,hnb⟩:=gG hb' (fun h=>hb2 (.inr h));exact aj7 p na nb c m v w _ (.inl rfl) rH hnb
 · subst h;have hb3:(decide (8<=a∨8<=b) || !(oD c))=false:=hb;have hb2:¬(8<=a∨8<=b):=qU (J1.1 hb3).1;obtain⟨na,rfl,rH⟩:=gG ha (fun h=>hb2 (.inl h));obtain⟨nb,rfl,hnb⟩:=gG hb' (fun h=>hb2 (.inr h));exact ah2 p na nb c m v w _ (.inl rfl) rH hnb
 · subst h;obtain⟨na,rfl,rH⟩:=gG ha (qU hb);exact ah1 p na b c m v w _ (.inl rfl) rH
 · subst h;exact ahZ p a b c m v w _ (.inl rfl)
 · subst h;have hb2:¬(8<=a∨8<=b):=qU hb;obtain⟨na,rfl,rH⟩:=gG ha (fun h=>hb2 (.inl h));obtain⟨nb,rfl,hnb⟩:=gG hb' (fun h=>hb2 (.inr h));exact ade 13 _ _ p na nb c m v w rH hnb (by simp) (.inl ⟨rfl,rfl⟩)
 · subst h;have hb2:¬(8<=a∨8<=b):=qU hb;obtain⟨na,rfl,rH⟩:=gG ha (fun h=>hb2 (.inl h));obtain⟨nb,rfl,hnb⟩:=gG hb' (fun h=>hb2 (.inr h));exact ade 14 _ _ p na nb c m v w rH hnb (by simp) (.inl ⟨rfl,rfl⟩)
 · subst h;obtain⟨na,rfl,rH⟩:=gG ha (qU hb);exact ahY p na b c m v w _ (.inl rfl) rH
 · subst h;have hb3:(!(decide (1<=m/\m<=6)))=false:=hb;exact YM p a b c m v w (by simpa using hb3)
theorem Qk {N g:Nat} {w W:World} (h:Below N w W) (hg:N<=g) (v0 v1 v2 v3 v4 v5 v6 v7 v8 v9 v10 v11 v12:Value):Below N w (((((((((((((W.setCell (Ad g 0) v0).setCell (Ad g 1) v1).setCell (Ad g 2) v2).setCell (Ad g 3) v3).setCell (Ad g 4) v4).setCell (Ad g 5) v5).setCell (Ad g 6) v6).setCell (Ad g 7) v7).setCell (Ad g 8) v8).setCell (Ad g 9) v9).setCell (Ad g 10) v10).setCell (Ad g 11) v11).setCell (Ad g 12) v12) :=
 (((((((((((((h.setCell (p:=(Ad g 0)) hg v0).setCell (p:=(Ad g 1)) hg v1).setCell (p:=(Ad g 2)) hg v2).setCell (p:=(Ad g 3)) hg v3).setCell (p:=(Ad g 4)) hg v4).setCell (p:=(Ad g 5)) hg v5).setCell (p:=(Ad g 6)) hg v6).setCell (p:=(Ad g 7)) hg v7).setCell (p:=(Ad g 8)) hg v8).setCell (p:=(Ad g 9)) hg v9).setCell (p:=(Ad g 10)) hg v10).setCell (p:=(Ad g 11)) hg v11).setCell (p:=(Ad g 12)) hg v12)
theorem YL (p:bO) (s:ByteArray) (v:Int) (w:World) (h:s.size=8) (bad:(ik s).bad=false):Calls Tryz.prog 197 #[p.val,.string s,I v] w fun e w'=>e=.returned (.tuple #[.agg (dg p (ik s) v).row,I 0])/\Below w.heap.size w w':=by
 have HD:=br (fun V=>Ie s V h);have hfit:=A4 s h;obtain⟨i,hi⟩:=ex (ik s);rw[<- hi] at HD hfit bad ⊢;have HK:=br (fun V=>Kh i V hfit);have arf:=br bad;clear hi h;have HN:=br (fun V=>SK p i v V hfit bad);rw[bad] at HK;obtain⟨R,hR⟩:=ex (dg p i v);rw[<- hR] at HN ⊢;obtain⟨op,a,b,c,m⟩:=i;unfold dU.cells at HD HK HN;simp only at HD HK HN;clear hfit bad arf hR;have gB:=br (((aK w.heap.size w).alloc (aD _) (.cells p.row 77)).alloc (by simp) (.cells #[I 0,I 0,I 0,I 0,I 0,I 0,I 0,I 0,I 0,I 0,I 0,I 0,I 0] 77));have BP:=br (bk (bB w p.row 77) (.cells #[I 0,I 0,I 0,I 0,I 0,I 0,I 0,I 0,I 0,I 0,I 0,I 0,I 0] 77));have BR:=br (bB (w.alloc (.cells p.row 77)) #[I 0,I 0,I 0,I 0,I 0,I 0,I 0,I 0,I 0,I 0,I 0,I 0,I 0] 77);rw[gh] at BR;unfold bO.val;go_enter Tryz.func197,Tryz.ntmps197;go_wp2_with fail
 refine(HD.o _).mono ?_;rintro e w1 ⟨rfl,hb1⟩;have cH:=br (gB.o.trans (hb1.mono gB.o.size));have Yq:=br (aN BP.o hb1 (aJ BP.o));have CL:=br (aN BR.o hb1 (aJ BR.o));have MZ:=br ((aK w1.heap.size w1).alloc (aD _) (.cells #[I op,I a,I b,I c,I m] 108));have Sj:=br (bB w1 #[I op,I a,I b,I c,I m] 108);clear hb1;go_wp2_with fail
 refine(HK.o _).mono ?_;rintro e w2 ⟨rfl,hb2⟩;have gK:=br (cH.o.trans ((MZ.o.trans (hb2.mono MZ.o.size)).mono cH.o.size));have Oj:=br (aN (bk Yq.o _) hb2 (aJ (bk Yq.o _)));have JS:=br (aN (bk CL.o _) hb2 (aJ (bk CL.o _)));have Ya:=br (aN Sj.o hb2 (aJ Sj.o));clear hb2 MZ CL Yq gB BP BR HD HK cH Sj;have p0:w2.cell? (Ad w.heap.size 0)=some (I (p.r 0)):=aq Oj.o 0 rfl;have p1:w2.cell? (Ad w.heap.size 1)=some (I (p.r 1)):=aq Oj.o 1 rfl;have p2:w2.cell? (Ad w.heap.size 2)=some (I (p.r 2)):=aq Oj.o 2 rfl;have p3:w2.cell? (Ad w.heap.size 3)=some (I (p.r 3)):=aq Oj.o 3 rfl;have p4:w2.cell? (Ad w.heap.size 4)=some (I (p.r 4)):=aq Oj.o 4 rfl;have p5:w2.cell? (Ad w.heap.size 5)=some (I (p.r 5)):=aq Oj.o 5 rfl;have p6:w2.cell? (Ad w.heap.size 6)=some (I (p.r 6)):=aq Oj.o 6 rfl;have p7:w2.cell? (Ad w.heap.size 7)=some (I (p.r 7)):=aq Oj.o 7 rfl;have p8:w2.cell? (Ad w.heap.size 8)=some (I p.pc):=aq Oj.o 8 rfl;have p9:w2.cell? (Ad w.heap.size 9)=some (I p.st):=aq Oj.o 9 rfl;have p10:w2.cell? (Ad w.heap.size 10)=some (I p.cd):=aq Oj.o 10 rfl;have p11:w2.cell? (Ad w.heap.size 11)=some (I p.fk):=aq Oj.o 11 rfl;have p12:w2.cell? (Ad w.heap.size 12)=some (I p.fa):=aq Oj.o 12 rfl;obtain⟨i0,i1,i2,i3,i4⟩:=iT Ya.o;unfold bO.row at HN;go_wp2_with fail
 refine(HN.o _).mono ?_;rintro e w3 ⟨rfl,hb3⟩;have mQ:=br (gK.o.trans (hb3.mono gK.o.size));have JO:=br (aN JS.o hb3 (aJ JS.o));have t0:w3.cell? (Ad (w.heap.size+1) 0)=some (I 0):=aq JO.o 0 rfl;have t1:w3.cell? (Ad (w.heap.size+1) 1)=some (I 0):=aq JO.o 1 rfl;have t2:w3.cell? (Ad (w.heap.size+1) 2)=some (I 0):=aq JO.o 2 rfl;have t3:w3.cell? (Ad (w.heap.size+1) 3)=some (I 0):=aq JO.o 3 rfl;have t4:w3.cell? (Ad (w.heap.size+1) 4)=some (I 0):=aq JO.o 4 rfl;have t5:w3.cell? (Ad (w.heap.size+1) 5)=some (I 0):=aq JO.o 5 rfl;have t6:w3.cell? (Ad (w.heap.size+1) 6)=some (I 0):=aq JO.o 6 rfl;have t7:w3.cell? (Ad (w.heap.size+1) 7)=some (I 0):=aq JO.o 7 rfl;have t8:w3.cell? (Ad (w.heap.size+1) 8)=some (I 0):=aq JO.o 8 rfl;have t9:w3.cell? (Ad (w.heap.size+1) 9)=some (I 0):=aq JO.o 9 rfl;have t10:w3.cell? (Ad (w.heap.size+1) 10)=some (I 0):=aq JO.o 10 rfl;have t11:w3.cell? (Ad (w.heap.size+1) 11)=some (I 0):=aq JO.o 11 rfl;have t12:w3.cell? (Ad (w.heap.size+1) 12)=some (I 0):=aq JO.o 12 rfl;have u0:∀j,w3.frozen? (Ad (w.heap.size+1) j)=false:=fun j=>aO JO.o j
 clear hb3 HN;go_wp2;refine bI (v:=.tuple #[.agg R.row,I 0]) (by simp[results,Tryz.results197,go_sem,t0,t1,t2,t3,t4,t5,t6,t7,t8,t9,t10,t11,t12];rfl) rfl ?_;exact⟨rfl,Qk mQ.o (kZ _) _ _ _ _ _ _ _ _ _ _ _ _ _⟩
end Go.Proofs.YtlgoihmkgaaemaaGreat
