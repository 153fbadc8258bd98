import Derived.Test.YtlgoihmkgaaemaaGreatGN30
import Derived.StillTailTactics
set_option maxHeartbeats 20000000
set_option linter.unusedVariables false
set_option maxRecDepth 100000
set_option linter.unusedSimpArgs false
namespace Go.Proofs.YtlgoihmkgaaemaaGreat
open Go.RowKit
def Fh (i:ed):Int:=if i.bad then 4 else if i.op=9 then 1 else if i.op=10 then 2 else if i.op=16 then 3 else 0
theorem Sn (i:ed) (w:World) (hi:i.fits):Calls Tryz.prog 194 #[.agg i.cells] w fun e w'=>e=.returned (I (Fh i))/\Below w.heap.size w w':=by
 have HB:=bD (fun V=>J4 i V hi);have HK:Hid (Fh i=if i.bad then 4 else if i.op=9 then 1 else if i.op=10 then 2 else if i.op=16 then 3 else 0):=rfl;obtain⟨op,a,b,c,m⟩:=i;unfold ed.cells at HB ⊢;simp only at HB HK ⊢;obtain⟨K,hK⟩:=ex (Fh ⟨op,a,b,c,m⟩);obtain⟨D,hD⟩:=ex (ed.bad ⟨op,a,b,c,m⟩);rw[<- hK] at HK ⊢;rw[<- hD] at HK HB;clear hK hD hi;have gK:=bD ((aK w.heap.size w).alloc (aI _) (.cells #[I op,I a,I b,I c,I m] 108));have BX:=bD (bE w #[I op,I a,I b,I c,I m] 108);cases D
 · simp only[Bool.false_eq_true,tI] at HK;by_cases h1:op=9
   · subst h1;obtain rfl:K=1:=by rw[HK.o];rfl
     go_enter Tryz.func194,Tryz.ntmps194;go_wp2_with fail
     refine(HB.o _).mono ?_;rintro e w1 ⟨rfl,hb1⟩;have cN:=bD (gK.o.trans (hb1.mono gK.o.size));have c0:=au (aO BX.o hb1 (aJ BX.o)) 0 rfl;clear hb1;go_wp2;go_ret;exact⟨rfl,cN.o⟩
   · by_cases h2:op=10
     · subst h2;obtain rfl:K=2:=by rw[HK.o];rfl
       go_enter Tryz.func194,Tryz.ntmps194;go_wp2_with fail
       refine(HB.o _).mono ?_;rintro e w1 ⟨rfl,hb1⟩;have cN:=bD (gK.o.trans (hb1.mono gK.o.size));have c0:=au (aO BX.o hb1 (aJ BX.o)) 0 rfl;clear hb1;go_wp2;go_ret;exact⟨rfl,cN.o⟩
     · by_cases h3:op=16
       · subst h3;obtain rfl:K=3:=by rw[HK.o];rfl
         go_enter Tryz.func194,Tryz.ntmps194;go_wp2_with fail
         refine(HB.o _).mono ?_;rintro e w1 ⟨rfl,hb1⟩;have cN:=bD (gK.o.trans (hb1.mono gK.o.size));have c0:=au (aO BX.o hb1 (aJ BX.o)) 0 rfl;clear hb1;go_wp2;go_ret;exact⟨rfl,cN.o⟩
       · obtain rfl:K=0:=by rw[HK.o,aA h1,aA h2,aA h3]
         go_enter Tryz.func194,Tryz.ntmps194;go_wp2_with fail
         refine(HB.o _).mono ?_;rintro e w1 ⟨rfl,hb1⟩;have cN:=bD (gK.o.trans (hb1.mono gK.o.size));have c0:=au (aO BX.o hb1 (aJ BX.o)) 0 rfl;clear hb1;go_wp2;go_ret;exact⟨rfl,cN.o⟩
 · simp only[tH] at HK;obtain rfl:K=4:=HK.o;go_enter Tryz.func194,Tryz.ntmps194;go_wp2_with fail
   refine(HB.o _).mono ?_;rintro e w1 ⟨rfl,hb1⟩;have cN:=bD (gK.o.trans (hb1.mono gK.o.size));clear hb1;go_wp2;go_ret;exact⟨rfl,cN.o⟩
open Go.RowKit
theorem gA {x:Int} (h:qO x) (h8:¬8<=x):∃n:Nat,x=(n:Int)/\n<8:=by
 obtain⟨h0,-⟩:=h;exact⟨x.toNat,by omega,by omega⟩
theorem lR {N g:Nat} {w W:World} (h:Below N w W) (hg:N<=g) (v0 v1 v2 v3 v4:Value):Below N w (((((W.setCell (Ad g 0) v0).setCell (Ad g 1) v1).setCell (Ad g 2) v2).setCell (Ad g 3) v3).setCell (Ad g 4) v4) :=
 ((((h.setCell (p:=(Ad g 0)) hg v0).setCell (p:=(Ad g 1)) hg v1).setCell (p:=(Ad g 2)) hg v2).setCell (p:=(Ad g 3)) hg v3).setCell (p:=(Ad g 4)) hg v4
theorem aaZ (op a b c m:Int) (hi:ed.fits ⟨op,a,b,c,m⟩) (h:op=9∨op=10) (hd:ed.bad ⟨op,a,b,c,m⟩=false):∃na nb:Nat,a=(na:Int)/\b=(nb:Int)/\na<8/\nb<8:=by
 obtain⟨-,ha,hb,-⟩:=hi;have e:(decide (8<=a∨8<=b) || !(ot c))=false:=by
  rcases h with h | h <;> subst h <;> exact hd
 simp only[JQ,decide_eq_false_iff_not] at e;obtain⟨na,h1,h2⟩:=gA ha (fun h=>e.1 (.inl h));obtain⟨nb,h3,h4⟩:=gA hb (fun h=>e.1 (.inr h));exact⟨na,nb,h1,h3,h2,h4⟩
theorem aa6 (p:bT) (s:ByteArray) (w:World) (h:s.size=8):Calls Tryz.prog 149 #[p.val,.string s] w fun e w'=>e=.returned (.tuple #[.agg (pj p (iG s)),I 0])/\Below w.heap.size w w':=by
 have HD:=bD (fun V=>H4 s V h);have hfit:=AZ s h;obtain⟨i,hi⟩:=ex (iG s);rw[<- hi] at HD hfit ⊢;have HK:=bD (fun V=>Sn i V hfit);clear hi h;obtain⟨op,a,b,c,m⟩:=i;have LG:Hid (pj p ⟨op,a,b,c,m⟩=if ed.bad ⟨op,a,b,c,m⟩ then #[I 4,I 0,I 0,I 0,I 0] else if op=9 then #[I 1,I (wrap64 (p.r b.toNat+m)),I c,I 0,I 0] else if op=10 then #[I 2,I (wrap64 (p.r b.toNat+m)),I c,I (p.r a.toNat),I 0] else if op=16 then #[I 3,I 0,I 0,I 0,I m] else #[I 0,I 0,I 0,I 0,I 0]):=rfl;have HRg:=bD (aaZ op a b c m hfit);have HKN:Hid (Fh ⟨op,a,b,c,m⟩=if ed.bad ⟨op,a,b,c,m⟩ then 4 else if op=9 then 1 else if op=10 then 2 else if op=16 then 3 else 0):=rfl;obtain⟨K,hK⟩:=ex (Fh ⟨op,a,b,c,m⟩);obtain⟨D,hD⟩:=ex (ed.bad ⟨op,a,b,c,m⟩);obtain⟨Q,hQ⟩:=ex (pj p ⟨op,a,b,c,m⟩);rw[<- hQ] at LG ⊢;rw[<- hK] at HKN HK;rw[<- hD] at HKN LG HRg;clear hK hD hQ hfit;unfold ed.cells at HD HK;simp only at HD HK;have gK:=bD (((aK w.heap.size w).alloc (aI _) (.cells p.row 77)).alloc (by simp) (.cells #[I 0,I 0,I 0,I 0,I 0] 110));have BP:=bD (br (bE w p.row 77) (.cells #[I 0,I 0,I 0,I 0,I 0] 110));have BR:=bD (bE (w.alloc (.cells p.row 77)) #[I 0,I 0,I 0,I 0,I 0] 110);rw[fF] at BR;unfold bT.val;cases D
 · simp only[Bool.false_eq_true,tI] at HKN LG;by_cases h1:op=9
   · obtain⟨na,nb,rfl,rfl,rz,hnb⟩:=HRg.o (.inl h1) rfl;subst h1;obtain rfl:K=1:=HKN.o;obtain rfl:=LG.o;clear HRg HKN LG;rw[lM];go_enter Tryz.func149,Tryz.ntmps149;go_wp2_with fail
     refine(HD.o _).mono ?_;rintro e w1 ⟨rfl,hb1⟩;have cN:=bD (gK.o.trans (hb1.mono gK.o.size));have XY:=bD (aO BP.o hb1 (aJ BP.o));have CK:=bD (aO BR.o hb1 (aJ BR.o));have Ro:=bD ((aK w1.heap.size w1).alloc (aI _) (.cells #[I 9,I na,I nb,I c,I m] 108));have RQ:=bD (bE w1 #[I 9,I na,I nb,I c,I m] 108);clear hb1;go_wp2_with fail
     refine(HK.o _).mono ?_;rintro e w2 ⟨rfl,hb2⟩;have gQ:=bD (cN.o.trans ((Ro.o.trans (hb2.mono Ro.o.size)).mono cN.o.size));have N4:=bD (aO (br XY.o _) hb2 (aJ (br XY.o _)));have JM:=bD (aO (br CK.o _) hb2 (aJ (br CK.o _)));have XB:=bD (aO RQ.o hb2 (aJ RQ.o));have sz2:=gQ.o.size;have l0:=aJ N4.o;have l1:=aJ JM.o;have l2:=aJ XB.o;have ne1:¬w1.heap.size=w.heap.size+1:=fun h=>by have:=aJ CK.o;omega
     clear hb2 Ro RQ;obtain⟨t0,t1,t2,t3,t4⟩:=iH JM.o;have u0:∀j,w2.frozen? (Ad (w.heap.size+1) j)=false:=fun j=>aR JM.o j
     have cb:w2.cell? (Ad w.heap.size nb)=some (I (p.r nb)):=au N4.o nb (zP p nb hnb);have i2:w2.cell? (Ad w1.heap.size 2)=some (I nb):=au XB.o 2 rfl;have i3:w2.cell? (Ad w1.heap.size 3)=some (I c):=au XB.o 3 rfl;have i4:w2.cell? (Ad w1.heap.size 4)=some (I m):=au XB.o 4 rfl;go_wp2_with fail
     go_region;go_wp2;refine bO (v:=.tuple #[.agg #[I 1,I (wrap64 (p.r nb+m)),I c,I 0,I 0],I 0]) (by simp[results,Tryz.results149,go_sem,t0,t1,t2,t3,t4,l1]) rfl ?_;exact⟨rfl,(by first | exact(lR gQ.o (kV _) _ _ _ _ _).alloc (by simp;omega) _ | exact((lR gQ.o (kV _) _ _ _ _ _).alloc (by simp;omega) _).drew)⟩
   · by_cases h2:op=10
     · obtain⟨na,nb,rfl,rfl,rz,hnb⟩:=HRg.o (.inr h2) rfl;subst h2;obtain rfl:K=2:=HKN.o;obtain rfl:=LG.o;clear HRg HKN LG h1;rw[aA (by decide),aC rfl,lM,lM];go_enter Tryz.func149,Tryz.ntmps149;go_wp2_with fail
       refine(HD.o _).mono ?_;rintro e w1 ⟨rfl,hb1⟩;have cN:=bD (gK.o.trans (hb1.mono gK.o.size));have XY:=bD (aO BP.o hb1 (aJ BP.o));have CK:=bD (aO BR.o hb1 (aJ BR.o));have Ro:=bD ((aK w1.heap.size w1).alloc (aI _) (.cells #[I 10,I na,I nb,I c,I m] 108));have RQ:=bD (bE w1 #[I 10,I na,I nb,I c,I m] 108);clear hb1;go_wp2_with fail
       refine(HK.o _).mono ?_;rintro e w2 ⟨rfl,hb2⟩;have gQ:=bD (cN.o.trans ((Ro.o.trans (hb2.mono Ro.o.size)).mono cN.o.size));have N4:=bD (aO (br XY.o _) hb2 (aJ (br XY.o _)));have JM:=bD (aO (br CK.o _) hb2 (aJ (br CK.o _)));have XB:=bD (aO RQ.o hb2 (aJ RQ.o));have sz2:=gQ.o.size;have l0:=aJ N4.o;have l1:=aJ JM.o;have l2:=aJ XB.o;have ne1:¬w1.heap.size=w.heap.size+1:=fun h=>by have:=aJ CK.o;omega
       clear hb2 Ro RQ;obtain⟨t0,t1,t2,t3,t4⟩:=iH JM.o;have u0:∀j,w2.frozen? (Ad (w.heap.size+1) j)=false:=fun j=>aR JM.o j
       have ca:w2.cell? (Ad w.heap.size na)=some (I (p.r na)):=au N4.o na (zP p na rz);have i1:w2.cell? (Ad w1.heap.size 1)=some (I na):=au XB.o 1 rfl;have cb:w2.cell? (Ad w.heap.size nb)=some (I (p.r nb)):=au N4.o nb (zP p nb hnb);have i2:w2.cell? (Ad w1.heap.size 2)=some (I nb):=au XB.o 2 rfl;have i3:w2.cell? (Ad w1.heap.size 3)=some (I c):=au XB.o 3 rfl;have i4:w2.cell? (Ad w1.heap.size 4)=some (I m):=au XB.o 4 rfl;go_wp2_with fail
       go_region;go_wp2;refine bO (v:=.tuple #[.agg #[I 2,I (wrap64 (p.r nb+m)),I c,I (p.r na),I 0],I 0]) (by simp[results,Tryz.results149,go_sem,t0,t1,t2,t3,t4,l1]) rfl ?_;exact⟨rfl,(by first | exact(lR gQ.o (kV _) _ _ _ _ _).alloc (by simp;omega) _ | exact((lR gQ.o (kV _) _ _ _ _ _).alloc (by simp;omega) _).drew)⟩
     · by_cases h3:op=16
       · subst h3;obtain rfl:K=3:=HKN.o;obtain rfl:=LG.o;clear HRg HKN LG h1 h2;rw[aA (by decide),aA (by decide),aC rfl];go_enter Tryz.func149,Tryz.ntmps149;go_wp2_with fail
         refine(HD.o _).mono ?_;rintro e w1 ⟨rfl,hb1⟩;have cN:=bD (gK.o.trans (hb1.mono gK.o.size));have XY:=bD (aO BP.o hb1 (aJ BP.o));have CK:=bD (aO BR.o hb1 (aJ BR.o));have Ro:=bD ((aK w1.heap.size w1).alloc (aI _) (.cells #[I 16,I a,I b,I c,I m] 108));have RQ:=bD (bE w1 #[I 16,I a,I b,I c,I m] 108);clear hb1;go_wp2_with fail
         refine(HK.o _).mono ?_;rintro e w2 ⟨rfl,hb2⟩;have gQ:=bD (cN.o.trans ((Ro.o.trans (hb2.mono Ro.o.size)).mono cN.o.size));have N4:=bD (aO (br XY.o _) hb2 (aJ (br XY.o _)));have JM:=bD (aO (br CK.o _) hb2 (aJ (br CK.o _)));have XB:=bD (aO RQ.o hb2 (aJ RQ.o));have sz2:=gQ.o.size;have l0:=aJ N4.o;have l1:=aJ JM.o;have l2:=aJ XB.o;have ne1:¬w1.heap.size=w.heap.size+1:=fun h=>by have:=aJ CK.o;omega
         clear hb2 Ro RQ;obtain⟨t0,t1,t2,t3,t4⟩:=iH JM.o;have u0:∀j,w2.frozen? (Ad (w.heap.size+1) j)=false:=fun j=>aR JM.o j
         have i4:w2.cell? (Ad w1.heap.size 4)=some (I m):=au XB.o 4 rfl;go_wp2;refine bO (v:=.tuple #[.agg #[I 3,I 0,I 0,I 0,I m],I 0]) (by simp[results,Tryz.results149,go_sem,t0,t1,t2,t3,t4,l1]) rfl ?_;exact⟨rfl,(by first | exact(lR gQ.o (kV _) _ _ _ _ _).alloc (by simp;omega) _ | exact((lR gQ.o (kV _) _ _ _ _ _).alloc (by simp;omega) _).drew)⟩
       · obtain rfl:K=0:=by rw[HKN.o,aA h1,aA h2,aA h3]
         obtain rfl:Q=#[I 0,I 0,I 0,I 0,I 0]:=by rw[LG.o,aA h1,aA h2,aA h3]
         clear HRg HKN LG h1 h2 h3;go_enter Tryz.func149,Tryz.ntmps149;go_wp2_with fail
         refine(HD.o _).mono ?_;rintro e w1 ⟨rfl,hb1⟩;have cN:=bD (gK.o.trans (hb1.mono gK.o.size));have XY:=bD (aO BP.o hb1 (aJ BP.o));have CK:=bD (aO BR.o hb1 (aJ BR.o));have Ro:=bD ((aK w1.heap.size w1).alloc (aI _) (.cells #[I op,I a,I b,I c,I m] 108));have RQ:=bD (bE w1 #[I op,I a,I b,I c,I m] 108);clear hb1;go_wp2_with fail
         refine(HK.o _).mono ?_;rintro e w2 ⟨rfl,hb2⟩;have gQ:=bD (cN.o.trans ((Ro.o.trans (hb2.mono Ro.o.size)).mono cN.o.size));have N4:=bD (aO (br XY.o _) hb2 (aJ (br XY.o _)));have JM:=bD (aO (br CK.o _) hb2 (aJ (br CK.o _)));have XB:=bD (aO RQ.o hb2 (aJ RQ.o));have sz2:=gQ.o.size;have l0:=aJ N4.o;have l1:=aJ JM.o;have l2:=aJ XB.o;have ne1:¬w1.heap.size=w.heap.size+1:=fun h=>by have:=aJ CK.o;omega
         clear hb2 Ro RQ;obtain⟨t0,t1,t2,t3,t4⟩:=iH JM.o;have u0:∀j,w2.frozen? (Ad (w.heap.size+1) j)=false:=fun j=>aR JM.o j
         go_wp2;refine bO (v:=.tuple #[.agg #[I 0,I 0,I 0,I 0,I 0],I 0]) (by simp[results,Tryz.results149,go_sem,t0,t1,t2,t3,t4,l1]) rfl ?_;exact⟨rfl,(by first | exact(lR gQ.o (kV _) _ _ _ _ _).alloc (by simp;omega) _ | exact((lR gQ.o (kV _) _ _ _ _ _).alloc (by simp;omega) _).drew)⟩
 · simp only[tH] at HKN LG;obtain rfl:K=4:=HKN.o;obtain rfl:=LG.o;clear HRg HKN LG;go_enter Tryz.func149,Tryz.ntmps149;go_wp2_with fail
   refine(HD.o _).mono ?_;rintro e w1 ⟨rfl,hb1⟩;have cN:=bD (gK.o.trans (hb1.mono gK.o.size));have XY:=bD (aO BP.o hb1 (aJ BP.o));have CK:=bD (aO BR.o hb1 (aJ BR.o));have Ro:=bD ((aK w1.heap.size w1).alloc (aI _) (.cells #[I op,I a,I b,I c,I m] 108));have RQ:=bD (bE w1 #[I op,I a,I b,I c,I m] 108);clear hb1;go_wp2_with fail
   refine(HK.o _).mono ?_;rintro e w2 ⟨rfl,hb2⟩;have gQ:=bD (cN.o.trans ((Ro.o.trans (hb2.mono Ro.o.size)).mono cN.o.size));have N4:=bD (aO (br XY.o _) hb2 (aJ (br XY.o _)));have JM:=bD (aO (br CK.o _) hb2 (aJ (br CK.o _)));have XB:=bD (aO RQ.o hb2 (aJ RQ.o));have sz2:=gQ.o.size;have l0:=aJ N4.o;have l1:=aJ JM.o;have l2:=aJ XB.o;have ne1:¬w1.heap.size=w.heap.size+1:=fun h=>by have:=aJ CK.o;omega
   clear hb2 Ro RQ;obtain⟨t0,t1,t2,t3,t4⟩:=iH JM.o;have u0:∀j,w2.frozen? (Ad (w.heap.size+1) j)=false:=fun j=>aR JM.o j
   go_wp2;refine bO (v:=.tuple #[.agg #[I 4,I 0,I 0,I 0,I 0],I 0]) (by simp[results,Tryz.results149,go_sem,t0,t1,t2,t3,t4,l1]) rfl ?_;exact⟨rfl,(by first | exact(lR gQ.o (kV _) _ _ _ _ _).alloc (by simp;omega) _ | exact((lR gQ.o (kV _) _ _ _ _ _).alloc (by simp;omega) _).drew)⟩
open Go.RowKit
open Go.RowKit
theorem Sm (F:FuncId) (op b c:Int) (w:World) (hF:F=231∨F=108) (h:op=2∨op=3∨op=4∨op=5∨op=6∨op=7):Calls Tryz.prog F #[I op,I b,I c] w fun e w'=>e=.returned (I (M9 op b c))/\w'=w:=by
 by_cases g:op=7
 · subst g;have h1:=Vk c;have h2:=Vl c;have h3:IntKind.u64.wrap (c%64)=c%64:=by rw[ahm];omega
   have HR:=bD (show M9 7 b c=wrap64 (IntKind.u64.wrap b/2 ^ min (c%64).toNat 64) from rfl);rw[HR.o];have h4:0<=c%64:=by omega
   obtain⟨E,hE⟩:=ex (c%64);rw[<- hE] at h1 h2 h3 h4 ⊢;clear hE h;rcases hF with rfl | rfl <;> ((first | go_enter Tryz.func231,Tryz.ntmps231 | go_enter Tryz.func108,Tryz.ntmps108);go_wp2;go_ret;exact⟨rfl,rfl⟩)
 · rcases h with rfl | rfl | rfl | rfl | rfl | h
   all_goals try rcases hF with rfl | rfl <;> ((first | go_enter Tryz.func231,Tryz.ntmps231 | go_enter Tryz.func108,Tryz.ntmps108);go_wp2;go_ret;exact⟨rfl,rfl⟩)
   exact absurd h g
theorem aa5 (a b:Int) (w:World):Calls Tryz.prog 232 #[I 13,I a,I b] w fun e w'=>e=.returned (.bool (decide (a=b)))/\w=w':=by
 go_enter Tryz.func232,Tryz.ntmps232;go_wp2;go_ret;exact⟨by first | rfl | simp[beq_eq_decide],rfl⟩
theorem aa4 (a b:Int) (w:World):Calls Tryz.prog 232 #[I 14,I a,I b] w fun e w'=>e=.returned (.bool (decide (a<b)))/\w=w':=by
 go_enter Tryz.func232,Tryz.ntmps232;go_wp2;go_ret;exact⟨by first | rfl | simp[beq_eq_decide],rfl⟩
open Go.RowKit
theorem akF (p:bT) (na:Nat) (b:Int) (c:Int) (m v:Int) (w:World) (F:FuncId) (hF:F=219∨F=60) (rz:na<8):Calls Tryz.prog F #[.agg p.row,.agg #[I 1,I na,I b,I c,I m],I v] w fun e w'=>e=.returned (.agg (cZ p ⟨1,na,b,c,m⟩ v).row)/\Below w.heap.size w w':=by
 have HR:=bD (show cZ p ⟨1,na,b,c,m⟩ v=({ p with pc:=wrap64 (p.pc+8) }:bT).set na m from rfl);rw[HR.o];clear HR;obtain⟨r0,r1,r2,r3,r4,r5,r6,r7,r8,r9,r10,r11,r12⟩:=qh;have rs:=mW;have e8:=qj;have e9:=qi;have e10:=ql;obtain⟨sa,ga1,ga⟩:=vN na rz;rcases hF with rfl | rfl
 all_goals
  (first | go_enter Tryz.func219,Tryz.ntmps219 | go_enter Tryz.func60,Tryz.ntmps60)
  go_wp2;refine bO (v:=.agg (({ p with pc:=wrap64 (p.pc+8) }:bT).set na m).row) (by simp[results,Tryz.results219,Tryz.results60,go_sem];rfl) rfl ?_;exact⟨rfl,(by first | exact(((aK _ _).alloc (aI _) _).alloc (by simp) _).alloc (by simp;omega) _ | exact((((aK _ _).alloc (aI _) _).alloc (by simp) _).alloc (by simp;omega) _).drew)⟩
theorem akE (p:bT) (na:Nat) (nb:Nat) (c:Int) (m v:Int) (w:World) (F:FuncId) (hF:F=219∨F=60) (rz:na<8) (hnb:nb<8):Calls Tryz.prog F #[.agg p.row,.agg #[I 8,I na,I nb,I c,I m],I v] w fun e w'=>e=.returned (.agg (cZ p ⟨8,na,nb,c,m⟩ v).row)/\Below w.heap.size w w':=by
 have HR:=bD (show cZ p ⟨8,na,nb,c,m⟩ v=({ p with pc:=wrap64 (p.pc+8) }:bT).set na (wrap64 (p.r nb+m)) from rfl);rw[HR.o];clear HR;obtain⟨r0,r1,r2,r3,r4,r5,r6,r7,r8,r9,r10,r11,r12⟩:=qh;have rs:=mW;have e8:=qj;have e9:=qi;have e10:=ql;obtain⟨sa,ga1,ga⟩:=vN na rz;obtain⟨sb,gb1,gb⟩:=vN nb hnb;rcases hF with rfl | rfl
 all_goals
  (first | go_enter Tryz.func219,Tryz.ntmps219 | go_enter Tryz.func60,Tryz.ntmps60)
  go_wp2_with fail
  go_region;go_wp2;refine bO (v:=.agg (({ p with pc:=wrap64 (p.pc+8) }:bT).set na (wrap64 (p.r nb+m))).row) (by simp[results,Tryz.results219,Tryz.results60,go_sem];rfl) rfl ?_;exact⟨rfl,(by first | exact(((aK _ _).alloc (aI _) _).alloc (by simp) _).alloc (by simp;omega) _ | exact((((aK _ _).alloc (aI _) _).alloc (by simp) _).alloc (by simp;omega) _).drew)⟩
theorem akD (p:bT) (na:Nat) (nb:Nat) (c:Int) (m v:Int) (w:World) (F:FuncId) (hF:F=219∨F=60) (rz:na<8) (hnb:nb<8):Calls Tryz.prog F #[.agg p.row,.agg #[I 9,I na,I nb,I c,I m],I v] w fun e w'=>e=.returned (.agg (cZ p ⟨9,na,nb,c,m⟩ v).row)/\Below w.heap.size w w':=by
 have HR:=bD (show cZ p ⟨9,na,nb,c,m⟩ v=({ p with pc:=wrap64 (p.pc+8) }:bT).set na v from rfl);rw[HR.o];clear HR;obtain⟨r0,r1,r2,r3,r4,r5,r6,r7,r8,r9,r10,r11,r12⟩:=qh;have rs:=mW;have e8:=qj;have e9:=qi;have e10:=ql;obtain⟨sa,ga1,ga⟩:=vN na rz;obtain⟨sb,gb1,gb⟩:=vN nb hnb;rcases hF with rfl | rfl
 all_goals
  (first | go_enter Tryz.func219,Tryz.ntmps219 | go_enter Tryz.func60,Tryz.ntmps60)
  go_wp2;refine bO (v:=.agg (({ p with pc:=wrap64 (p.pc+8) }:bT).set na v).row) (by simp[results,Tryz.results219,Tryz.results60,go_sem];rfl) rfl ?_;exact⟨rfl,(by first | exact(((aK _ _).alloc (aI _) _).alloc (by simp) _).alloc (by simp;omega) _ | exact((((aK _ _).alloc (aI _) _).alloc (by simp) _).alloc (by simp;omega) _).drew)⟩
theorem ahT (p:bT) (na:Nat) (nb:Nat) (c:Int) (m v:Int) (w:World) (F:FuncId) (hF:F=219∨F=60) (rz:na<8) (hnb:nb<8):Calls Tryz.prog F #[.agg p.row,.agg #[I 10,I na,I nb,I c,I m],I v] w fun e w'=>e=.returned (.agg (cZ p ⟨10,na,nb,c,m⟩ v).row)/\Below w.heap.size w w':=by
 have HR:=bD (show cZ p ⟨10,na,nb,c,m⟩ v=({ p with pc:=wrap64 (p.pc+8) }:bT) from rfl);rw[HR.o];clear HR;obtain⟨r0,r1,r2,r3,r4,r5,r6,r7,r8,r9,r10,r11,r12⟩:=qh;have rs:=mW;have e8:=qj;have e9:=qi;have e10:=ql;obtain⟨sa,ga1,ga⟩:=vN na rz;obtain⟨sb,gb1,gb⟩:=vN nb hnb;rcases hF with rfl | rfl
 all_goals
  (first | go_enter Tryz.func219,Tryz.ntmps219 | go_enter Tryz.func60,Tryz.ntmps60)
  go_wp2;refine bO (v:=.agg (({ p with pc:=wrap64 (p.pc+8) }:bT)).row) (by simp[results,Tryz.results219,Tryz.results60,go_sem];rfl) rfl ?_;exact⟨rfl,(by first | exact(((aK _ _).alloc (aI _) _).alloc (by simp) _).alloc (by simp;omega) _ | exact((((aK _ _).alloc (aI _) _).alloc (by simp) _).alloc (by simp;omega) _).drew)⟩
theorem ahS (p:bT) (na:Nat) (b:Int) (c:Int) (m v:Int) (w:World) (F:FuncId) (hF:F=219∨F=60) (rz:na<8):Calls Tryz.prog F #[.agg p.row,.agg #[I 11,I na,I b,I c,I m],I v] w fun e w'=>e=.returned (.agg (cZ p ⟨11,na,b,c,m⟩ v).row)/\Below w.heap.size w w':=by
 have HR:=bD (show cZ p ⟨11,na,b,c,m⟩ v=({ p with pc:=wrap64 (p.pc+8) }:bT).set na (wrap64 (p.pc+m)) from rfl);rw[HR.o];clear HR;obtain⟨r0,r1,r2,r3,r4,r5,r6,r7,r8,r9,r10,r11,r12⟩:=qh;have rs:=mW;have e8:=qj;have e9:=qi;have e10:=ql;obtain⟨sa,ga1,ga⟩:=vN na rz;rcases hF with rfl | rfl
 all_goals
  (first | go_enter Tryz.func219,Tryz.ntmps219 | go_enter Tryz.func60,Tryz.ntmps60)
  go_wp2;refine bO (v:=.agg (({ p with pc:=wrap64 (p.pc+8) }:bT).set na (wrap64 (p.pc+m))).row) (by simp[results,Tryz.results219,Tryz.results60,go_sem];rfl) rfl ?_;exact⟨rfl,(by first | exact(((aK _ _).alloc (aI _) _).alloc (by simp) _).alloc (by simp;omega) _ | exact((((aK _ _).alloc (aI _) _).alloc (by simp) _).alloc (by simp;omega) _).drew)⟩
theorem ahR (p:bT) (a:Int) (b:Int) (c:Int) (m v:Int) (w:World) (F:FuncId) (hF:F=219∨F=60):Calls Tryz.prog F #[.agg p.row,.agg #[I 12,I a,I b,I c,I m],I v] w fun e w'=>e=.returned (.agg (cZ p ⟨12,a,b,c,m⟩ v).row)/\Below w.heap.size w w':=by
 have HR:=bD (show cZ p ⟨12,a,b,c,m⟩ v=({ p with pc:=wrap64 (p.pc+m) }:bT) from rfl);rw[HR.o];clear HR;obtain⟨r0,r1,r2,r3,r4,r5,r6,r7,r8,r9,r10,r11,r12⟩:=qh;have rs:=mW;have e8:=qj;have e9:=qi;have e10:=ql;rcases hF with rfl | rfl
 all_goals
  (first | go_enter Tryz.func219,Tryz.ntmps219 | go_enter Tryz.func60,Tryz.ntmps60)
  go_wp2;refine bO (v:=.agg (({ p with pc:=wrap64 (p.pc+m) }:bT)).row) (by simp[results,Tryz.results219,Tryz.results60,go_sem];rfl) rfl ?_;exact⟨rfl,(by first | exact(((aK _ _).alloc (aI _) _).alloc (by simp) _).alloc (by simp;omega) _ | exact((((aK _ _).alloc (aI _) _).alloc (by simp) _).alloc (by simp;omega) _).drew)⟩
theorem ahQ (p:bT) (na:Nat) (b:Int) (c:Int) (m v:Int) (w:World) (F:FuncId) (hF:F=219∨F=60) (rz:na<8):Calls Tryz.prog F #[.agg p.row,.agg #[I 15,I na,I b,I c,I m],I v] w fun e w'=>e=.returned (.agg (cZ p ⟨15,na,b,c,m⟩ v).row)/\Below w.heap.size w w':=by
 have HR:=bD (show cZ p ⟨15,na,b,c,m⟩ v=({ p with pc:=p.r na }:bT) from rfl);rw[HR.o];clear HR;obtain⟨r0,r1,r2,r3,r4,r5,r6,r7,r8,r9,r10,r11,r12⟩:=qh;have rs:=mW;have e8:=qj;have e9:=qi;have e10:=ql;obtain⟨sa,ga1,ga⟩:=vN na rz;rcases hF with rfl | rfl
 all_goals
  (first | go_enter Tryz.func219,Tryz.ntmps219 | go_enter Tryz.func60,Tryz.ntmps60)
  go_wp2;refine bO (v:=.agg (({ p with pc:=p.r na }:bT)).row) (by simp[results,Tryz.results219,Tryz.results60,go_sem];rfl) rfl ?_;exact⟨rfl,(by first | exact(((aK _ _).alloc (aI _) _).alloc (by simp) _).alloc (by simp;omega) _ | exact((((aK _ _).alloc (aI _) _).alloc (by simp) _).alloc (by simp;omega) _).drew)⟩
open Go.RowKit
theorem Mh (op:Int) (F G:FuncId) (q p:bT) (na:Nat) (nb:Nat) (nc:Nat) (m v:Int) (w:World) (h:op=2∨op=3∨op=4∨op=5∨op=6∨op=7) (hF:(F=219/\q={ p with pc:=wrap64 (p.pc+8) }/\G=231)∨(F=60/\p=q/\G=108)) (rz:na<8) (hnb:nb<8) (hnc:nc<8):Calls Tryz.prog F #[.agg p.row,.agg #[I op,I na,I nb,I nc,I m],I v] w fun e w'=>e=.returned (.agg (cZ p ⟨op,na,nb,nc,m⟩ v).row)/\Below w.heap.size w w':=by
 have HR:=bD (show cZ p ⟨op,na,nb,nc,m⟩ v=({ p with pc:=wrap64 (p.pc+8) }:bT).set na (M9 op (p.r nb) (p.r nc)) from by rcases h with rfl | rfl | rfl | rfl | rfl | rfl <;> rfl);rw[HR.o];clear HR;have HRK:=bD (fun w=>Sm G op (p.r nb) (p.r nc) w (by rcases hF with⟨_,_,rfl⟩ | ⟨_,_,rfl⟩ <;> simp) h);obtain⟨Y,hY⟩:=ex ((M9 op (p.r nb) (p.r nc)));rw[<- hY] at HRK ⊢;clear hY;have hqr:∀n,q.r n=p.r n:=fun n=>by rcases hF with⟨_,rfl,_⟩ | ⟨_,rfl,_⟩ <;> rfl
 obtain⟨r0,r1,r2,r3,r4,r5,r6,r7,r8,r9,r10,r11,r12⟩:=qh;have rs:=mW;have e8:=qj;have e9:=qi;have e10:=ql;obtain⟨sa,ga1,ga⟩:=vN na rz;have ba0:(0:Int)<=(na:Int):=by omega
 have ba1:(na:Int)<8:=by omega
 obtain⟨sb,gb1,gb⟩:=vN nb hnb;have bb0:(0:Int)<=(nb:Int):=by omega
 have bb1:(nb:Int)<8:=by omega
 obtain⟨sc,gc1,gc⟩:=vN nc hnc;have bc0:(0:Int)<=(nc:Int):=by omega
 have bc1:(nc:Int)<8:=by omega
 have BP:=bD (br (br (bE w q.row 77) (.cells #[I op,I na,I nb,I nc,I m] 108)) (.cells #[I 0,I 0,I 0,I 0,I 0,I 0,I 0,I 0,I 0,I 0,I 0,I 0,I 0] 77));have BI:=bD (br (bE (w.alloc (.cells q.row 77)) #[I op,I na,I nb,I nc,I m] 108) (.cells #[I 0,I 0,I 0,I 0,I 0,I 0,I 0,I 0,I 0,I 0,I 0,I 0,I 0] 77));rw[fF] at BI;obtain⟨W,hW⟩:=ex ((((w.alloc (.cells q.row 77)).alloc (.cells #[I op,I na,I nb,I nc,I m] 108)).alloc (.cells #[I 0,I 0,I 0,I 0,I 0,I 0,I 0,I 0,I 0,I 0,I 0,I 0,I 0] 77)));have HW:=bD hW;rw[<- hW] at BP BI;clear hW;have k0:W.cell? (Ad (w.heap.size+1) 0)=some (I op):=au BI.o 0 rfl;have k1:W.cell? (Ad (w.heap.size+1) 1)=some (I (na)):=au BI.o 1 rfl;have k2:W.cell? (Ad (w.heap.size+1) 2)=some (I (nb)):=au BI.o 2 rfl;have k3:W.cell? (Ad (w.heap.size+1) 3)=some (I (nc)):=au BI.o 3 rfl;have k4:W.cell? (Ad w.heap.size nb)=some (I (p.r nb)):=(au BP.o nb (gb1 _)).trans (by rw[hqr]);have k5:W.cell? (Ad w.heap.size nc)=some (I (p.r nc)):=(au BP.o nc (gc1 _)).trans (by rw[hqr]);clear hqr;rcases hF with⟨rfl,rfl,rfl⟩ | ⟨rfl,rfl,rfl⟩ <;> rcases h with rfl | rfl | rfl | rfl | rfl | rfl
 all_goals
  as_aux_lemma =>
   (first | go_enter Tryz.func219,Tryz.ntmps219 | go_enter Tryz.func60,Tryz.ntmps60)
   go_wp2_with fail
   rw[<- HW.o];refine wp_region_still_tail 17 (by kernel_rfl) (by kernel_rfl) ?_;simp only[UT,List.take_zero,UW,List.drop_zero];show wpStill _ _ W.drew _ _ _
   repeat (first | still_step | still_call (HRK.o _))
   refine wpStill_nil ?_;show wpList _ _ _ _ _ W.drew;rw[HW.o];clear HW BP BI k0 k1 k2 k3 k4 k5;go_wp2;refine bO (v:=.agg (({ p with pc:=wrap64 (p.pc+8) }:bT).set na Y).row) (by simp[results,Tryz.results219,Tryz.results60,go_sem];rfl) rfl ?_;exact⟨rfl,(by first | exact(((aK _ _).alloc (aI _) _).alloc (by simp) _).alloc (by simp;omega) _ | exact((((aK _ _).alloc (aI _) _).alloc (by simp) _).alloc (by simp;omega) _).drew)⟩
open Go.RowKit
theorem Vj (op:Int) (F:FuncId) (q p:bT) (na nb:Nat) (c m v d:Int) (t:Bool) (w:World) (rz:na<8) (hnb:nb<8) (hO:(op=13/\(p.r na==p.r nb)=t)∨(op=14/\decide (p.r na<p.r nb)=t)) (hT:(t=true/\d=m)∨(t=false/\d=8)) (hF:(F=219/\q={ p with pc:=wrap64 (p.pc+8) })∨(F=60/\p=q)) :
  Calls Tryz.prog F #[.agg p.row,.agg #[I op,I na,I nb,I c,I m],I v] w fun e w'=>e=.returned (.agg ({ p with pc:=wrap64 (p.pc+d) }:bT).row)/\Below w.heap.size w w':=by
 have hqr:∀n,q.r n=p.r n:=fun n=>by rcases hF with⟨_,rfl⟩ | ⟨_,rfl⟩ <;> rfl
 obtain⟨Y,hY⟩:=ex (Value.agg ({ p with pc:=wrap64 (p.pc+d) }:bT).row);have HY:=bD hY;rw[<- hY];clear hY;obtain⟨r0,r1,r2,r3,r4,r5,r6,r7,r8,r9,r10,r11,r12⟩:=qh;have rs:=mW;have e8:=qj;have e9:=qi;have e10:=ql;obtain⟨sa,ga1,ga⟩:=vN na rz;have ba0:(0:Int)<=(na:Int):=by omega
 have ba1:(na:Int)<8:=by omega
 obtain⟨sb,gb1,gb⟩:=vN nb hnb;have bb0:(0:Int)<=(nb:Int):=by omega
 have bb1:(nb:Int)<8:=by omega
 have BP:=bD (br (br (bE w q.row 77) (.cells #[I op,I na,I nb,I c,I m] 108)) (.cells #[I 0,I 0,I 0,I 0,I 0,I 0,I 0,I 0,I 0,I 0,I 0,I 0,I 0] 77));have BI:=bD (br (bE (w.alloc (.cells q.row 77)) #[I op,I na,I nb,I c,I m] 108) (.cells #[I 0,I 0,I 0,I 0,I 0,I 0,I 0,I 0,I 0,I 0,I 0,I 0,I 0] 77));rw[fF] at BI;obtain⟨W,hW⟩:=ex ((((w.alloc (.cells q.row 77)).alloc (.cells #[I op,I na,I nb,I c,I m] 108)).alloc (.cells #[I 0,I 0,I 0,I 0,I 0,I 0,I 0,I 0,I 0,I 0,I 0,I 0,I 0] 77)));have HW:=bD hW;rw[<- hW] at BP BI;clear hW;have k0:W.cell? (Ad (w.heap.size+1) 0)=some (I op):=au BI.o 0 rfl;have k1:W.cell? (Ad (w.heap.size+1) 1)=some (I (na)):=au BI.o 1 rfl;have k2:W.cell? (Ad (w.heap.size+1) 2)=some (I (nb)):=au BI.o 2 rfl;have k3:W.cell? (Ad w.heap.size na)=some (I (p.r na)):=(au BP.o na (ga1 _)).trans (by rw[hqr]);have k4:W.cell? (Ad w.heap.size nb)=some (I (p.r nb)):=(au BP.o nb (gb1 _)).trans (by rw[hqr]);have HH:Hid (∀V,Calls Tryz.prog 232 #[I op,I (p.r na),I (p.r nb)] V fun e w'=>e=.returned (.bool t)/\w'=V):=fun V=>by
  rcases hO with⟨rfl,h⟩ | ⟨rfl,h⟩
  · exact(aa5 (p.r na) (p.r nb) V).mono fun e w' g=>⟨by rw[g.1,<- h];rfl,g.2.symm⟩
  · exact(aa4 (p.r na) (p.r nb) V).mono fun e w' g=>⟨by rw[g.1,<- h],g.2.symm⟩
 clear hqr;rcases hF with⟨rfl,rfl⟩ | ⟨rfl,rfl⟩ <;> rcases hT with⟨rfl,rfl⟩ | ⟨rfl,rfl⟩ <;> rcases hO with⟨rfl,hq⟩ | ⟨rfl,hq⟩
 all_goals
  (first | go_enter Tryz.func219,Tryz.ntmps219 | go_enter Tryz.func60,Tryz.ntmps60)
  go_wp2_with fail
  rw[<- HW.o];refine wp_region_still_lit (by kernel_rfl) (by kernel_rfl) ?_;show wpStill _ _ W.drew _ _ _
  repeat (first | still_step | still_call (HH.o _))
  refine wpStill_nil ?_;show Exit.then _ _ _ _ W.drew;rw[HW.o];clear HW BP BI k0 k1 k2 k3 k4;go_wp2;refine bO (v:=Y) (by rw[HY.o];simp[results,Tryz.results219,Tryz.results60,go_sem];rfl) rfl ?_;exact⟨rfl,(by first | exact(((aK _ _).alloc (aI _) _).alloc (by simp) _).alloc (by simp;omega) _ | exact((((aK _ _).alloc (aI _) _).alloc (by simp) _).alloc (by simp;omega) _).drew)⟩
theorem ac7 (op:Int) (F:FuncId) (q p:bT) (na nb:Nat) (c m v:Int) (w:World) (rz:na<8) (hnb:nb<8) (h:op=13∨op=14) (hF:(F=219/\q={ p with pc:=wrap64 (p.pc+8) })∨(F=60/\p=q)) :
  Calls Tryz.prog F #[.agg p.row,.agg #[I op,I na,I nb,I c,I m],I v] w fun e w'=>e=.returned (.agg (cZ p ⟨op,na,nb,c,m⟩ v).row)/\Below w.heap.size w w':=by
 rcases h with rfl | rfl
 · by_cases g:p.r na=p.r nb
   · rw[show cZ p ⟨13,na,nb,c,m⟩ v={ p with pc:=wrap64 (p.pc+m) } from aC g];exact Vj 13 F q p na nb c m v m true w rz hnb (.inl ⟨rfl,by simpa using g⟩) (.inl ⟨rfl,rfl⟩) hF
   · rw[show cZ p ⟨13,na,nb,c,m⟩ v={ p with pc:=wrap64 (p.pc+8) } from aA g];exact Vj 13 F q p na nb c m v 8 false w rz hnb (.inl ⟨rfl,by simpa using g⟩) (.inr ⟨rfl,rfl⟩) hF
 · by_cases g:p.r na<p.r nb
   · rw[show cZ p ⟨14,na,nb,c,m⟩ v={ p with pc:=wrap64 (p.pc+m) } from aC g];exact Vj 14 F q p na nb c m v m true w rz hnb (.inr ⟨rfl,by simpa using g⟩) (.inl ⟨rfl,rfl⟩) hF
   · rw[show cZ p ⟨14,na,nb,c,m⟩ v={ p with pc:=wrap64 (p.pc+8) } from aA g];exact Vj 14 F q p na nb c m v 8 false w rz hnb (.inr ⟨rfl,by simpa using g⟩) (.inr ⟨rfl,rfl⟩) hF
open Go.RowKit
def zO (p:bT) (m v:Int):bT:=if m=6 then { p with st:=2,cd:=p.r 0 } else if m=1 then p else p.set 0 v
theorem Sp (p:bT) (m v:Int) (w:World) (h:1<=m/\m<=6):Calls Tryz.prog 233 #[.agg p.row,I m,I v] w fun e w'=>e=.returned (.agg (zO p m v).row)/\Below w.heap.size w w':=by
 obtain⟨Y,hY⟩:=ex (Value.agg (zO p m v).row);have HY:=bD hY;rw[<- hY];clear hY;obtain⟨r0,r1,r2,r3,r4,r5,r6,r7,r8,r9,r10,r11,r12⟩:=qh;have rs:=mW;have e8:=qj;have e9:=qi;have e10:=ql;have s0:∀(q:bT) (v:Int),q.row.setIfInBounds 0 (I v)=(q.set 0 v).row:=fun q v=>P9 q 0 v (by omega)
 obtain rfl | rfl | rfl | rfl | rfl | rfl:m=1∨m=2∨m=3∨m=4∨m=5∨m=6:=by omega
 all_goals
  go_enter Tryz.func233,Tryz.ntmps233;go_wp2;refine bO (v:=Y) (by rw[HY.o];simp[results,Tryz.results233,go_sem];rfl) rfl ?_;exact⟨rfl,((aK _ _).alloc (aI _) _).alloc (by simp) _⟩
theorem Yw (p:bT) (a b c m v:Int) (w:World) (h:1<=m/\m<=6):Calls Tryz.prog 219 #[.agg p.row,.agg #[I 16,I a,I b,I c,I m],I v] w fun e w'=>e=.returned (.agg (cZ p ⟨16,a,b,c,m⟩ v).row)/\Below w.heap.size w w':=by
 have HR:=bD (show cZ p ⟨16,a,b,c,m⟩ v=zO ({ p with pc:=wrap64 (p.pc+8) }:bT) m v from rfl);rw[HR.o];have HC:Hid (∀V,Calls Tryz.prog 233 #[.agg (({ p with pc:=wrap64 (p.pc+8) }:bT)).row,I m,I v] V fun e w'=>e=.returned (.agg (zO ({ p with pc:=wrap64 (p.pc+8) }:bT) m v).row)/\Below V.heap.size V w'):=fun V=>Sp ({ p with pc:=wrap64 (p.pc+8) }:bT) m v V h
 clear HR;obtain⟨R,hR⟩:=ex (zO ({ p with pc:=wrap64 (p.pc+8) }:bT) m v);rw[<- hR] at HC ⊢;clear hR h;obtain⟨r0,r1,r2,r3,r4,r5,r6,r7,r8,r9,r10,r11,r12⟩:=qh;have rs:=mW;have e8:=qj;have e9:=qi;have e10:=ql;have gK:=bD ((((aK w.heap.size w).alloc (aI _) (.cells (({ p with pc:=wrap64 (p.pc+8) }:bT)).row 77)).alloc (by simp) (.cells #[I 16,I a,I b,I c,I m] 108)).alloc (by simp;omega) (.cells #[I 0,I 0,I 0,I 0,I 0,I 0,I 0,I 0,I 0,I 0,I 0,I 0,I 0] 77));have BR:=bD (bE ((w.alloc (.cells (({ p with pc:=wrap64 (p.pc+8) }:bT)).row 77)).alloc (.cells #[I 16,I a,I b,I c,I m] 108)) #[I 0,I 0,I 0,I 0,I 0,I 0,I 0,I 0,I 0,I 0,I 0,I 0,I 0] 77);rw[fF,fF] at BR;go_enter Tryz.func219,Tryz.ntmps219;go_wp2_with fail
 refine(HC.o _).mono ?_;rintro e w1 ⟨rfl,hb1⟩;have cN:=bD (gK.o.trans (hb1.mono gK.o.size));have CK:=bD (aO BR.o hb1 (aJ BR.o));clear hb1 gK BR HC;have u0:∀j,w1.frozen? (Ad (w.heap.size+1+1) j)=false:=fun j=>aR CK.o j
 have t0:w1.cell? (Ad (w.heap.size+1+1) 0)=some (I 0):=au CK.o 0 rfl;have t1:w1.cell? (Ad (w.heap.size+1+1) 1)=some (I 0):=au CK.o 1 rfl;have t2:w1.cell? (Ad (w.heap.size+1+1) 2)=some (I 0):=au CK.o 2 rfl;have t3:w1.cell? (Ad (w.heap.size+1+1) 3)=some (I 0):=au CK.o 3 rfl;have t4:w1.cell? (Ad (w.heap.size+1+1) 4)=some (I 0):=au CK.o 4 rfl;have t5:w1.cell? (Ad (w.heap.size+1+1) 5)=some (I 0):=au CK.o 5 rfl;have t6:w1.cell? (Ad (w.heap.size+1+1) 6)=some (I 0):=au CK.o 6 rfl;have t7:w1.cell? (Ad (w.heap.size+1+1) 7)=some (I 0):=au CK.o 7 rfl;have t8:w1.cell? (Ad (w.heap.size+1+1) 8)=some (I 0):=au CK.o 8 rfl;have t9:w1.cell? (Ad (w.heap.size+1+1) 9)=some (I 0):=au CK.o 9 rfl;have t10:w1.cell? (Ad (w.heap.size+1+1) 10)=some (I 0):=au CK.o 10 rfl;have t11:w1.cell? (Ad (w.heap.size+1+1) 11)=some (I 0):=au CK.o 11 rfl;have t12:w1.cell? (Ad (w.heap.size+1+1) 12)=some (I 0):=au CK.o 12 rfl;unfold bT.row;go_wp2;refine bO (v:=.agg (R).row) (by simp[results,Tryz.results219,go_sem,t0,t1,t2,t3,t4,t5,t6,t7,t8,t9,t10,t11,t12];rfl) rfl ?_;exact⟨rfl,((((((((((((cN.o.setCell (by simp;omega) _).setCell (by simp;omega) _).setCell (by simp;omega) _).setCell (by simp;omega) _).setCell (by simp;omega) _).setCell (by simp;omega) _).setCell (by simp;omega) _).setCell (by simp;omega) _).setCell (by simp;omega) _).setCell (by simp;omega) _).setCell (by simp;omega) _).setCell (by simp;omega) _).setCell (by simp;omega) _⟩
open Go.RowKit
open Go.RowKit
theorem Sq (p:bT) (i:ed) (v:Int) (w:World) (hf:i.fits) (hb:i.bad=false):Calls Tryz.prog 219 #[.agg p.row,.agg i.cells,I v] w fun e w'=>e=.returned (.agg (cZ p i v).row)/\Below w.heap.size w w':=by
 obtain⟨op,a,b,c,m⟩:=i;obtain⟨-,ha,hb',hc,-⟩:=hf;rcases M7 op with h | h | h | h | h | h | h | h | h | h | h | h | h | h | h | h | h
 · rw[M8 _ h] at hb;cases hb
 · subst h;obtain⟨na,rfl,rz⟩:=gA ha (qN hb);exact akF p na b c m v w _ (.inl rfl) rz
 · subst h;have hb2:¬(8<=a∨8<=b∨8<=c):=qN hb;obtain⟨na,rfl,rz⟩:=gA ha (fun h=>hb2 (.inl h));obtain⟨nb,rfl,hnb⟩:=gA hb' (fun h=>hb2 (.inr (.inl h)));obtain⟨nc,rfl,hnc⟩:=gA hc (fun h=>hb2 (.inr (.inr h)));exact Mh 2 _ _ _ p na nb nc m v w (by simp) (.inl ⟨rfl,rfl,rfl⟩) rz hnb hnc
 · subst h;have hb2:¬(8<=a∨8<=b∨8<=c):=qN hb;obtain⟨na,rfl,rz⟩:=gA ha (fun h=>hb2 (.inl h));obtain⟨nb,rfl,hnb⟩:=gA hb' (fun h=>hb2 (.inr (.inl h)));obtain⟨nc,rfl,hnc⟩:=gA hc (fun h=>hb2 (.inr (.inr h)));exact Mh 3 _ _ _ p na nb nc m v w (by simp) (.inl ⟨rfl,rfl,rfl⟩) rz hnb hnc
 · subst h;have hb2:¬(8<=a∨8<=b∨8<=c):=qN hb;obtain⟨na,rfl,rz⟩:=gA ha (fun h=>hb2 (.inl h));obtain⟨nb,rfl,hnb⟩:=gA hb' (fun h=>hb2 (.inr (.inl h)));obtain⟨nc,rfl,hnc⟩:=gA hc (fun h=>hb2 (.inr (.inr h)));exact Mh 4 _ _ _ p na nb nc m v w (by simp) (.inl ⟨rfl,rfl,rfl⟩) rz hnb hnc
 · subst h;have hb2:¬(8<=a∨8<=b∨8<=c):=qN hb;obtain⟨na,rfl,rz⟩:=gA ha (fun h=>hb2 (.inl h));obtain⟨nb,rfl,hnb⟩:=gA hb' (fun h=>hb2 (.inr (.inl h)));obtain⟨nc,rfl,hnc⟩:=gA hc (fun h=>hb2 (.inr (.inr h)));exact Mh 5 _ _ _ p na nb nc m v w (by simp) (.inl ⟨rfl,rfl,rfl⟩) rz hnb hnc
 · subst h;have hb2:¬(8<=a∨8<=b∨8<=c):=qN hb;obtain⟨na,rfl,rz⟩:=gA ha (fun h=>hb2 (.inl h));obtain⟨nb,rfl,hnb⟩:=gA hb' (fun h=>hb2 (.inr (.inl h)));obtain⟨nc,rfl,hnc⟩:=gA hc (fun h=>hb2 (.inr (.inr h)));exact Mh 6 _ _ _ p na nb nc m v w (by simp) (.inl ⟨rfl,rfl,rfl⟩) rz hnb hnc
 · subst h;have hb2:¬(8<=a∨8<=b∨8<=c):=qN hb;obtain⟨na,rfl,rz⟩:=gA ha (fun h=>hb2 (.inl h));obtain⟨nb,rfl,hnb⟩:=gA hb' (fun h=>hb2 (.inr (.inl h)));obtain⟨nc,rfl,hnc⟩:=gA hc (fun h=>hb2 (.inr (.inr h)));exact Mh 7 _ _ _ p na nb nc m v w (by simp) (.inl ⟨rfl,rfl,rfl⟩) rz hnb hnc
 · subst h;have hb2:¬(8<=a∨8<=b):=qN hb;obtain⟨na,rfl,rz⟩:=gA ha (fun h=>hb2 (.inl h));obtain⟨nb,rfl,hnb⟩:=gA hb' (fun h=>hb2 (.inr h));exact akE p na nb c m v w _ (.inl rfl) rz hnb
 · subst h;have hb3:(decide (8<=a∨8<=b) || !(ot c))=false:=hb;have hb2:¬(8<=a∨8<=b):=qN (JQ.1 hb3).1;obtain⟨na,rfl,rz⟩:=gA ha (fun h=>hb2 (.inl h));obtain⟨nb,rfl,hnb⟩:=gA hb' (fun h=>hb2 (.inr h));exact akD p na nb c m v w _ (.inl rfl) rz hnb
 · subst h;have hb3:(decide (8<=a∨8<=b) || !(ot c))=false:=hb;have hb2:¬(8<=a∨8<=b):=qN (JQ.1 hb3).1;obtain⟨na,rfl,rz⟩:=gA ha (fun h=>hb2 (.inl h));obtain⟨nb,rfl,hnb⟩:=gA hb' (fun h=>hb2 (.inr h));exact ahT p na nb c m v w _ (.inl rfl) rz hnb
 · subst h;obtain⟨na,rfl,rz⟩:=gA ha (qN hb);exact ahS p na b c m v w _ (.inl rfl) rz
 · subst h;exact ahR p a b c m v w _ (.inl rfl)
 · subst h;have hb2:¬(8<=a∨8<=b):=qN hb;obtain⟨na,rfl,rz⟩:=gA ha (fun h=>hb2 (.inl h));obtain⟨nb,rfl,hnb⟩:=gA hb' (fun h=>hb2 (.inr h));exact ac7 13 _ _ p na nb c m v w rz hnb (by simp) (.inl ⟨rfl,rfl⟩)
 · subst h;have hb2:¬(8<=a∨8<=b):=qN hb;obtain⟨na,rfl,rz⟩:=gA ha (fun h=>hb2 (.inl h));obtain⟨nb,rfl,hnb⟩:=gA hb' (fun h=>hb2 (.inr h));exact ac7 14 _ _ p na nb c m v w rz hnb (by simp) (.inl ⟨rfl,rfl⟩)
 · subst h;obtain⟨na,rfl,rz⟩:=gA ha (qN hb);exact ahQ p na b c m v w _ (.inl rfl) rz
 · subst h;have hb3:(!(decide (1<=m/\m<=6)))=false:=hb;exact Yw p a b c m v w (by simpa using hb3)
theorem P8 {N g:Nat} {w W:World} (h:Below N w W) (hg:N<=g) (v0 v1 v2 v3 v4 v5 v6 v7 v8 v9 v10 v11 v12:Value):Below N w (((((((((((((W.setCell (Ad g 0) v0).setCell (Ad g 1) v1).setCell (Ad g 2) v2).setCell (Ad g 3) v3).setCell (Ad g 4) v4).setCell (Ad g 5) v5).setCell (Ad g 6) v6).setCell (Ad g 7) v7).setCell (Ad g 8) v8).setCell (Ad g 9) v9).setCell (Ad g 10) v10).setCell (Ad g 11) v11).setCell (Ad g 12) v12) :=
 (((((((((((((h.setCell (p:=(Ad g 0)) hg v0).setCell (p:=(Ad g 1)) hg v1).setCell (p:=(Ad g 2)) hg v2).setCell (p:=(Ad g 3)) hg v3).setCell (p:=(Ad g 4)) hg v4).setCell (p:=(Ad g 5)) hg v5).setCell (p:=(Ad g 6)) hg v6).setCell (p:=(Ad g 7)) hg v7).setCell (p:=(Ad g 8)) hg v8).setCell (p:=(Ad g 9)) hg v9).setCell (p:=(Ad g 10)) hg v10).setCell (p:=(Ad g 11)) hg v11).setCell (p:=(Ad g 12)) hg v12)
theorem Yv (p:bT) (s:ByteArray) (v:Int) (w:World) (h:s.size=8) (bad:(iG s).bad=false):Calls Tryz.prog 197 #[p.val,.string s,I v] w fun e w'=>e=.returned (.tuple #[.agg (cZ p (iG s) v).row,I 0])/\Below w.heap.size w w':=by
 have HD:=bD (fun V=>H4 s V h);have hfit:=AZ s h;obtain⟨i,hi⟩:=ex (iG s);rw[<- hi] at HD hfit bad ⊢;have HK:=bD (fun V=>J4 i V hfit);have ar9:=bD bad;clear hi h;have HN:=bD (fun V=>Sq p i v V hfit bad);rw[bad] at HK;obtain⟨R,hR⟩:=ex (cZ p i v);rw[<- hR] at HN ⊢;obtain⟨op,a,b,c,m⟩:=i;unfold ed.cells at HD HK HN;simp only at HD HK HN;clear hfit bad ar9 hR;have gK:=bD (((aK w.heap.size w).alloc (aI _) (.cells p.row 77)).alloc (by simp) (.cells #[I 0,I 0,I 0,I 0,I 0,I 0,I 0,I 0,I 0,I 0,I 0,I 0,I 0] 77));have BP:=bD (br (bE w p.row 77) (.cells #[I 0,I 0,I 0,I 0,I 0,I 0,I 0,I 0,I 0,I 0,I 0,I 0,I 0] 77));have BR:=bD (bE (w.alloc (.cells p.row 77)) #[I 0,I 0,I 0,I 0,I 0,I 0,I 0,I 0,I 0,I 0,I 0,I 0,I 0] 77);rw[fF] at BR;unfold bT.val;go_enter Tryz.func197,Tryz.ntmps197;go_wp2_with fail
 refine(HD.o _).mono ?_;rintro e w1 ⟨rfl,hb1⟩;have cN:=bD (gK.o.trans (hb1.mono gK.o.size));have XY:=bD (aO BP.o hb1 (aJ BP.o));have CK:=bD (aO BR.o hb1 (aJ BR.o));have Ro:=bD ((aK w1.heap.size w1).alloc (aI _) (.cells #[I op,I a,I b,I c,I m] 108));have RQ:=bD (bE w1 #[I op,I a,I b,I c,I m] 108);clear hb1;go_wp2_with fail
 refine(HK.o _).mono ?_;rintro e w2 ⟨rfl,hb2⟩;have gQ:=bD (cN.o.trans ((Ro.o.trans (hb2.mono Ro.o.size)).mono cN.o.size));have N4:=bD (aO (br XY.o _) hb2 (aJ (br XY.o _)));have JM:=bD (aO (br CK.o _) hb2 (aJ (br CK.o _)));have XB:=bD (aO RQ.o hb2 (aJ RQ.o));clear hb2 Ro CK XY gK BP BR HD HK cN RQ;have p0:w2.cell? (Ad w.heap.size 0)=some (I (p.r 0)):=au N4.o 0 rfl;have p1:w2.cell? (Ad w.heap.size 1)=some (I (p.r 1)):=au N4.o 1 rfl;have p2:w2.cell? (Ad w.heap.size 2)=some (I (p.r 2)):=au N4.o 2 rfl;have p3:w2.cell? (Ad w.heap.size 3)=some (I (p.r 3)):=au N4.o 3 rfl;have p4:w2.cell? (Ad w.heap.size 4)=some (I (p.r 4)):=au N4.o 4 rfl;have p5:w2.cell? (Ad w.heap.size 5)=some (I (p.r 5)):=au N4.o 5 rfl;have p6:w2.cell? (Ad w.heap.size 6)=some (I (p.r 6)):=au N4.o 6 rfl;have p7:w2.cell? (Ad w.heap.size 7)=some (I (p.r 7)):=au N4.o 7 rfl;have p8:w2.cell? (Ad w.heap.size 8)=some (I p.pc):=au N4.o 8 rfl;have p9:w2.cell? (Ad w.heap.size 9)=some (I p.st):=au N4.o 9 rfl;have p10:w2.cell? (Ad w.heap.size 10)=some (I p.cd):=au N4.o 10 rfl;have p11:w2.cell? (Ad w.heap.size 11)=some (I p.fk):=au N4.o 11 rfl;have p12:w2.cell? (Ad w.heap.size 12)=some (I p.fa):=au N4.o 12 rfl;obtain⟨i0,i1,i2,i3,i4⟩:=iH XB.o;unfold bT.row at HN;go_wp2_with fail
 refine(HN.o _).mono ?_;rintro e w3 ⟨rfl,hb3⟩;have mO:=bD (gQ.o.trans (hb3.mono gQ.o.size));have JG:=bD (aO JM.o hb3 (aJ JM.o));have t0:w3.cell? (Ad (w.heap.size+1) 0)=some (I 0):=au JG.o 0 rfl;have t1:w3.cell? (Ad (w.heap.size+1) 1)=some (I 0):=au JG.o 1 rfl;have t2:w3.cell? (Ad (w.heap.size+1) 2)=some (I 0):=au JG.o 2 rfl;have t3:w3.cell? (Ad (w.heap.size+1) 3)=some (I 0):=au JG.o 3 rfl;have t4:w3.cell? (Ad (w.heap.size+1) 4)=some (I 0):=au JG.o 4 rfl;have t5:w3.cell? (Ad (w.heap.size+1) 5)=some (I 0):=au JG.o 5 rfl;have t6:w3.cell? (Ad (w.heap.size+1) 6)=some (I 0):=au JG.o 6 rfl;have t7:w3.cell? (Ad (w.heap.size+1) 7)=some (I 0):=au JG.o 7 rfl;have t8:w3.cell? (Ad (w.heap.size+1) 8)=some (I 0):=au JG.o 8 rfl;have t9:w3.cell? (Ad (w.heap.size+1) 9)=some (I 0):=au JG.o 9 rfl;have t10:w3.cell? (Ad (w.heap.size+1) 10)=some (I 0):=au JG.o 10 rfl;have t11:w3.cell? (Ad (w.heap.size+1) 11)=some (I 0):=au JG.o 11 rfl;have t12:w3.cell? (Ad (w.heap.size+1) 12)=some (I 0):=au JG.o 12 rfl;have u0:∀j,w3.frozen? (Ad (w.heap.size+1) j)=false:=fun j=>aR JG.o j
 clear hb3 HN;go_wp2;refine bO (v:=.tuple #[.agg R.row,I 0]) (by simp[results,Tryz.results197,go_sem,t0,t1,t2,t3,t4,t5,t6,t7,t8,t9,t10,t11,t12];rfl) rfl ?_;exact⟨rfl,P8 mO.o (kV _) _ _ _ _ _ _ _ _ _ _ _ _ _⟩
end Go.Proofs.YtlgoihmkgaaemaaGreat
