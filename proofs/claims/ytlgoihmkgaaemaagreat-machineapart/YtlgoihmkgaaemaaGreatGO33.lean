import Derived.Test.YtlgoihmkgaaemaaGreatGO32
set_option maxHeartbeats 20000000
set_option linter.unusedVariables false
set_option maxRecDepth 100000
set_option linter.unusedSimpArgs false
namespace Go.Proofs.YtlgoihmkgaaemaaGreat
open Go.RowKit
variable {σ:Type} {Hd:World->(Nat->Prop)->σ->Prop} {Ok:σ->List Bool->Prop} {o:gH σ} {lo mb gb:Nat} {D:Nat->Prop} {vr vo:Value} {st:df σ}
theorem ab8 (C:iC lo mb Hd Ok o) (k:Nat) (w:World) (h:fH Hd lo mb gb w D vr vo st) (hok:dh Ok st) (hk:k<st.ps.length) (h1:(aI st.ps k).st=1) (R:(Int×(Int×Int))×df σ) (hR:R=((0,(0,0)),st)) :
  Calls Tryz.prog 150 #[.pointer (some (Ad gb 0)),I (k:Int),.agg #[I 0,I 0,I 0,I 0,I 0]] w fun e w'=>e=.returned (.tuple #[I R.1.1,.agg (gW R.1.2)])/\cE Hd lo mb gb w D vr vo R.2 w':=by
 have HG:=ai h;have HC:=ai C;have N1:=ai hok;have T4:=ai (iu k hk h1);have vI:=ai hk;have HH1:=ai h1;have HR:=ai hR;have Fk:st.ps.length<=4:=by have:=C.ok.few _ _ hok.mem;unfold bV at this;rw[ie] at this;exact this
 have RJ:=ai (hok.fit k hk);have hgb:=aJ h.head;have g0:w.cell? (Ad gb 0)=some (.iface 183 (.pointer (some (Ad mb 0)))):=aq h.head 0 rfl;have g1:w.cell? (Ad gb 1)=some vr:=aq h.head 1 rfl;have jm:=ai (((aK w.heap.size w).alloc (aD _) (.cells #[I 0,I 0,I 0,I 0,I 0] 110)).alloc (by simp) (.cells #[I 0,I 0] 75));have BX:=ai (bk (bB w #[I 0,I 0,I 0,I 0,I 0] 110) (.cells #[I 0,I 0] 75));have BY:Hid (((w.alloc (.cells #[I 0,I 0,I 0,I 0,I 0] 110)).alloc (.cells #[I 0,I 0] 75)).heap[w.heap.size+1]?=some (.cells #[I 0,I 0] 75 (0,0))):=by
  have:=bB (w.alloc (.cells #[I 0,I 0,I 0,I 0,I 0] 110)) #[I 0,I 0] 75;rw[gh] at this;exact this
 clear hR hok;clear h C hk h1;go_enter Tryz.func150,Tryz.ntmps150;go_wp2;refine bI (v:=.tuple #[I 0,.agg #[I 0,I 0]]) (by simp[results,Tryz.results150,go_sem]) rfl ?_;rw[HR.o];exact⟨rfl,cE.after jm.o (cE.refl (HG.o.below HC.o jm.o))⟩
theorem ab4 (C:iC lo mb Hd Ok o) (k:Nat) (w:World) (h:fH Hd lo mb gb w D vr vo st) (hok:dh Ok st) (hk:k<st.ps.length) (h1:(aI st.ps k).st=1) (R:(Int×(Int×Int))×df σ) (hR:R=((0,(4,(aI st.ps k).pc)),st)) :
  Calls Tryz.prog 150 #[.pointer (some (Ad gb 0)),I (k:Int),.agg #[I 4,I 0,I 0,I 0,I 0]] w fun e w'=>e=.returned (.tuple #[I R.1.1,.agg (gW R.1.2)])/\cE Hd lo mb gb w D vr vo R.2 w':=by
 have HG:=ai h;have HC:=ai C;have N1:=ai hok;have T4:=ai (iu k hk h1);have vI:=ai hk;have HH1:=ai h1;have HR:=ai hR;have Fk:st.ps.length<=4:=by have:=C.ok.few _ _ hok.mem;unfold bV at this;rw[ie] at this;exact this
 have RJ:=ai (hok.fit k hk);have hgb:=aJ h.head;have g0:w.cell? (Ad gb 0)=some (.iface 183 (.pointer (some (Ad mb 0)))):=aq h.head 0 rfl;have g1:w.cell? (Ad gb 1)=some vr:=aq h.head 1 rfl;have jm:=ai (((aK w.heap.size w).alloc (aD _) (.cells #[I 4,I 0,I 0,I 0,I 0] 110)).alloc (by simp) (.cells #[I 0,I 0] 75));have BX:=ai (bk (bB w #[I 4,I 0,I 0,I 0,I 0] 110) (.cells #[I 0,I 0] 75));have BY:Hid (((w.alloc (.cells #[I 4,I 0,I 0,I 0,I 0] 110)).alloc (.cells #[I 0,I 0] 75)).heap[w.heap.size+1]?=some (.cells #[I 0,I 0] 75 (0,0))):=by
  have:=bB (w.alloc (.cells #[I 4,I 0,I 0,I 0,I 0] 110)) #[I 0,I 0] 75;rw[gh] at this;exact this
 clear hR hok;obtain⟨pb,cap,E6,hpb,hpc,P6⟩:=h.proc k hk;obtain⟨pc,ajB⟩:=ex ((aI st.ps k).pc);rw[<- ajB] at HR;have c8:w.cell? (Ad pb (k*13+8))=some (I pc):=by rw[ajB];exact hpc 8 (by omega)
 obtain⟨n,hn⟩:=ex st.ps.length;rw[<- hn] at E6 hk Fk;subst E6;have Jj:(k:Int)<(n:Int):=by omega
 have ajC:¬pb=w.heap.size:=by omega
 have amb:¬gb=w.heap.size:=by omega
 clear h C h1 hpc P6 ajB hn;go_enter Tryz.func150,Tryz.ntmps150;go_wp2;go_region;go_wp2;refine bI (v:=.tuple #[I 0,.agg #[I 4,I pc]]) (by simp[results,Tryz.results150,go_sem]) rfl ?_;rw[HR.o];have hb:Below w.heap.size w ((w.alloc (.cells #[I 4,I 0,I 0,I 0,I 0] 110)).alloc (.cells #[I 4,I pc] 75)).drew:=(((aK w.heap.size w).alloc (aD _) _).alloc (by simp) _).drew;exact⟨rfl,cE.after hb (cE.refl (HG.o.below HC.o hb))⟩
theorem ab5 (C:iC lo mb Hd Ok o) (k:Nat) (c:Int) (w:World) (h:fH Hd lo mb gb w D vr vo st) (hok:dh Ok st) (hk:k<st.ps.length) (h1:(aI st.ps k).st=1) (R:(Int×(Int×Int))×df σ) (hc:1<=c/\c<=6) (hR:R=(((eu o st k c).1,(0,0)),(eu o st k c).2)) :
  Calls Tryz.prog 150 #[.pointer (some (Ad gb 0)),I (k:Int),.agg #[I 3,I 0,I 0,I 0,I c]] w fun e w'=>e=.returned (.tuple #[I R.1.1,.agg (gW R.1.2)])/\cE Hd lo mb gb w D vr vo R.2 w':=by
 have HG:=ai h;have HC:=ai C;have N1:=ai hok;have T4:=ai (iu k hk h1);have vI:=ai hk;have HH1:=ai h1;have HR:=ai hR;have Fk:st.ps.length<=4:=by have:=C.ok.few _ _ hok.mem;unfold bV at this;rw[ie] at this;exact this
 have RJ:=ai (hok.fit k hk);have hgb:=aJ h.head;have g0:w.cell? (Ad gb 0)=some (.iface 183 (.pointer (some (Ad mb 0)))):=aq h.head 0 rfl;have g1:w.cell? (Ad gb 1)=some vr:=aq h.head 1 rfl;have jm:=ai (((aK w.heap.size w).alloc (aD _) (.cells #[I 3,I 0,I 0,I 0,I c] 110)).alloc (by simp) (.cells #[I 0,I 0] 75));have BX:=ai (bk (bB w #[I 3,I 0,I 0,I 0,I c] 110) (.cells #[I 0,I 0] 75));have BY:Hid (((w.alloc (.cells #[I 3,I 0,I 0,I 0,I c] 110)).alloc (.cells #[I 0,I 0] 75)).heap[w.heap.size+1]?=some (.cells #[I 0,I 0] 75 (0,0))):=by
  have:=bB (w.alloc (.cells #[I 3,I 0,I 0,I 0,I c] 110)) #[I 0,I 0] 75;rw[gh] at this;exact this
 clear hR hok;have I5:=ai (fun V (hV:Below w.heap.size w V)=>ZP C k c V (h.below C hV) N1.o hk h1 hc);obtain⟨X,hX⟩:=ex (eu o st k c);rw[<- hX] at I5 HR;clear h C hX h1;go_enter Tryz.func150,Tryz.ntmps150;go_wp2_with (go_at_call 196;refine(I5.o _ jm.o).mono ?_;rintro e w1 ⟨rfl,Qc⟩;have HL1:=ai (gS.behind HC.o HG.o jm.o Qc);obtain⟨_,_,_,_,hkk,_⟩:=Qc;have BY1:=ai (HG.o.aside HC.o hkk (by omega) BY.o);have y0:=aq (v:=I 0) BY1.o 0 rfl;have y1:=aq (v:=I 0) BY1.o 1 rfl;have z0:=aO BY1.o 0;have z1:=aO BY1.o 1;clear hkk)
 refine bI (v:=.tuple #[I X.1,.agg #[I 0,I 0]]) (by simp[results,Tryz.results150,go_sem,y0,y1]) rfl ?_;rw[HR.o];have hy:w.heap.size<=w.heap.size+1/\w.heap.size+1<((w.alloc (.cells #[I 3,I 0,I 0,I 0,I c] 110)).alloc (.cells #[I 0,I 0] 75)).heap.size:=⟨by omega,aJ BY.o⟩;exact⟨rfl,((HL1.o.set HC.o (Ad (w.heap.size+1) 0) _ hy hy.1).set HC.o (Ad (w.heap.size+1) 1) _ hy hy.1).left⟩
open Go.RowKit
variable {σ:Type} {Hd:World->(Nat->Prop)->σ->Prop} {Ok:σ->List Bool->Prop} {o:gH σ} {lo mb gb:Nat} {D:Nat->Prop} {vr vo:Value} {st:df σ}
theorem ab6 (C:iC lo mb Hd Ok o) (k:Nat) (a v:Int) (m:Nat) (w:World) (h:fH Hd lo mb gb w D vr vo st) (hok:dh Ok st) (hk:k<st.ps.length) (h1:(aI st.ps k).st=1) (R:(Int×(Int×Int))×df σ) (ha:cN a) (ni:1<=m) (hm8:m<=8) (hR:R=((0,(o.store st.mem k a (mS v m)).1),{ st with mem:=(o.store st.mem k a (mS v m)).2 })) :
  Calls Tryz.prog 150 #[.pointer (some (Ad gb 0)),I (k:Int),.agg #[I 2,I a,I (m:Int),I v,I 0]] w fun e w'=>e=.returned (.tuple #[I R.1.1,.agg (gW R.1.2)])/\cE Hd lo mb gb w D vr vo R.2 w':=by
 have HG:=ai h;have HC:=ai C;have N1:=ai hok;have T4:=ai (iu k hk h1);have vI:=ai hk;have HH1:=ai h1;have HR:=ai hR;have Fk:st.ps.length<=4:=by have:=C.ok.few _ _ hok.mem;unfold bV at this;rw[ie] at this;exact this
 have RJ:=ai (hok.fit k hk);have hgb:=aJ h.head;have g0:w.cell? (Ad gb 0)=some (.iface 183 (.pointer (some (Ad mb 0)))):=aq h.head 0 rfl;have g1:w.cell? (Ad gb 1)=some vr:=aq h.head 1 rfl;have jm:=ai (((aK w.heap.size w).alloc (aD _) (.cells #[I 2,I a,I (m:Int),I v,I 0] 110)).alloc (by simp) (.cells #[I 0,I 0] 75));have BX:=ai (bk (bB w #[I 2,I a,I (m:Int),I v,I 0] 110) (.cells #[I 0,I 0] 75));have BY:Hid (((w.alloc (.cells #[I 2,I a,I (m:Int),I v,I 0] 110)).alloc (.cells #[I 0,I 0] 75)).heap[w.heap.size+1]?=some (.cells #[I 0,I 0] 75 (0,0))):=by
  have:=bB (w.alloc (.cells #[I 2,I a,I (m:Int),I v,I 0] 110)) #[I 0,I 0] 75;rw[gh] at this;exact this
 clear hR hok;have HPU:Hid (∀V,Calls Tryz.prog 169 #[I v,I (m:Int)] V fun e w'=>e=.returned (.tuple #[.string (mS v m),I 0])/\Below V.heap.size V w'):=fun V=>by
  have:=acJ v m V ni hm8;unfold mS;rw[jz];exact this
 have hds:(mS v m).size=m:=by
  unfold mS;rw[jz];show(Lib.leBytes m (mE v)).toArray.size=m;simp[Lib.leBytes_length]
 have HST:Hid (∀V,Below w.heap.size w V->Calls Tryz.prog 257 #[.pointer (some (Ad mb 0)),I (k:Int),I a,.string (mS v m)] V (oq Hd V D (.agg (gW (o.store st.mem k a (mS v m)).1)) (o.store st.mem k a (mS v m)).2)):=fun V hV=>C.store V D st.mem _ k a (mS v m) (h.below C hV).mem N1.o.mem T4.o ha (by omega) (by omega)
 obtain⟨X,hX⟩:=ex (o.store st.mem k a (mS v m));rw[<- hX] at HST HR;obtain⟨d,hd⟩:=ex (mS v m);rw[<- hd] at HPU HST;obtain⟨⟨X1,X2⟩,X3⟩:=X;unfold gW at HST;simp only at HST HR;have hm:=Rq (Ad mb 0);have hah:=TL (Ad mb 0);clear h C hX h1 hd hds;go_enter Tryz.func150,Tryz.ntmps150;go_wp2_with (go_at_call 169;refine(HPU.o _).mono ?_;rintro e w1 ⟨rfl,hb1⟩;have cH:=ai (jm.o.trans (hb1.mono jm.o.size));have BX1:=ai (aN BX.o hb1 (aJ BX.o));have BY1:=ai (aN BY.o hb1 (aJ BY.o));clear hb1)
 have E0:=ai (HG.o.below HC.o cH.o);obtain⟨xb,Mf⟩:=ex w.heap.size;rw[<- Mf] at BX1 BY1 ⊢;have TG:=ai Mf;have HS:Hid (∀V,aC D w1 V->V.cell? (Ad gb 0)=some (.iface 183 (.pointer (some (Ad mb 0))))/\V.cell? (Ad xb 1)=some (I a)):=fun V hb=>by
  have h1:=hb.keep BX1.o (fun g=>by have:=HC.o.dom _ _ _ HG.o.mem _ g;have:=TG.o;omega);have h2:=hb.keep E0.o.head E0.o.n1;exact⟨aq h2 0 rfl,aq h1 1 rfl⟩
 have nU:=ai (HS.o _ (aC.drew _ _));have ZU:Hid (∀V:World,(V.cell? (Ad gb 0)=some (.iface 183 (.pointer (some (Ad mb 0))))/\V.cell? (Ad xb 1)=some (I a))->∀v0 v1,(((V.setCell (Ad (xb+1) 0) v0).setCell (Ad (xb+1) 1) v1).cell? (Ad gb 0)=some (.iface 183 (.pointer (some (Ad mb 0))))/\((V.setCell (Ad (xb+1) 0) v0).setCell (Ad (xb+1) 1) v1).cell? (Ad xb 1)=some (I a))):=fun V ⟨h0,h1⟩ v0 v1=>by
  have hne:xb≠xb+1:=by omega
  have P9:gb≠xb+1:=by have:=TG.o;omega
  rw[cj _ _ _ _ _ _ hne,cj _ _ _ _ _ _ hne,cj _ _ _ _ _ _ P9,cj _ _ _ _ _ _ P9];exact⟨h0,h1⟩
 clear Mf HPU g0 g1
 go_region_held3 (fun V=>V.cell? (Ad gb 0)=some (.iface 183 (.pointer (some (Ad mb 0))))/\V.cell? (Ad xb 1)=some (I a)) (first | exact MR.o _ _ | exact sk.o | exact nU.o)
  (first | (go_at_call 257;refine(HST.o _ cH.o.drew).mono ?_;rintro e w2 ⟨D2,rfl,hm2,hk2,hd2⟩;have sk:=ai (HS.o _ ((aC.drew D w1).trans hk2 (fun _ _ g=>g)));have MR:=ai (ZU.o w2 sk.o);have Bz:=ai (gS.behind HC.o HG.o cH.o.drew (cE.Fg HC.o (HG.o.below HC.o cH.o.drew) hm2 hk2 hd2));have BY2:=ai (hk2.keep (w:=w1.drew) BY1.o (fun g=>(by have:=HC.o.dom _ _ _ HG.o.mem _ g;have:=TG.o;omega)));have y0:=aq (v:=I 0) BY2.o 0 rfl;have y1:=aq (v:=I 0) BY2.o 1 rfl;have z0:=aO BY2.o 0;have z1:=aO BY2.o 1;clear hm2 hk2 hd2))
 clear MR ZU HS nU sk;go_wp2;refine bI (v:=.tuple #[I 0,.agg #[I X1,I X2]]) (by simp[results,Tryz.results150,go_sem,y0,y1]) rfl ?_;rw[HR.o];have hy:w.heap.size<=xb+1/\xb+1<w1.drew.heap.size:=⟨by have:=TG.o;omega,aJ BY1.o⟩;exact⟨rfl,((Bz.o.set HC.o (Ad (xb+1) 0) _ hy hy.1).set HC.o (Ad (xb+1) 1) _ hy hy.1).left⟩
open Go.RowKit
variable {σ:Type} {Hd:World->(Nat->Prop)->σ->Prop} {Ok:σ->List Bool->Prop} {o:gH σ} {lo mb gb:Nat} {D:Nat->Prop} {vr vo:Value} {st:df σ}
theorem ab7 (C:iC lo mb Hd Ok o) (k:Nat) (a n:Int) (w:World) (h:fH Hd lo mb gb w D vr vo st) (hok:dh Ok st) (hk:k<st.ps.length) (h1:(aI st.ps k).st=1) (R:(Int×(Int×Int))×df σ) (ha:cN a) (ni:1<=n) (hm8:n<=8) (hR:R=((EC (o.load st.mem k a n 0).1.1,(o.load st.mem k a n 0).1.2),{ st with mem:=(o.load st.mem k a n 0).2 })) :
  Calls Tryz.prog 150 #[.pointer (some (Ad gb 0)),I (k:Int),.agg #[I 1,I a,I n,I 0,I 0]] w fun e w'=>e=.returned (.tuple #[I R.1.1,.agg (gW R.1.2)])/\cE Hd lo mb gb w D vr vo R.2 w':=by
 have HG:=ai h;have HC:=ai C;have N1:=ai hok;have T4:=ai (iu k hk h1);have vI:=ai hk;have HH1:=ai h1;have HR:=ai hR;have Fk:st.ps.length<=4:=by have:=C.ok.few _ _ hok.mem;unfold bV at this;rw[ie] at this;exact this
 have RJ:=ai (hok.fit k hk);have hgb:=aJ h.head;have g0:w.cell? (Ad gb 0)=some (.iface 183 (.pointer (some (Ad mb 0)))):=aq h.head 0 rfl;have g1:w.cell? (Ad gb 1)=some vr:=aq h.head 1 rfl;have jm:=ai (((aK w.heap.size w).alloc (aD _) (.cells #[I 1,I a,I n,I 0,I 0] 110)).alloc (by simp) (.cells #[I 0,I 0] 75));have BX:=ai (bk (bB w #[I 1,I a,I n,I 0,I 0] 110) (.cells #[I 0,I 0] 75));have BY:Hid (((w.alloc (.cells #[I 1,I a,I n,I 0,I 0] 110)).alloc (.cells #[I 0,I 0] 75)).heap[w.heap.size+1]?=some (.cells #[I 0,I 0] 75 (0,0))):=by
  have:=bB (w.alloc (.cells #[I 1,I a,I n,I 0,I 0] 110)) #[I 0,I 0] 75;rw[gh] at this;exact this
 clear hR hok;have HGT:Hid (∀V,Calls Tryz.prog 195 #[.string (o.load st.mem k a n 0).1.1] V fun e w'=>∃x,e=.returned (.tuple #[I (EC (o.load st.mem k a n 0).1.1),I x])/\V=w'):=fun V=>by
  have h1:=C.ok.size st.mem _ k a n 0 N1.o.mem T4.o ni hm8;have h2:=C.ok.none st.mem _ k a n 0 N1.o.mem T4.o;unfold EC;by_cases c:(o.load st.mem k a n 0).1.2.1=0
  · have:=h1 c;rw[aB (by omega)];exact(Sc _ V (by omega) (by omega)).mono fun e w' ⟨g1,g2⟩=>⟨0,g1,g2⟩
  · rw[h2 c,au (by decide)];exact(aeN _ V (by unfold maxLen;decide) (by decide)).mono fun e w' ⟨g1,g2⟩=>⟨3,g1,g2⟩
 have HLD:Hid (∀V,Below w.heap.size w V->Calls Tryz.prog 254 #[.pointer (some (Ad mb 0)),I (k:Int),I a,I n,I 0] V (oq Hd V D (.tuple #[.string (o.load st.mem k a n 0).1.1,.agg (gW (o.load st.mem k a n 0).1.2)]) (o.load st.mem k a n 0).2)):=fun V hV=>C.load V D st.mem _ k a n 0 (h.below C hV).mem N1.o.mem T4.o ha ni hm8 (.inl rfl)
 obtain⟨X,hX⟩:=ex (o.load st.mem k a n 0);rw[<- hX] at HLD HR HGT;obtain⟨⟨d,X1,X2⟩,X3⟩:=X;unfold gW at HLD;simp only at HLD HR HGT;obtain⟨G,hGe⟩:=ex (EC d);rw[<- hGe] at HGT HR;have hm:=IV (Ad mb 0);have hah:=LC (Ad mb 0);clear h C hX h1 hGe;go_enter Tryz.func150,Tryz.ntmps150;go_wp2_with fail
 obtain⟨WA,lu⟩:=ex ((w.alloc (.cells #[I 1,I a,I n,I 0,I 0] 110)).alloc (.cells #[I 0,I 0] 75));rw[<- lu] at jm BX BY ⊢;obtain⟨xb,Mf⟩:=ex w.heap.size;rw[<- Mf] at BX BY ⊢;have TG:=ai Mf;have E0:=ai (HG.o.below HC.o jm.o);have HS:Hid (∀V,aC D WA V->V.cell? (Ad gb 0)=some (.iface 183 (.pointer (some (Ad mb 0))))/\V.cell? (Ad xb 1)=some (I a)/\V.cell? (Ad xb 2)=some (I n)):=fun V hb=>by
  have h1:=hb.keep BX.o (fun g=>by have:=HC.o.dom _ _ _ HG.o.mem _ g;have:=TG.o;omega);have h2:=hb.keep E0.o.head E0.o.n1;exact⟨aq h2 0 rfl,aq h1 1 rfl,aq h1 2 rfl⟩
 have nU:=ai (HS.o _ (aC.drew _ _));have yM:=ai (HS.o (WA.alloc (.cells #[I 0,I 0] 75)).drew ((aC.alloc _ _ _).trans (aC.drew _ _) (fun _ _ g=>g)));have gB:=ai jm.o.drew;have cH:=ai (jm.o.alloc jm.o.size (.cells #[I 0,I 0] 75)).drew;have hlx:=aJ BY.o;have HNY:Hid (¬D (xb+1)):=fun g=>by have:=HC.o.dom _ _ _ HG.o.mem _ g;have:=TG.o;omega
 have HNZ:Hid (¬D WA.heap.size):=fun g=>by have:=HC.o.dom _ _ _ HG.o.mem _ g;have:=jm.o.size;omega
 clear Mf lu g0 g1;go_cut [8,9] (fun x8 x9 wx=>∃zb,x8=.string d/\x9=.pointer (some (Ad zb 0))/\wx.heap[zb]?=some (.cells #[I X1,I X2] 75 (0,0))/\wx.heap[xb+1]?=some (.cells #[I 0,I 0] 75 (0,0))/\gS (fun b=>b=xb+1) Hd lo mb gb w D vr vo { st with mem:=X3 } wx)
 case first =>
  have ZU:Hid (∀(V:World) (g:Nat),xb+1<g->(V.cell? (Ad gb 0)=some (.iface 183 (.pointer (some (Ad mb 0))))/\V.cell? (Ad xb 1)=some (I a)/\V.cell? (Ad xb 2)=some (I n))->∀v0 v1,((V.setCell (Ad g 0) v0).setCell (Ad g 1) v1).cell? (Ad gb 0)=some (.iface 183 (.pointer (some (Ad mb 0))))/\((V.setCell (Ad g 0) v0).setCell (Ad g 1) v1).cell? (Ad xb 1)=some (I a)/\((V.setCell (Ad g 0) v0).setCell (Ad g 1) v1).cell? (Ad xb 2)=some (I n)):=fun V g hg ⟨h0,h1,h2⟩ v0 v1=>by
   have hne:xb≠g:=by omega
   have P9:gb≠g:=by have:=TG.o;omega
   rw[cj _ _ _ _ _ _ hne,cj _ _ _ _ _ _ hne,cj _ _ _ _ _ _ hne,cj _ _ _ _ _ _ hne,cj _ _ _ _ _ _ P9,cj _ _ _ _ _ _ P9];exact⟨h0,h1,h2⟩
  go_region_held3 (fun V=>V.cell? (Ad gb 0)=some (.iface 183 (.pointer (some (Ad mb 0))))/\V.cell? (Ad xb 1)=some (I a)/\V.cell? (Ad xb 2)=some (I n)) (first | exact nU.o | exact yM.o | exact sk.o | exact sL.o _ | exact MR.o _ _ | exact HSZ.o _ _ _)
   (first | (go_at_call 254;refine(HLD.o _ (by first | exact gB.o | exact cH.o)).mono ?_;rintro e w2 ⟨D2,rfl,hm2,hk2,hd2⟩;have HKW:Hid (aC D WA w2):=(by first | exact(aC.drew D WA).trans hk2 (fun _ _ g=>g) | exact((aC.alloc D WA (.cells #[I 0,I 0] 75)).trans (aC.drew D _) (fun _ _ g=>g)).trans hk2 (fun _ _ g=>g));have sk:=ai (HS.o _ HKW.o);have sL:=ai (fun ob=>HS.o _ (HKW.o.trans (aC.alloc D w2 ob) (fun _ _ g=>g)));have MR:=ai (ZU.o w2 WA.heap.size hlx sk.o);have HSZ:=ai (fun ob=>ZU.o (w2.alloc ob) w2.heap.size (fD hlx HKW.o.size) (sL.o ob));have Bz:=ai (gS.behind HC.o HG.o (by first | exact gB.o | exact cH.o) (cE.Fg HC.o (HG.o.below HC.o (by first | exact gB.o | exact cH.o)) hm2 hk2 hd2));have BY2:Hid (w2.heap[xb+1]?=some (.cells #[I 0,I 0] 75 (0,0))):=HKW.o.keep BY.o HNY.o;(try (have yZ:=ai (hk2.keep (w:=(WA.alloc (.cells #[I 0,I 0] 75)).drew) (bB WA #[I 0,I 0] 75) HNZ.o);have z0:=aq (v:=I 0) yZ.o 0 rfl;have z1:=aq (v:=I 0) yZ.o 1 rfl;have z2:=aO yZ.o 0;have z3:=aO yZ.o 1));clear hm2 hk2 hd2))
  all_goals
   go_wp2_with fail
   go_meet
   case rel =>
    first
    | exact⟨_,rfl,rfl,bB w2 _ _,bk BY2.o _,(Bz.o.more HC.o ((aK _ _).alloc (aD _) _)).sub (fun b e=>by subst e;exact⟨by have:=TG.o;omega,hlx⟩)⟩
    | exact⟨_,rfl,rfl,fP (fP yZ.o 0 _) 1 _,mv (mv BY2.o WA.heap.size 0 _ (by omega)) WA.heap.size 1 _ (by omega),((Bz.o.set HC.o (Ad WA.heap.size 0) _ ⟨jm.o.size,by show WA.heap.size<(WA.alloc _).heap.size;rw[gh];omega⟩ jm.o.size).set HC.o (Ad WA.heap.size 1) _ ⟨jm.o.size,by show WA.heap.size<(WA.alloc _).heap.size;rw[gh];omega⟩ jm.o.size).sub (fun b e=>by subst e;exact⟨by have:=TG.o;omega,by show _<(WA.alloc _).heap.size;rw[gh];omega⟩)⟩
 case rest =>
  obtain⟨zb,rfl,rfl,hz,hy,hl⟩:=hcut;have HZ:=ai hz;have HY:=ai hy;have HL:=ai hl;have z0:=aq (v:=I X1) hz 0 rfl;have z1:=aq (v:=I X2) hz 1 rfl;have y0:=aq (v:=I 0) hy 0 rfl;have y1:=aq (v:=I 0) hy 1 rfl;have f0:=aO hy 0;have f1:=aO hy 1;clear hz hy hl HS nU yM gB cH;go_wp2_with (go_at_call 195;refine(HGT.o _).mono ?_;rintro e w3 ⟨x,rfl,rfl⟩)
  go_region
  all_goals
   go_wp2;refine bI (v:=.tuple #[I G,.agg #[I X1,I X2]]) (by simp[results,Tryz.results150,go_sem,y0,y1]) rfl ?_;rw[HR.o];exact⟨rfl,(((HL.o.more HC.o (aK _ _).drew).set HC.o (Ad (xb+1) 0) _ rfl (by show w.heap.size<=xb+1;have:=TG.o;omega)).set HC.o (Ad (xb+1) 1) _ rfl (by show w.heap.size<=xb+1;have:=TG.o;omega)).left⟩
theorem NZ {i:dU} (hb:i.bad=false) (h:i.op=9∨i.op=10):1<=i.c/\i.c<=8:=by
 unfold dU.bad at hb;rw[au (by omega),au (by omega),au (by omega),au (by omega),au (by omega),aB h] at hb;unfold oD at hb;simp at hb;omega
theorem ZQ {i:dU} (hb:i.bad=false) (h:i.op=16):1<=i.m/\i.m<=6:=by
 unfold dU.bad at hb;rw[au (by omega),aB h] at hb;simpa using hb
theorem TI (C:iC lo mb Hd Ok o) (k:Nat) (i:dU) (w:World) (h:fH Hd lo mb gb w D vr vo st) (hok:dh Ok st) (hk:k<st.ps.length) (h1:(aI st.ps k).st=1) :
  Calls Tryz.prog 150 #[.pointer (some (Ad gb 0)),I (k:Int),.agg (pD (aI st.ps k) i)] w fun e w'=>e=.returned (.tuple #[I (eX o st k i).1.1,.agg (gW (eX o st k i).1.2)])/\cE Hd lo mb gb w D vr vo (eX o st k i).2 w':=by
 by_cases hb:i.bad=true
 · have e1:pD (aI st.ps k) i=#[I 4,I 0,I 0,I 0,I 0]:=by unfold pD;rw[aB hb]
   rw[e1];exact ab4 C k w h hok hk h1 _ (by unfold eX;rw[aB hb])
 · have hb':i.bad=false:=by simpa using hb
   by_cases c9:i.op=9
   · have hsz:=NZ hb' (.inl c9);have e1:pD (aI st.ps k) i=#[I 1,I (wrap64 ((aI st.ps k).r i.b.toNat+i.m)),I i.c,I 0,I 0]:=by unfold pD;rw[au hb,aB c9]
     rw[e1];exact ab7 C k _ _ w h hok hk h1 _ (pZ _) hsz.1 hsz.2 (by unfold eX;rw[au hb,aB c9])
   · by_cases c10:i.op=10
     · have hsz:=NZ hb' (.inr c10);obtain⟨m,hm⟩:∃m:Nat,i.c=(m:Int):=⟨i.c.toNat,by omega⟩;have e1:pD (aI st.ps k) i=#[I 2,I (wrap64 ((aI st.ps k).r i.b.toNat+i.m)),I (m:Int),I ((aI st.ps k).r i.a.toNat),I 0]:=by unfold pD;rw[au hb,au c9,aB c10,hm]
       rw[e1];exact ab6 C k _ _ m w h hok hk h1 _ (pZ _) (by omega) (by omega) (by unfold eX;rw[au hb,au c9,aB c10,hm])
     · by_cases c16:i.op=16
       · have e1:pD (aI st.ps k) i=#[I 3,I 0,I 0,I 0,I i.m]:=by unfold pD;rw[au hb,au c9,au c10,aB c16]
         rw[e1];exact ab5 C k i.m w h hok hk h1 _ (ZQ hb' c16) (by unfold eX;rw[au hb,au c9,au c10,aB c16])
       · have e1:pD (aI st.ps k) i=#[I 0,I 0,I 0,I 0,I 0]:=by unfold pD;rw[au hb,au c9,au c10,au c16]
         rw[e1];exact ab8 C k w h hok hk h1 _ (by unfold eX;rw[au hb,au c9,au c10,au c16])
open Go.RowKit
variable {σ:Type} {Hd:World->(Nat->Prop)->σ->Prop} {Ok:σ->List Bool->Prop} {o:gH σ} {lo mb gb:Nat} {D:Nat->Prop} {vr vo:Value} {st:df σ}
theorem NY (C:iC lo mb Hd Ok o) (k:Nat) (s:ByteArray) (v:Int) (w:World) (h:fH Hd lo mb gb w D vr vo st) (Fk:st.ps.length<=1000) (hk:k<st.ps.length) (h8:s.size=8) (hbad:(ik s).bad=false) :
  Calls Tryz.prog 151 #[.pointer (some (Ad gb 0)),I (k:Int),.string s,I v] w fun e w'=>e=.returned (.tuple #[])/\cE Hd lo mb gb w D vr vo { st with ps:=st.ps.set k (dg (aI st.ps k) (ik s) v) } w':=by
 have HG:=ai h;have HC:=ai C;obtain⟨pb,cap,E6,hpb,hpc,P6⟩:=h.proc k hk;have mD:=ai hpc;have HPF:=ai P6;have HDN:=ai (fun V=>YL (aI st.ps k) s v V h8 hbad);obtain⟨q,hq⟩:=ex (aI st.ps k);rw[<- hq] at mD HDN ⊢;obtain⟨N,hN⟩:=ex (dg q (ik s) v);rw[<- hN] at HDN ⊢;obtain⟨n,hn⟩:=ex st.ps.length;rw[<- hn] at E6 hk Fk;have HN:=ai hn;subst E6;have Jj:(k:Int)<(n:Int):=by omega
 have Xu:Hid (∀V,Calls Tryz.prog 197 #[.agg #[I (q.r 0),I (q.r 1),I (q.r 2),I (q.r 3),I (q.r 4),I (q.r 5),I (q.r 6),I (q.r 7),I q.pc,I q.st,I q.cd,I q.fk,I q.fa],.string s,I v] V fun e w'=>e=.returned (.tuple #[.agg #[I (N.r 0),I (N.r 1),I (N.r 2),I (N.r 3),I (N.r 4),I (N.r 5),I (N.r 6),I (N.r 7),I N.pc,I N.st,I N.cd,I N.fk,I N.fa],I 0])/\Below V.heap.size V w'):=HDN;have g1:w.cell? (Ad gb 1)=some (.slice (some (Ad pb 0)) n cap):=aq HG.o.head 1 rfl;have hgb:=aJ HG.o.head;have c0:w.cell? (Ad pb (k*13))=some (I (q.r 0)):=mD.o 0 (by omega);have c1:w.cell? (Ad pb (k*13+1))=some (I (q.r 1)):=mD.o 1 (by omega);have c2:w.cell? (Ad pb (k*13+2))=some (I (q.r 2)):=mD.o 2 (by omega);have c3:w.cell? (Ad pb (k*13+3))=some (I (q.r 3)):=mD.o 3 (by omega);have c4:w.cell? (Ad pb (k*13+4))=some (I (q.r 4)):=mD.o 4 (by omega);have c5:w.cell? (Ad pb (k*13+5))=some (I (q.r 5)):=mD.o 5 (by omega);have c6:w.cell? (Ad pb (k*13+6))=some (I (q.r 6)):=mD.o 6 (by omega);have c7:w.cell? (Ad pb (k*13+7))=some (I (q.r 7)):=mD.o 7 (by omega);have c8:w.cell? (Ad pb (k*13+8))=some (I q.pc):=mD.o 8 (by omega);have c9:w.cell? (Ad pb (k*13+9))=some (I q.st):=mD.o 9 (by omega);have c10:w.cell? (Ad pb (k*13+10))=some (I q.cd):=mD.o 10 (by omega);have c11:w.cell? (Ad pb (k*13+11))=some (I q.fk):=mD.o 11 (by omega);have c12:w.cell? (Ad pb (k*13+12))=some (I q.fa):=mD.o 12 (by omega);have ub:=ai (aK w.heap.size w).drew;clear hq hN hn hpc P6 h C HDN mD h8 hbad;go_enter Tryz.func151,Tryz.ntmps151;go_wp2_with fail
 go_region_law (go_simp;go_at_call 197;refine(Xu.o _).mono ?_;rintro e w1 ⟨rfl,amr⟩;have hb1:=ub.o.trans amr;have cH:=ai hb1;have d0:w1.cell? (Ad pb (k*13))=some (I (q.r 0)):=(hb1.cell (p:=(Ad pb (k*13))) hpb).trans c0;have d1:w1.cell? (Ad pb (k*13+1))=some (I (q.r 1)):=(hb1.cell (p:=(Ad pb (k*13+1))) hpb).trans c1;have d2:w1.cell? (Ad pb (k*13+2))=some (I (q.r 2)):=(hb1.cell (p:=(Ad pb (k*13+2))) hpb).trans c2;have d3:w1.cell? (Ad pb (k*13+3))=some (I (q.r 3)):=(hb1.cell (p:=(Ad pb (k*13+3))) hpb).trans c3;have d4:w1.cell? (Ad pb (k*13+4))=some (I (q.r 4)):=(hb1.cell (p:=(Ad pb (k*13+4))) hpb).trans c4;have d5:w1.cell? (Ad pb (k*13+5))=some (I (q.r 5)):=(hb1.cell (p:=(Ad pb (k*13+5))) hpb).trans c5;have d6:w1.cell? (Ad pb (k*13+6))=some (I (q.r 6)):=(hb1.cell (p:=(Ad pb (k*13+6))) hpb).trans c6;have d7:w1.cell? (Ad pb (k*13+7))=some (I (q.r 7)):=(hb1.cell (p:=(Ad pb (k*13+7))) hpb).trans c7;have d8:w1.cell? (Ad pb (k*13+8))=some (I q.pc):=(hb1.cell (p:=(Ad pb (k*13+8))) hpb).trans c8;have d9:w1.cell? (Ad pb (k*13+9))=some (I q.st):=(hb1.cell (p:=(Ad pb (k*13+9))) hpb).trans c9;have d10:w1.cell? (Ad pb (k*13+10))=some (I q.cd):=(hb1.cell (p:=(Ad pb (k*13+10))) hpb).trans c10;have d11:w1.cell? (Ad pb (k*13+11))=some (I q.fk):=(hb1.cell (p:=(Ad pb (k*13+11))) hpb).trans c11;have d12:w1.cell? (Ad pb (k*13+12))=some (I q.fa):=(hb1.cell (p:=(Ad pb (k*13+12))) hpb).trans c12;have f1:∀j,w1.frozen? (Ad pb j)=false:=(fun j=>(hb1.frozen (p:=(Ad pb j)) hpb).trans (HPF.o j));have x1:w1.cell? (Ad gb 1)=some (.slice (some (Ad pb 0)) n cap):=(hb1.cell (p:=(Ad gb 1)) hgb).trans g1;clear hb1 amr;go_simp)
 all_goals
  clear Xu HPF;go_wp2
  go_end0
  exact⟨rfl,cE.after cH.o ((HG.o.below HC.o cH.o).aoM HC.o k (by rw[<- HN.o];exact hk) HN.o N)⟩
open Go.RowKit
def mq (i:dU) (n:Nat) (ps:List bO):Nat->List bO
 | 0=>ps
 | j+1=>(mq i n ps j).set (n+j) (dg (aI (mq i n ps j) (n+j)) i 0)
theorem pN (i:dU) (n:Nat) (ps:List bO):∀j,(mq i n ps j).length=ps.length
 | 0=>rfl
 | j+1=>by show((mq i n ps j).set _ _).length=_;rw[fC];exact pN i n ps j
theorem GH (i:dU) (n:Nat) (ps:List bO):∀j m,n+j<=ps.length->(mq i n ps j)[m]?=if n<=m/\m<n+j then ps[m]?.map (fun p=>dg p i 0) else ps[m]?
 | 0,m,_=>by rw[au (by omega)];rfl
 | j+1,m,h=>by
  show((mq i n ps j).set (n+j) (dg (aI (mq i n ps j) (n+j)) i 0))[m]?=_;have ih:=GH i n ps j;have hl:=pN i n ps j;rw[Ha];by_cases e:n+j=m
  · subst e;have hlt:n+j<ps.length:=by omega
    rw[aB rfl,aB (by omega),aB (by omega),l6 hlt];have hq:aI (mq i n ps j) (n+j)=ps[n+j]:=by
     unfold aI;rw[fK,ih (n+j) (by omega),au (by omega),l6 hlt];rfl
    rw[hq];rfl
  · rw[au e,ih m (by omega)];by_cases c:n<=m/\m<n+j
    · rw[aB c,aB (by omega)]
    · rw[au c,au (by omega)]
theorem RZ (i:dU) (n:Nat) (ps:List bO) (h:n<=ps.length):mq i n ps (ps.length-n)=kQ i n ps:=by
 apply Dw;intro m;rw[GH i n ps _ m (by omega)];unfold kQ;by_cases c:m<n
 · rw[au (by omega),Hf (by rw[vT];omega),List.getElem?_take_of_lt c]
 · rw[zj (by rw[vT];omega),vT,Vb h,AQ,Vl,show n+(m-n)=m by omega];by_cases c2:m<ps.length
   · rw[aB (by omega)]
   · rw[au (by omega),PF (by omega)];rfl
end Go.Proofs.YtlgoihmkgaaemaaGreat
