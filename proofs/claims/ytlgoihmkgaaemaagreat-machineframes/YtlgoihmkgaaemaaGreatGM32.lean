import Derived.Test.YtlgoihmkgaaemaaGreatGM31
set_option maxHeartbeats 20000000
set_option linter.unusedVariables false
set_option maxRecDepth 100000
set_option linter.unusedSimpArgs false
namespace Go.Proofs.YtlgoihmkgaaemaaGreat
open Go.RowKit
variable {σ:Type} {Hd:World->(Nat->Prop)->σ->Prop} {Ok:σ->List Bool->Prop} {o:gN σ} {lo mb gb:Nat} {D:Nat->Prop} {vr vo:Value} {st:dA σ}
theorem abp (C:iu lo mb Hd Ok o) (k:Nat) (w:World) (h:fQ Hd lo mb gb w D vr vo st) (hok:dK Ok st) (hk:k<st.ps.length) (h1:(aK st.ps k).st=1) (R:(Int×(Int×Int))×dA σ) (hR:R=((0,(0,0)),st)) :
  Calls Tryz.prog 150 #[.pointer (some (Ad gb 0)),I (k:Int),.agg #[I 0,I 0,I 0,I 0,I 0]] w fun e w'=>e=.returned (.tuple #[I R.1.1,.agg (gL R.1.2)])/\cD Hd lo mb gb w D vr vo R.2 w':=by
 have HG:=ai h;have HC:=ai C;have Nw:=ai hok;have Th:=ai (ij k hk h1);have uY:=ai hk;have HH1:=ai h1;have HR:=ai hR;have EM:st.ps.length<=4:=by have:=C.ok.few _ _ hok.mem;unfold bX at this;rw[gV] at this;exact this
 have Q3:=ai (hok.fit k hk);have hgb:=aI h.head;have g0:w.cell? (Ad gb 0)=some (.iface 183 (.pointer (some (Ad mb 0)))):=aq h.head 0 rfl;have g1:w.cell? (Ad gb 1)=some vr:=aq h.head 1 rfl;have kX:=ai (((aJ w.heap.size w).alloc (aH _) (.cells #[I 0,I 0,I 0,I 0,I 0] 110)).alloc (by simp) (.cells #[I 0,I 0] 75));have BX:=ai (bl (bD w #[I 0,I 0,I 0,I 0,I 0] 110) (.cells #[I 0,I 0] 75));have BY:Hid (((w.alloc (.cells #[I 0,I 0,I 0,I 0,I 0] 110)).alloc (.cells #[I 0,I 0] 75)).heap[w.heap.size+1]?=some (.cells #[I 0,I 0] 75 (0,0))):=by
  have:=bD (w.alloc (.cells #[I 0,I 0,I 0,I 0,I 0] 110)) #[I 0,I 0] 75;rw[fM] at this;exact this
 clear hR hok;clear h C hk h1;go_enter Tryz.func150,Tryz.ntmps150;go_wp2;refine bK (v:=.tuple #[I 0,.agg #[I 0,I 0]]) (by simp[results,Tryz.results150,go_sem]) rfl ?_;rw[HR.o];exact⟨rfl,cD.after kX.o (cD.refl (HG.o.below HC.o kX.o))⟩
theorem abl (C:iu lo mb Hd Ok o) (k:Nat) (w:World) (h:fQ Hd lo mb gb w D vr vo st) (hok:dK Ok st) (hk:k<st.ps.length) (h1:(aK st.ps k).st=1) (R:(Int×(Int×Int))×dA σ) (hR:R=((0,(4,(aK st.ps k).pc)),st)) :
  Calls Tryz.prog 150 #[.pointer (some (Ad gb 0)),I (k:Int),.agg #[I 4,I 0,I 0,I 0,I 0]] w fun e w'=>e=.returned (.tuple #[I R.1.1,.agg (gL R.1.2)])/\cD Hd lo mb gb w D vr vo R.2 w':=by
 have HG:=ai h;have HC:=ai C;have Nw:=ai hok;have Th:=ai (ij k hk h1);have uY:=ai hk;have HH1:=ai h1;have HR:=ai hR;have EM:st.ps.length<=4:=by have:=C.ok.few _ _ hok.mem;unfold bX at this;rw[gV] at this;exact this
 have Q3:=ai (hok.fit k hk);have hgb:=aI h.head;have g0:w.cell? (Ad gb 0)=some (.iface 183 (.pointer (some (Ad mb 0)))):=aq h.head 0 rfl;have g1:w.cell? (Ad gb 1)=some vr:=aq h.head 1 rfl;have kX:=ai (((aJ w.heap.size w).alloc (aH _) (.cells #[I 4,I 0,I 0,I 0,I 0] 110)).alloc (by simp) (.cells #[I 0,I 0] 75));have BX:=ai (bl (bD w #[I 4,I 0,I 0,I 0,I 0] 110) (.cells #[I 0,I 0] 75));have BY:Hid (((w.alloc (.cells #[I 4,I 0,I 0,I 0,I 0] 110)).alloc (.cells #[I 0,I 0] 75)).heap[w.heap.size+1]?=some (.cells #[I 0,I 0] 75 (0,0))):=by
  have:=bD (w.alloc (.cells #[I 4,I 0,I 0,I 0,I 0] 110)) #[I 0,I 0] 75;rw[fM] at this;exact this
 clear hR hok;obtain⟨pb,cap,EL,hpb,hpc,Pw⟩:=h.proc k hk;obtain⟨pc,aiK⟩:=ex ((aK st.ps k).pc);rw[<- aiK] at HR;have c8:w.cell? (Ad pb (k*13+8))=some (I pc):=by rw[aiK];exact hpc 8 (by omega)
 obtain⟨n,hn⟩:=ex st.ps.length;rw[<- hn] at EL hk EM;subst EL;have JL:(k:Int)<(n:Int):=by omega
 have aiL:¬pb=w.heap.size:=by omega
 have ak7:¬gb=w.heap.size:=by omega
 clear h C h1 hpc Pw aiK hn;go_enter Tryz.func150,Tryz.ntmps150;go_wp2;go_region;go_wp2;refine bK (v:=.tuple #[I 0,.agg #[I 4,I pc]]) (by simp[results,Tryz.results150,go_sem]) rfl ?_;rw[HR.o];have hb:Below w.heap.size w ((w.alloc (.cells #[I 4,I 0,I 0,I 0,I 0] 110)).alloc (.cells #[I 4,I pc] 75)).drew:=(((aJ w.heap.size w).alloc (aH _) _).alloc (by simp) _).drew;exact⟨rfl,cD.after hb (cD.refl (HG.o.below HC.o hb))⟩
theorem abm (C:iu lo mb Hd Ok o) (k:Nat) (c:Int) (w:World) (h:fQ Hd lo mb gb w D vr vo st) (hok:dK Ok st) (hk:k<st.ps.length) (h1:(aK st.ps k).st=1) (R:(Int×(Int×Int))×dA σ) (hc:1<=c/\c<=6) (hR:R=(((fh o st k c).1,(0,0)),(fh o st k c).2)) :
  Calls Tryz.prog 150 #[.pointer (some (Ad gb 0)),I (k:Int),.agg #[I 3,I 0,I 0,I 0,I c]] w fun e w'=>e=.returned (.tuple #[I R.1.1,.agg (gL R.1.2)])/\cD Hd lo mb gb w D vr vo R.2 w':=by
 have HG:=ai h;have HC:=ai C;have Nw:=ai hok;have Th:=ai (ij k hk h1);have uY:=ai hk;have HH1:=ai h1;have HR:=ai hR;have EM:st.ps.length<=4:=by have:=C.ok.few _ _ hok.mem;unfold bX at this;rw[gV] at this;exact this
 have Q3:=ai (hok.fit k hk);have hgb:=aI h.head;have g0:w.cell? (Ad gb 0)=some (.iface 183 (.pointer (some (Ad mb 0)))):=aq h.head 0 rfl;have g1:w.cell? (Ad gb 1)=some vr:=aq h.head 1 rfl;have kX:=ai (((aJ w.heap.size w).alloc (aH _) (.cells #[I 3,I 0,I 0,I 0,I c] 110)).alloc (by simp) (.cells #[I 0,I 0] 75));have BX:=ai (bl (bD w #[I 3,I 0,I 0,I 0,I c] 110) (.cells #[I 0,I 0] 75));have BY:Hid (((w.alloc (.cells #[I 3,I 0,I 0,I 0,I c] 110)).alloc (.cells #[I 0,I 0] 75)).heap[w.heap.size+1]?=some (.cells #[I 0,I 0] 75 (0,0))):=by
  have:=bD (w.alloc (.cells #[I 3,I 0,I 0,I 0,I c] 110)) #[I 0,I 0] 75;rw[fM] at this;exact this
 clear hR hok;have Oj:=ai (fun V (hV:Below w.heap.size w V)=>Za C k c V (h.below C hV) Nw.o hk h1 hc);obtain⟨X,hX⟩:=ex (fh o st k c);rw[<- hX] at Oj HR;clear h C hX h1;go_enter Tryz.func150,Tryz.ntmps150;go_wp2_with (go_at_call 196;refine(Oj.o _ kX.o).mono ?_;rintro e w1 ⟨rfl,PC⟩;have ZB:=ai (gH.behind HC.o HG.o kX.o PC);obtain⟨_,_,_,_,hkk,_⟩:=PC;have BY1:=ai (HG.o.aside HC.o hkk (by omega) BY.o);have y0:=aq (v:=I 0) BY1.o 0 rfl;have y1:=aq (v:=I 0) BY1.o 1 rfl;have z0:=aQ BY1.o 0;have z1:=aQ BY1.o 1;clear hkk)
 refine bK (v:=.tuple #[I X.1,.agg #[I 0,I 0]]) (by simp[results,Tryz.results150,go_sem,y0,y1]) rfl ?_;rw[HR.o];have hy:w.heap.size<=w.heap.size+1/\w.heap.size+1<((w.alloc (.cells #[I 3,I 0,I 0,I 0,I c] 110)).alloc (.cells #[I 0,I 0] 75)).heap.size:=⟨by omega,aI BY.o⟩;exact⟨rfl,((ZB.o.set HC.o (Ad (w.heap.size+1) 0) _ hy hy.1).set HC.o (Ad (w.heap.size+1) 1) _ hy hy.1).left⟩
open Go.RowKit
variable {σ:Type} {Hd:World->(Nat->Prop)->σ->Prop} {Ok:σ->List Bool->Prop} {o:gN σ} {lo mb gb:Nat} {D:Nat->Prop} {vr vo:Value} {st:dA σ}
theorem abn (C:iu lo mb Hd Ok o) (k:Nat) (a v:Int) (m:Nat) (w:World) (h:fQ Hd lo mb gb w D vr vo st) (hok:dK Ok st) (hk:k<st.ps.length) (h1:(aK st.ps k).st=1) (R:(Int×(Int×Int))×dA σ) (ha:cK a) (nC:1<=m) (hm8:m<=8) (hR:R=((0,(o.store st.mem k a (mP v m)).1),{ st with mem:=(o.store st.mem k a (mP v m)).2 })) :
  Calls Tryz.prog 150 #[.pointer (some (Ad gb 0)),I (k:Int),.agg #[I 2,I a,I (m:Int),I v,I 0]] w fun e w'=>e=.returned (.tuple #[I R.1.1,.agg (gL R.1.2)])/\cD Hd lo mb gb w D vr vo R.2 w':=by
 have HG:=ai h;have HC:=ai C;have Nw:=ai hok;have Th:=ai (ij k hk h1);have uY:=ai hk;have HH1:=ai h1;have HR:=ai hR;have EM:st.ps.length<=4:=by have:=C.ok.few _ _ hok.mem;unfold bX at this;rw[gV] at this;exact this
 have Q3:=ai (hok.fit k hk);have hgb:=aI h.head;have g0:w.cell? (Ad gb 0)=some (.iface 183 (.pointer (some (Ad mb 0)))):=aq h.head 0 rfl;have g1:w.cell? (Ad gb 1)=some vr:=aq h.head 1 rfl;have kX:=ai (((aJ w.heap.size w).alloc (aH _) (.cells #[I 2,I a,I (m:Int),I v,I 0] 110)).alloc (by simp) (.cells #[I 0,I 0] 75));have BX:=ai (bl (bD w #[I 2,I a,I (m:Int),I v,I 0] 110) (.cells #[I 0,I 0] 75));have BY:Hid (((w.alloc (.cells #[I 2,I a,I (m:Int),I v,I 0] 110)).alloc (.cells #[I 0,I 0] 75)).heap[w.heap.size+1]?=some (.cells #[I 0,I 0] 75 (0,0))):=by
  have:=bD (w.alloc (.cells #[I 2,I a,I (m:Int),I v,I 0] 110)) #[I 0,I 0] 75;rw[fM] at this;exact this
 clear hR hok;have HPU:Hid (∀V,Calls Tryz.prog 169 #[I v,I (m:Int)] V fun e w'=>e=.returned (.tuple #[.string (mP v m),I 0])/\Below V.heap.size V w'):=fun V=>by
  have:=ab2 v m V nC hm8;unfold mP;rw[lD];exact this
 have hds:(mP v m).size=m:=by
  unfold mP;rw[lD];show(Lib.leBytes m (mz v)).toArray.size=m;simp[Lib.leBytes_length]
 have HST:Hid (∀V,Below w.heap.size w V->Calls Tryz.prog 257 #[.pointer (some (Ad mb 0)),I (k:Int),I a,.string (mP v m)] V (nV Hd V D (.agg (gL (o.store st.mem k a (mP v m)).1)) (o.store st.mem k a (mP v m)).2)):=fun V hV=>C.store V D st.mem _ k a (mP v m) (h.below C hV).mem Nw.o.mem Th.o ha (by omega) (by omega)
 obtain⟨X,hX⟩:=ex (o.store st.mem k a (mP v m));rw[<- hX] at HST HR;obtain⟨d,hd⟩:=ex (mP v m);rw[<- hd] at HPU HST;obtain⟨⟨X1,X2⟩,X3⟩:=X;unfold gL at HST;simp only at HST HR;have hm:=QS (Ad mb 0);have hah:=S4 (Ad mb 0);clear h C hX h1 hd hds;go_enter Tryz.func150,Tryz.ntmps150;go_wp2_with (go_at_call 169;refine(HPU.o _).mono ?_;rintro e w1 ⟨rfl,hb1⟩;have cM:=ai (kX.o.trans (hb1.mono kX.o.size));have BX1:=ai (aN BX.o hb1 (aI BX.o));have BY1:=ai (aN BY.o hb1 (aI BY.o));clear hb1)
 have EF:=ai (HG.o.below HC.o cM.o);obtain⟨xb,LM⟩:=ex w.heap.size;rw[<- LM] at BX1 BY1 ⊢;have SX:=ai LM;have HS:Hid (∀V,aC D w1 V->V.cell? (Ad gb 0)=some (.iface 183 (.pointer (some (Ad mb 0))))/\V.cell? (Ad xb 1)=some (I a)):=fun V hb=>by
  have h1:=hb.keep BX1.o (fun g=>by have:=HC.o.dom _ _ _ HG.o.mem _ g;have:=SX.o;omega);have h2:=hb.keep EF.o.head EF.o.n1;exact⟨aq h2 0 rfl,aq h1 1 rfl⟩
 have oh:=ai (HS.o _ (aC.drew _ _));have Ze:Hid (∀V:World,(V.cell? (Ad gb 0)=some (.iface 183 (.pointer (some (Ad mb 0))))/\V.cell? (Ad xb 1)=some (I a))->∀v0 v1,(((V.setCell (Ad (xb+1) 0) v0).setCell (Ad (xb+1) 1) v1).cell? (Ad gb 0)=some (.iface 183 (.pointer (some (Ad mb 0))))/\((V.setCell (Ad (xb+1) 0) v0).setCell (Ad (xb+1) 1) v1).cell? (Ad xb 1)=some (I a))):=fun V ⟨h0,h1⟩ v0 v1=>by
  have hne:xb≠xb+1:=by omega
  have Pz:gb≠xb+1:=by have:=SX.o;omega
  rw[b7 _ _ _ _ _ _ hne,b7 _ _ _ _ _ _ hne,b7 _ _ _ _ _ _ Pz,b7 _ _ _ _ _ _ Pz];exact⟨h0,h1⟩
 clear LM HPU g0 g1
 go_region_held3 (fun V=>V.cell? (Ad gb 0)=some (.iface 183 (.pointer (some (Ad mb 0))))/\V.cell? (Ad xb 1)=some (I a)) (first | exact S6.o _ _ | exact rJ.o | exact oh.o)
  (first | (go_at_call 257;refine(HST.o _ cM.o.drew).mono ?_;rintro e w2 ⟨D2,rfl,hm2,hk2,hd2⟩;have rJ:=ai (HS.o _ ((aC.drew D w1).trans hk2 (fun _ _ g=>g)));have S6:=ai (Ze.o w2 rJ.o);have Bf:=ai (gH.behind HC.o HG.o cM.o.drew (cD.EY HC.o (HG.o.below HC.o cM.o.drew) hm2 hk2 hd2));have BY2:=ai (hk2.keep (w:=w1.drew) BY1.o (fun g=>(by have:=HC.o.dom _ _ _ HG.o.mem _ g;have:=SX.o;omega)));have y0:=aq (v:=I 0) BY2.o 0 rfl;have y1:=aq (v:=I 0) BY2.o 1 rfl;have z0:=aQ BY2.o 0;have z1:=aQ BY2.o 1;clear hm2 hk2 hd2))
 clear S6 Ze HS oh rJ;go_wp2;refine bK (v:=.tuple #[I 0,.agg #[I X1,I X2]]) (by simp[results,Tryz.results150,go_sem,y0,y1]) rfl ?_;rw[HR.o];have hy:w.heap.size<=xb+1/\xb+1<w1.drew.heap.size:=⟨by have:=SX.o;omega,aI BY1.o⟩;exact⟨rfl,((Bf.o.set HC.o (Ad (xb+1) 0) _ hy hy.1).set HC.o (Ad (xb+1) 1) _ hy hy.1).left⟩
open Go.RowKit
variable {σ:Type} {Hd:World->(Nat->Prop)->σ->Prop} {Ok:σ->List Bool->Prop} {o:gN σ} {lo mb gb:Nat} {D:Nat->Prop} {vr vo:Value} {st:dA σ}
theorem abo (C:iu lo mb Hd Ok o) (k:Nat) (a n:Int) (w:World) (h:fQ Hd lo mb gb w D vr vo st) (hok:dK Ok st) (hk:k<st.ps.length) (h1:(aK st.ps k).st=1) (R:(Int×(Int×Int))×dA σ) (ha:cK a) (nC:1<=n) (hm8:n<=8) (hR:R=((El (o.load st.mem k a n 0).1.1,(o.load st.mem k a n 0).1.2),{ st with mem:=(o.load st.mem k a n 0).2 })) :
  Calls Tryz.prog 150 #[.pointer (some (Ad gb 0)),I (k:Int),.agg #[I 1,I a,I n,I 0,I 0]] w fun e w'=>e=.returned (.tuple #[I R.1.1,.agg (gL R.1.2)])/\cD Hd lo mb gb w D vr vo R.2 w':=by
 have HG:=ai h;have HC:=ai C;have Nw:=ai hok;have Th:=ai (ij k hk h1);have uY:=ai hk;have HH1:=ai h1;have HR:=ai hR;have EM:st.ps.length<=4:=by have:=C.ok.few _ _ hok.mem;unfold bX at this;rw[gV] at this;exact this
 have Q3:=ai (hok.fit k hk);have hgb:=aI h.head;have g0:w.cell? (Ad gb 0)=some (.iface 183 (.pointer (some (Ad mb 0)))):=aq h.head 0 rfl;have g1:w.cell? (Ad gb 1)=some vr:=aq h.head 1 rfl;have kX:=ai (((aJ w.heap.size w).alloc (aH _) (.cells #[I 1,I a,I n,I 0,I 0] 110)).alloc (by simp) (.cells #[I 0,I 0] 75));have BX:=ai (bl (bD w #[I 1,I a,I n,I 0,I 0] 110) (.cells #[I 0,I 0] 75));have BY:Hid (((w.alloc (.cells #[I 1,I a,I n,I 0,I 0] 110)).alloc (.cells #[I 0,I 0] 75)).heap[w.heap.size+1]?=some (.cells #[I 0,I 0] 75 (0,0))):=by
  have:=bD (w.alloc (.cells #[I 1,I a,I n,I 0,I 0] 110)) #[I 0,I 0] 75;rw[fM] at this;exact this
 clear hR hok;have HGT:Hid (∀V,Calls Tryz.prog 195 #[.string (o.load st.mem k a n 0).1.1] V fun e w'=>∃x,e=.returned (.tuple #[I (El (o.load st.mem k a n 0).1.1),I x])/\V=w'):=fun V=>by
  have h1:=C.ok.size st.mem _ k a n 0 Nw.o.mem Th.o nC hm8;have h2:=C.ok.none st.mem _ k a n 0 Nw.o.mem Th.o;unfold El;by_cases c:(o.load st.mem k a n 0).1.2.1=0
  · have:=h1 c;rw[aB (by omega)];exact(Rl _ V (by omega) (by omega)).mono fun e w' ⟨g1,g2⟩=>⟨0,g1,g2⟩
  · rw[h2 c,au (by decide)];exact(aec _ V (by unfold maxLen;decide) (by decide)).mono fun e w' ⟨g1,g2⟩=>⟨3,g1,g2⟩
 have HLD:Hid (∀V,Below w.heap.size w V->Calls Tryz.prog 254 #[.pointer (some (Ad mb 0)),I (k:Int),I a,I n,I 0] V (nV Hd V D (.tuple #[.string (o.load st.mem k a n 0).1.1,.agg (gL (o.load st.mem k a n 0).1.2)]) (o.load st.mem k a n 0).2)):=fun V hV=>C.load V D st.mem _ k a n 0 (h.below C hV).mem Nw.o.mem Th.o ha nC hm8 (.inl rfl)
 obtain⟨X,hX⟩:=ex (o.load st.mem k a n 0);rw[<- hX] at HLD HR HGT;obtain⟨⟨d,X1,X2⟩,X3⟩:=X;unfold gL at HLD;simp only at HLD HR HGT;obtain⟨G,hGe⟩:=ex (El d);rw[<- hGe] at HGT HR;have hm:=Iq (Ad mb 0);have hah:=Le (Ad mb 0);clear h C hX h1 hGe;go_enter Tryz.func150,Tryz.ntmps150;go_wp2_with fail
 obtain⟨WA,mj⟩:=ex ((w.alloc (.cells #[I 1,I a,I n,I 0,I 0] 110)).alloc (.cells #[I 0,I 0] 75));rw[<- mj] at kX BX BY ⊢;obtain⟨xb,LM⟩:=ex w.heap.size;rw[<- LM] at BX BY ⊢;have SX:=ai LM;have EF:=ai (HG.o.below HC.o kX.o);have HS:Hid (∀V,aC D WA V->V.cell? (Ad gb 0)=some (.iface 183 (.pointer (some (Ad mb 0))))/\V.cell? (Ad xb 1)=some (I a)/\V.cell? (Ad xb 2)=some (I n)):=fun V hb=>by
  have h1:=hb.keep BX.o (fun g=>by have:=HC.o.dom _ _ _ HG.o.mem _ g;have:=SX.o;omega);have h2:=hb.keep EF.o.head EF.o.n1;exact⟨aq h2 0 rfl,aq h1 1 rfl,aq h1 2 rfl⟩
 have oh:=ai (HS.o _ (aC.drew _ _));have yr:=ai (HS.o (WA.alloc (.cells #[I 0,I 0] 75)).drew ((aC.alloc _ _ _).trans (aC.drew _ _) (fun _ _ g=>g)));have gG:=ai kX.o.drew;have cM:=ai (kX.o.alloc kX.o.size (.cells #[I 0,I 0] 75)).drew;have hlx:=aI BY.o;have HNY:Hid (¬D (xb+1)):=fun g=>by have:=HC.o.dom _ _ _ HG.o.mem _ g;have:=SX.o;omega
 have HNZ:Hid (¬D WA.heap.size):=fun g=>by have:=HC.o.dom _ _ _ HG.o.mem _ g;have:=kX.o.size;omega
 clear LM mj g0 g1;go_cut [8,9] (fun x8 x9 wx=>∃zb,x8=.string d/\x9=.pointer (some (Ad zb 0))/\wx.heap[zb]?=some (.cells #[I X1,I X2] 75 (0,0))/\wx.heap[xb+1]?=some (.cells #[I 0,I 0] 75 (0,0))/\gH (fun b=>b=xb+1) Hd lo mb gb w D vr vo { st with mem:=X3 } wx)
 case first =>
  have Ze:Hid (∀(V:World) (g:Nat),xb+1<g->(V.cell? (Ad gb 0)=some (.iface 183 (.pointer (some (Ad mb 0))))/\V.cell? (Ad xb 1)=some (I a)/\V.cell? (Ad xb 2)=some (I n))->∀v0 v1,((V.setCell (Ad g 0) v0).setCell (Ad g 1) v1).cell? (Ad gb 0)=some (.iface 183 (.pointer (some (Ad mb 0))))/\((V.setCell (Ad g 0) v0).setCell (Ad g 1) v1).cell? (Ad xb 1)=some (I a)/\((V.setCell (Ad g 0) v0).setCell (Ad g 1) v1).cell? (Ad xb 2)=some (I n)):=fun V g hg ⟨h0,h1,h2⟩ v0 v1=>by
   have hne:xb≠g:=by omega
   have Pz:gb≠g:=by have:=SX.o;omega
   rw[b7 _ _ _ _ _ _ hne,b7 _ _ _ _ _ _ hne,b7 _ _ _ _ _ _ hne,b7 _ _ _ _ _ _ hne,b7 _ _ _ _ _ _ Pz,b7 _ _ _ _ _ _ Pz];exact⟨h0,h1,h2⟩
  go_region_held3 (fun V=>V.cell? (Ad gb 0)=some (.iface 183 (.pointer (some (Ad mb 0))))/\V.cell? (Ad xb 1)=some (I a)/\V.cell? (Ad xb 2)=some (I n)) (first | exact oh.o | exact yr.o | exact rJ.o | exact si.o _ | exact S6.o _ _ | exact HSZ.o _ _ _)
   (first | (go_at_call 254;refine(HLD.o _ (by first | exact gG.o | exact cM.o)).mono ?_;rintro e w2 ⟨D2,rfl,hm2,hk2,hd2⟩;have HKW:Hid (aC D WA w2):=(by first | exact(aC.drew D WA).trans hk2 (fun _ _ g=>g) | exact((aC.alloc D WA (.cells #[I 0,I 0] 75)).trans (aC.drew D _) (fun _ _ g=>g)).trans hk2 (fun _ _ g=>g));have rJ:=ai (HS.o _ HKW.o);have si:=ai (fun ob=>HS.o _ (HKW.o.trans (aC.alloc D w2 ob) (fun _ _ g=>g)));have S6:=ai (Ze.o w2 WA.heap.size hlx rJ.o);have HSZ:=ai (fun ob=>Ze.o (w2.alloc ob) w2.heap.size (fV hlx HKW.o.size) (si.o ob));have Bf:=ai (gH.behind HC.o HG.o (by first | exact gG.o | exact cM.o) (cD.EY HC.o (HG.o.below HC.o (by first | exact gG.o | exact cM.o)) hm2 hk2 hd2));have BY2:Hid (w2.heap[xb+1]?=some (.cells #[I 0,I 0] 75 (0,0))):=HKW.o.keep BY.o HNY.o;(try (have yH:=ai (hk2.keep (w:=(WA.alloc (.cells #[I 0,I 0] 75)).drew) (bD WA #[I 0,I 0] 75) HNZ.o);have z0:=aq (v:=I 0) yH.o 0 rfl;have z1:=aq (v:=I 0) yH.o 1 rfl;have z2:=aQ yH.o 0;have z3:=aQ yH.o 1));clear hm2 hk2 hd2))
  all_goals
   go_wp2_with fail
   go_meet
   case rel =>
    first
    | exact⟨_,rfl,rfl,bD w2 _ _,bl BY2.o _,(Bf.o.more HC.o ((aJ _ _).alloc (aH _) _)).sub (fun b e=>by subst e;exact⟨by have:=SX.o;omega,hlx⟩)⟩
    | exact⟨_,rfl,rfl,fF (fF yH.o 0 _) 1 _,mh (mh BY2.o WA.heap.size 0 _ (by omega)) WA.heap.size 1 _ (by omega),((Bf.o.set HC.o (Ad WA.heap.size 0) _ ⟨kX.o.size,by show WA.heap.size<(WA.alloc _).heap.size;rw[fM];omega⟩ kX.o.size).set HC.o (Ad WA.heap.size 1) _ ⟨kX.o.size,by show WA.heap.size<(WA.alloc _).heap.size;rw[fM];omega⟩ kX.o.size).sub (fun b e=>by subst e;exact⟨by have:=SX.o;omega,by show _<(WA.alloc _).heap.size;rw[fM];omega⟩)⟩
 case rest =>
  obtain⟨zb,rfl,rfl,hz,hy,hl⟩:=hcut;have HZ:=ai hz;have HY:=ai hy;have HL:=ai hl;have z0:=aq (v:=I X1) hz 0 rfl;have z1:=aq (v:=I X2) hz 1 rfl;have y0:=aq (v:=I 0) hy 0 rfl;have y1:=aq (v:=I 0) hy 1 rfl;have f0:=aQ hy 0;have f1:=aQ hy 1;clear hz hy hl HS oh yr gG cM;go_wp2_with (go_at_call 195;refine(HGT.o _).mono ?_;rintro e w3 ⟨x,rfl,rfl⟩)
  go_region
  all_goals
   go_wp2;refine bK (v:=.tuple #[I G,.agg #[I X1,I X2]]) (by simp[results,Tryz.results150,go_sem,y0,y1]) rfl ?_;rw[HR.o];exact⟨rfl,(((HL.o.more HC.o (aJ _ _).drew).set HC.o (Ad (xb+1) 0) _ rfl (by show w.heap.size<=xb+1;have:=SX.o;omega)).set HC.o (Ad (xb+1) 1) _ rfl (by show w.heap.size<=xb+1;have:=SX.o;omega)).left⟩
theorem Nu {i:dR} (hb:i.bad=false) (h:i.op=9∨i.op=10):1<=i.c/\i.c<=8:=by
 unfold dR.bad at hb;rw[au (by omega),au (by omega),au (by omega),au (by omega),au (by omega),aB h] at hb;unfold oc at hb;simp at hb;omega
theorem Zb {i:dR} (hb:i.bad=false) (h:i.op=16):1<=i.m/\i.m<=6:=by
 unfold dR.bad at hb;rw[au (by omega),aB h] at hb;simpa using hb
theorem SZ (C:iu lo mb Hd Ok o) (k:Nat) (i:dR) (w:World) (h:fQ Hd lo mb gb w D vr vo st) (hok:dK Ok st) (hk:k<st.ps.length) (h1:(aK st.ps k).st=1) :
  Calls Tryz.prog 150 #[.pointer (some (Ad gb 0)),I (k:Int),.agg (oX (aK st.ps k) i)] w fun e w'=>e=.returned (.tuple #[I (gq o st k i).1.1,.agg (gL (gq o st k i).1.2)])/\cD Hd lo mb gb w D vr vo (gq o st k i).2 w':=by
 by_cases hb:i.bad=true
 · have e1:oX (aK st.ps k) i=#[I 4,I 0,I 0,I 0,I 0]:=by unfold oX;rw[aB hb]
   rw[e1];exact abl C k w h hok hk h1 _ (by unfold gq;rw[aB hb])
 · have hb':i.bad=false:=by simpa using hb
   by_cases c9:i.op=9
   · have hsz:=Nu hb' (.inl c9);have e1:oX (aK st.ps k) i=#[I 1,I (wrap64 ((aK st.ps k).r i.b.toNat+i.m)),I i.c,I 0,I 0]:=by unfold oX;rw[au hb,aB c9]
     rw[e1];exact abo C k _ _ w h hok hk h1 _ (pJ _) hsz.1 hsz.2 (by unfold gq;rw[au hb,aB c9])
   · by_cases c10:i.op=10
     · have hsz:=Nu hb' (.inr c10);obtain⟨m,hm⟩:∃m:Nat,i.c=(m:Int):=⟨i.c.toNat,by omega⟩;have e1:oX (aK st.ps k) i=#[I 2,I (wrap64 ((aK st.ps k).r i.b.toNat+i.m)),I (m:Int),I ((aK st.ps k).r i.a.toNat),I 0]:=by unfold oX;rw[au hb,au c9,aB c10,hm]
       rw[e1];exact abn C k _ _ m w h hok hk h1 _ (pJ _) (by omega) (by omega) (by unfold gq;rw[au hb,au c9,aB c10,hm])
     · by_cases c16:i.op=16
       · have e1:oX (aK st.ps k) i=#[I 3,I 0,I 0,I 0,I i.m]:=by unfold oX;rw[au hb,au c9,au c10,aB c16]
         rw[e1];exact abm C k i.m w h hok hk h1 _ (Zb hb' c16) (by unfold gq;rw[au hb,au c9,au c10,aB c16])
       · have e1:oX (aK st.ps k) i=#[I 0,I 0,I 0,I 0,I 0]:=by unfold oX;rw[au hb,au c9,au c10,au c16]
         rw[e1];exact abp C k w h hok hk h1 _ (by unfold gq;rw[au hb,au c9,au c10,au c16])
open Go.RowKit
variable {σ:Type} {Hd:World->(Nat->Prop)->σ->Prop} {Ok:σ->List Bool->Prop} {o:gN σ} {lo mb gb:Nat} {D:Nat->Prop} {vr vo:Value} {st:dA σ}
theorem Nt (C:iu lo mb Hd Ok o) (k:Nat) (s:ByteArray) (v:Int) (w:World) (h:fQ Hd lo mb gb w D vr vo st) (EM:st.ps.length<=1000) (hk:k<st.ps.length) (h8:s.size=8) (hbad:(iB s).bad=false) :
  Calls Tryz.prog 151 #[.pointer (some (Ad gb 0)),I (k:Int),.string s,I v] w fun e w'=>e=.returned (.tuple #[])/\cD Hd lo mb gb w D vr vo { st with ps:=st.ps.set k (cX (aK st.ps k) (iB s) v) } w':=by
 have HG:=ai h;have HC:=ai C;obtain⟨pb,cap,EL,hpb,hpc,Pw⟩:=h.proc k hk;have mr:=ai hpc;have HPF:=ai Pw;have HDN:=ai (fun V=>XU (aK st.ps k) s v V h8 hbad);obtain⟨q,hq⟩:=ex (aK st.ps k);rw[<- hq] at mr HDN ⊢;obtain⟨N,hN⟩:=ex (cX q (iB s) v);rw[<- hN] at HDN ⊢;obtain⟨n,hn⟩:=ex st.ps.length;rw[<- hn] at EL hk EM;have HN:=ai hn;subst EL;have JL:(k:Int)<(n:Int):=by omega
 have Wv:Hid (∀V,Calls Tryz.prog 197 #[.agg #[I (q.r 0),I (q.r 1),I (q.r 2),I (q.r 3),I (q.r 4),I (q.r 5),I (q.r 6),I (q.r 7),I q.pc,I q.st,I q.cd,I q.fk,I q.fa],.string s,I v] V fun e w'=>e=.returned (.tuple #[.agg #[I (N.r 0),I (N.r 1),I (N.r 2),I (N.r 3),I (N.r 4),I (N.r 5),I (N.r 6),I (N.r 7),I N.pc,I N.st,I N.cd,I N.fk,I N.fa],I 0])/\Below V.heap.size V w'):=HDN;have g1:w.cell? (Ad gb 1)=some (.slice (some (Ad pb 0)) n cap):=aq HG.o.head 1 rfl;have hgb:=aI HG.o.head;have c0:w.cell? (Ad pb (k*13))=some (I (q.r 0)):=mr.o 0 (by omega);have c1:w.cell? (Ad pb (k*13+1))=some (I (q.r 1)):=mr.o 1 (by omega);have c2:w.cell? (Ad pb (k*13+2))=some (I (q.r 2)):=mr.o 2 (by omega);have c3:w.cell? (Ad pb (k*13+3))=some (I (q.r 3)):=mr.o 3 (by omega);have c4:w.cell? (Ad pb (k*13+4))=some (I (q.r 4)):=mr.o 4 (by omega);have c5:w.cell? (Ad pb (k*13+5))=some (I (q.r 5)):=mr.o 5 (by omega);have c6:w.cell? (Ad pb (k*13+6))=some (I (q.r 6)):=mr.o 6 (by omega);have c7:w.cell? (Ad pb (k*13+7))=some (I (q.r 7)):=mr.o 7 (by omega);have c8:w.cell? (Ad pb (k*13+8))=some (I q.pc):=mr.o 8 (by omega);have c9:w.cell? (Ad pb (k*13+9))=some (I q.st):=mr.o 9 (by omega);have c10:w.cell? (Ad pb (k*13+10))=some (I q.cd):=mr.o 10 (by omega);have c11:w.cell? (Ad pb (k*13+11))=some (I q.fk):=mr.o 11 (by omega);have c12:w.cell? (Ad pb (k*13+12))=some (I q.fa):=mr.o 12 (by omega);have tM:=ai (aJ w.heap.size w).drew;clear hq hN hn hpc Pw h C HDN mr h8 hbad;go_enter Tryz.func151,Tryz.ntmps151;go_wp2_with fail
 go_region_law (go_simp;go_at_call 197;refine(Wv.o _).mono ?_;rintro e w1 ⟨rfl,alm⟩;have hb1:=tM.o.trans alm;have cM:=ai hb1;have d0:w1.cell? (Ad pb (k*13))=some (I (q.r 0)):=(hb1.cell (p:=(Ad pb (k*13))) hpb).trans c0;have d1:w1.cell? (Ad pb (k*13+1))=some (I (q.r 1)):=(hb1.cell (p:=(Ad pb (k*13+1))) hpb).trans c1;have d2:w1.cell? (Ad pb (k*13+2))=some (I (q.r 2)):=(hb1.cell (p:=(Ad pb (k*13+2))) hpb).trans c2;have d3:w1.cell? (Ad pb (k*13+3))=some (I (q.r 3)):=(hb1.cell (p:=(Ad pb (k*13+3))) hpb).trans c3;have d4:w1.cell? (Ad pb (k*13+4))=some (I (q.r 4)):=(hb1.cell (p:=(Ad pb (k*13+4))) hpb).trans c4;have d5:w1.cell? (Ad pb (k*13+5))=some (I (q.r 5)):=(hb1.cell (p:=(Ad pb (k*13+5))) hpb).trans c5;have d6:w1.cell? (Ad pb (k*13+6))=some (I (q.r 6)):=(hb1.cell (p:=(Ad pb (k*13+6))) hpb).trans c6;have d7:w1.cell? (Ad pb (k*13+7))=some (I (q.r 7)):=(hb1.cell (p:=(Ad pb (k*13+7))) hpb).trans c7;have d8:w1.cell? (Ad pb (k*13+8))=some (I q.pc):=(hb1.cell (p:=(Ad pb (k*13+8))) hpb).trans c8;have d9:w1.cell? (Ad pb (k*13+9))=some (I q.st):=(hb1.cell (p:=(Ad pb (k*13+9))) hpb).trans c9;have d10:w1.cell? (Ad pb (k*13+10))=some (I q.cd):=(hb1.cell (p:=(Ad pb (k*13+10))) hpb).trans c10;have d11:w1.cell? (Ad pb (k*13+11))=some (I q.fk):=(hb1.cell (p:=(Ad pb (k*13+11))) hpb).trans c11;have d12:w1.cell? (Ad pb (k*13+12))=some (I q.fa):=(hb1.cell (p:=(Ad pb (k*13+12))) hpb).trans c12;have f1:∀j,w1.frozen? (Ad pb j)=false:=(fun j=>(hb1.frozen (p:=(Ad pb j)) hpb).trans (HPF.o j));have x1:w1.cell? (Ad gb 1)=some (.slice (some (Ad pb 0)) n cap):=(hb1.cell (p:=(Ad gb 1)) hgb).trans g1;clear hb1 alm;go_simp)
 all_goals
  clear Wv HPF;go_wp2
  go_end0
  exact⟨rfl,cD.after cM.o ((HG.o.below HC.o cM.o).anB HC.o k (by rw[<- HN.o];exact hk) HN.o N)⟩
open Go.RowKit
def ma (i:dR) (n:Nat) (ps:List bO):Nat->List bO
 | 0=>ps
 | j+1=>(ma i n ps j).set (n+j) (cX (aK (ma i n ps j) (n+j)) i 0)
theorem pB (i:dR) (n:Nat) (ps:List bO):∀j,(ma i n ps j).length=ps.length
 | 0=>rfl
 | j+1=>by show((ma i n ps j).set _ _).length=_;rw[fC];exact pB i n ps j
theorem Gm (i:dR) (n:Nat) (ps:List bO):∀j m,n+j<=ps.length->(ma i n ps j)[m]?=if n<=m/\m<n+j then ps[m]?.map (fun p=>cX p i 0) else ps[m]?
 | 0,m,_=>by rw[au (by omega)];rfl
 | j+1,m,h=>by
  show((ma i n ps j).set (n+j) (cX (aK (ma i n ps j) (n+j)) i 0))[m]?=_;have ih:=Gm i n ps j;have hl:=pB i n ps j;rw[GJ];by_cases e:n+j=m
  · subst e;have hlt:n+j<ps.length:=by omega
    rw[aB rfl,aB (by omega),aB (by omega),lR hlt];have hq:aK (ma i n ps j) (n+j)=ps[n+j]:=by
     unfold aK;rw[fy,ih (n+j) (by omega),au (by omega),lR hlt];rfl
    rw[hq];rfl
  · rw[au e,ih m (by omega)];by_cases c:n<=m/\m<n+j
    · rw[aB c,aB (by omega)]
    · rw[au c,au (by omega)]
theorem Rc (i:dR) (n:Nat) (ps:List bO) (h:n<=ps.length):ma i n ps (ps.length-n)=oV i n ps:=by
 apply Df;intro m;rw[Gm i n ps _ m (by omega)];unfold oV;by_cases c:m<n
 · rw[au (by omega),GN (by rw[vq];omega),List.getElem?_take_of_lt c]
 · rw[yP (by rw[vq];omega),vq,Um h,Aq,Uv,show n+(m-n)=m by omega];by_cases c2:m<ps.length
   · rw[aB (by omega)]
   · rw[au (by omega),O9 (by omega)];rfl
end Go.Proofs.YtlgoihmkgaaemaaGreat
