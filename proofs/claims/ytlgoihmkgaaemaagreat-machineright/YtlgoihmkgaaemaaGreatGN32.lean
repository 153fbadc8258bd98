import Derived.Test.YtlgoihmkgaaemaaGreatGN31
set_option maxHeartbeats 20000000
set_option linter.unusedVariables false
set_option maxRecDepth 100000
set_option linter.unusedSimpArgs false
namespace Go.Proofs.YtlgoihmkgaaemaaGreat
open Go.RowKit
variable {σ:Type} {Hd:World->(Nat->Prop)->σ->Prop} {Ok:σ->List Bool->Prop} {o:gH σ} {lo mb gb:Nat} {D:Nat->Prop} {vr vo:Value} {st:dE σ}
theorem ab0 (C:iB lo mb Hd Ok o) (k:Nat) (w:World) (h:fW Hd lo mb gb w D vr vo st) (hok:dh Ok st) (hk:k<st.ps.length) (h1:(aN st.ps k).st=1) (R:(Int×(Int×Int))×dE σ) (hR:R=((0,(0,0)),st)) :
  Calls Tryz.prog 150 #[.pointer (some (Ad gb 0)),I (k:Int),.agg #[I 0,I 0,I 0,I 0,I 0]] w fun e w'=>e=.returned (.tuple #[I R.1.1,.agg (gU R.1.2)])/\cJ Hd lo mb gb w D vr vo R.2 w':=by
 have HG:=ai h;have HC:=ai C;have NM:=ai hok;have TE:=ai (ir k hk h1);have vD:=ai hk;have HH1:=ai h1;have HR:=ai hR;have Hc:st.ps.length<=4:=by have:=C.ok.few _ _ hok.mem;unfold b7 at this;rw[ia] at this;exact this
 have Rm:=ai (hok.fit k hk);have hgb:=aJ h.head;have g0:w.cell? (Ad gb 0)=some (.iface 183 (.pointer (some (Ad mb 0)))):=au h.head 0 rfl;have g1:w.cell? (Ad gb 1)=some vr:=au h.head 1 rfl;have lh:=ai (((aK w.heap.size w).alloc (aI _) (.cells #[I 0,I 0,I 0,I 0,I 0] 110)).alloc (by simp) (.cells #[I 0,I 0] 75));have BX:=ai (br (bE w #[I 0,I 0,I 0,I 0,I 0] 110) (.cells #[I 0,I 0] 75));have BY:Hid (((w.alloc (.cells #[I 0,I 0,I 0,I 0,I 0] 110)).alloc (.cells #[I 0,I 0] 75)).heap[w.heap.size+1]?=some (.cells #[I 0,I 0] 75 (0,0))):=by
  have:=bE (w.alloc (.cells #[I 0,I 0,I 0,I 0,I 0] 110)) #[I 0,I 0] 75;rw[fF] at this;exact this
 clear hR hok;clear h C hk h1;go_enter Tryz.func150,Tryz.ntmps150;go_wp2;refine bO (v:=.tuple #[I 0,.agg #[I 0,I 0]]) (by simp[results,Tryz.results150,go_sem]) rfl ?_;rw[HR.o];exact⟨rfl,cJ.after lh.o (cJ.refl (HG.o.below HC.o lh.o))⟩
theorem abW (C:iB lo mb Hd Ok o) (k:Nat) (w:World) (h:fW Hd lo mb gb w D vr vo st) (hok:dh Ok st) (hk:k<st.ps.length) (h1:(aN st.ps k).st=1) (R:(Int×(Int×Int))×dE σ) (hR:R=((0,(4,(aN st.ps k).pc)),st)) :
  Calls Tryz.prog 150 #[.pointer (some (Ad gb 0)),I (k:Int),.agg #[I 4,I 0,I 0,I 0,I 0]] w fun e w'=>e=.returned (.tuple #[I R.1.1,.agg (gU R.1.2)])/\cJ Hd lo mb gb w D vr vo R.2 w':=by
 have HG:=ai h;have HC:=ai C;have NM:=ai hok;have TE:=ai (ir k hk h1);have vD:=ai hk;have HH1:=ai h1;have HR:=ai hR;have Hc:st.ps.length<=4:=by have:=C.ok.few _ _ hok.mem;unfold b7 at this;rw[ia] at this;exact this
 have Rm:=ai (hok.fit k hk);have hgb:=aJ h.head;have g0:w.cell? (Ad gb 0)=some (.iface 183 (.pointer (some (Ad mb 0)))):=au h.head 0 rfl;have g1:w.cell? (Ad gb 1)=some vr:=au h.head 1 rfl;have lh:=ai (((aK w.heap.size w).alloc (aI _) (.cells #[I 4,I 0,I 0,I 0,I 0] 110)).alloc (by simp) (.cells #[I 0,I 0] 75));have BX:=ai (br (bE w #[I 4,I 0,I 0,I 0,I 0] 110) (.cells #[I 0,I 0] 75));have BY:Hid (((w.alloc (.cells #[I 4,I 0,I 0,I 0,I 0] 110)).alloc (.cells #[I 0,I 0] 75)).heap[w.heap.size+1]?=some (.cells #[I 0,I 0] 75 (0,0))):=by
  have:=bE (w.alloc (.cells #[I 4,I 0,I 0,I 0,I 0] 110)) #[I 0,I 0] 75;rw[fF] at this;exact this
 clear hR hok;obtain⟨pb,cap,E2,hpb,hpc,PN⟩:=h.proc k hk;obtain⟨pc,aj5⟩:=ex ((aN st.ps k).pc);rw[<- aj5] at HR;have c8:w.cell? (Ad pb (k*13+8))=some (I pc):=by rw[aj5];exact hpc 8 (by omega)
 obtain⟨n,hn⟩:=ex st.ps.length;rw[<- hn] at E2 hk Hc;subst E2;have JI:(k:Int)<(n:Int):=by omega
 have aj6:¬pb=w.heap.size:=by omega
 have amB:¬gb=w.heap.size:=by omega
 clear h C h1 hpc PN aj5 hn;go_enter Tryz.func150,Tryz.ntmps150;go_wp2;go_region;go_wp2;refine bO (v:=.tuple #[I 0,.agg #[I 4,I pc]]) (by simp[results,Tryz.results150,go_sem]) rfl ?_;rw[HR.o];have hb:Below w.heap.size w ((w.alloc (.cells #[I 4,I 0,I 0,I 0,I 0] 110)).alloc (.cells #[I 4,I pc] 75)).drew:=(((aK w.heap.size w).alloc (aI _) _).alloc (by simp) _).drew;exact⟨rfl,cJ.after hb (cJ.refl (HG.o.below HC.o hb))⟩
theorem abX (C:iB lo mb Hd Ok o) (k:Nat) (c:Int) (w:World) (h:fW Hd lo mb gb w D vr vo st) (hok:dh Ok st) (hk:k<st.ps.length) (h1:(aN st.ps k).st=1) (R:(Int×(Int×Int))×dE σ) (hc:1<=c/\c<=6) (hR:R=(((fy o st k c).1,(0,0)),(fy o st k c).2)) :
  Calls Tryz.prog 150 #[.pointer (some (Ad gb 0)),I (k:Int),.agg #[I 3,I 0,I 0,I 0,I c]] w fun e w'=>e=.returned (.tuple #[I R.1.1,.agg (gU R.1.2)])/\cJ Hd lo mb gb w D vr vo R.2 w':=by
 have HG:=ai h;have HC:=ai C;have NM:=ai hok;have TE:=ai (ir k hk h1);have vD:=ai hk;have HH1:=ai h1;have HR:=ai hR;have Hc:st.ps.length<=4:=by have:=C.ok.few _ _ hok.mem;unfold b7 at this;rw[ia] at this;exact this
 have Rm:=ai (hok.fit k hk);have hgb:=aJ h.head;have g0:w.cell? (Ad gb 0)=some (.iface 183 (.pointer (some (Ad mb 0)))):=au h.head 0 rfl;have g1:w.cell? (Ad gb 1)=some vr:=au h.head 1 rfl;have lh:=ai (((aK w.heap.size w).alloc (aI _) (.cells #[I 3,I 0,I 0,I 0,I c] 110)).alloc (by simp) (.cells #[I 0,I 0] 75));have BX:=ai (br (bE w #[I 3,I 0,I 0,I 0,I c] 110) (.cells #[I 0,I 0] 75));have BY:Hid (((w.alloc (.cells #[I 3,I 0,I 0,I 0,I c] 110)).alloc (.cells #[I 0,I 0] 75)).heap[w.heap.size+1]?=some (.cells #[I 0,I 0] 75 (0,0))):=by
  have:=bE (w.alloc (.cells #[I 3,I 0,I 0,I 0,I c] 110)) #[I 0,I 0] 75;rw[fF] at this;exact this
 clear hR hok;have OH:=ai (fun V (hV:Below w.heap.size w V)=>ZC C k c V (h.below C hV) NM.o hk h1 hc);obtain⟨X,hX⟩:=ex (fy o st k c);rw[<- hX] at OH HR;clear h C hX h1;go_enter Tryz.func150,Tryz.ntmps150;go_wp2_with (go_at_call 196;refine(OH.o _ lh.o).mono ?_;rintro e w1 ⟨rfl,PW⟩;have Z8:=ai (gN.behind HC.o HG.o lh.o PW);obtain⟨_,_,_,_,hkk,_⟩:=PW;have BY1:=ai (HG.o.aside HC.o hkk (by omega) BY.o);have y0:=au (v:=I 0) BY1.o 0 rfl;have y1:=au (v:=I 0) BY1.o 1 rfl;have z0:=aR BY1.o 0;have z1:=aR BY1.o 1;clear hkk)
 refine bO (v:=.tuple #[I X.1,.agg #[I 0,I 0]]) (by simp[results,Tryz.results150,go_sem,y0,y1]) rfl ?_;rw[HR.o];have hy:w.heap.size<=w.heap.size+1/\w.heap.size+1<((w.alloc (.cells #[I 3,I 0,I 0,I 0,I c] 110)).alloc (.cells #[I 0,I 0] 75)).heap.size:=⟨by omega,aJ BY.o⟩;exact⟨rfl,((Z8.o.set HC.o (Ad (w.heap.size+1) 0) _ hy hy.1).set HC.o (Ad (w.heap.size+1) 1) _ hy hy.1).left⟩
open Go.RowKit
variable {σ:Type} {Hd:World->(Nat->Prop)->σ->Prop} {Ok:σ->List Bool->Prop} {o:gH σ} {lo mb gb:Nat} {D:Nat->Prop} {vr vo:Value} {st:dE σ}
theorem abY (C:iB lo mb Hd Ok o) (k:Nat) (a v:Int) (m:Nat) (w:World) (h:fW Hd lo mb gb w D vr vo st) (hok:dh Ok st) (hk:k<st.ps.length) (h1:(aN st.ps k).st=1) (R:(Int×(Int×Int))×dE σ) (ha:cO a) (nJ:1<=m) (hm8:m<=8) (hR:R=((0,(o.store st.mem k a (mS v m)).1),{ st with mem:=(o.store st.mem k a (mS v m)).2 })) :
  Calls Tryz.prog 150 #[.pointer (some (Ad gb 0)),I (k:Int),.agg #[I 2,I a,I (m:Int),I v,I 0]] w fun e w'=>e=.returned (.tuple #[I R.1.1,.agg (gU R.1.2)])/\cJ Hd lo mb gb w D vr vo R.2 w':=by
 have HG:=ai h;have HC:=ai C;have NM:=ai hok;have TE:=ai (ir k hk h1);have vD:=ai hk;have HH1:=ai h1;have HR:=ai hR;have Hc:st.ps.length<=4:=by have:=C.ok.few _ _ hok.mem;unfold b7 at this;rw[ia] at this;exact this
 have Rm:=ai (hok.fit k hk);have hgb:=aJ h.head;have g0:w.cell? (Ad gb 0)=some (.iface 183 (.pointer (some (Ad mb 0)))):=au h.head 0 rfl;have g1:w.cell? (Ad gb 1)=some vr:=au h.head 1 rfl;have lh:=ai (((aK w.heap.size w).alloc (aI _) (.cells #[I 2,I a,I (m:Int),I v,I 0] 110)).alloc (by simp) (.cells #[I 0,I 0] 75));have BX:=ai (br (bE w #[I 2,I a,I (m:Int),I v,I 0] 110) (.cells #[I 0,I 0] 75));have BY:Hid (((w.alloc (.cells #[I 2,I a,I (m:Int),I v,I 0] 110)).alloc (.cells #[I 0,I 0] 75)).heap[w.heap.size+1]?=some (.cells #[I 0,I 0] 75 (0,0))):=by
  have:=bE (w.alloc (.cells #[I 2,I a,I (m:Int),I v,I 0] 110)) #[I 0,I 0] 75;rw[fF] at this;exact this
 clear hR hok;have HPU:Hid (∀V,Calls Tryz.prog 169 #[I v,I (m:Int)] V fun e w'=>e=.returned (.tuple #[.string (mS v m),I 0])/\Below V.heap.size V w'):=fun V=>by
  have:=acG v m V nJ hm8;unfold mS;rw[lM];exact this
 have hds:(mS v m).size=m:=by
  unfold mS;rw[lM];show(Lib.leBytes m (mD v)).toArray.size=m;simp[Lib.leBytes_length]
 have HST:Hid (∀V,Below w.heap.size w V->Calls Tryz.prog 257 #[.pointer (some (Ad mb 0)),I (k:Int),I a,.string (mS v m)] V (od Hd V D (.agg (gU (o.store st.mem k a (mS v m)).1)) (o.store st.mem k a (mS v m)).2)):=fun V hV=>C.store V D st.mem _ k a (mS v m) (h.below C hV).mem NM.o.mem TE.o ha (by omega) (by omega)
 obtain⟨X,hX⟩:=ex (o.store st.mem k a (mS v m));rw[<- hX] at HST HR;obtain⟨d,hd⟩:=ex (mS v m);rw[<- hd] at HPU HST;obtain⟨⟨X1,X2⟩,X3⟩:=X;unfold gU at HST;simp only at HST HR;have hm:=Q9 (Ad mb 0);have hah:=Tq (Ad mb 0);clear h C hX h1 hd hds;go_enter Tryz.func150,Tryz.ntmps150;go_wp2_with (go_at_call 169;refine(HPU.o _).mono ?_;rintro e w1 ⟨rfl,hb1⟩;have cN:=ai (lh.o.trans (hb1.mono lh.o.size));have BX1:=ai (aO BX.o hb1 (aJ BX.o));have BY1:=ai (aO BY.o hb1 (aJ BY.o));clear hb1)
 have ET:=ai (HG.o.below HC.o cN.o);obtain⟨xb,LZ⟩:=ex w.heap.size;rw[<- LZ] at BX1 BY1 ⊢;have Tk:=ai LZ;have HS:Hid (∀V,aD D w1 V->V.cell? (Ad gb 0)=some (.iface 183 (.pointer (some (Ad mb 0))))/\V.cell? (Ad xb 1)=some (I a)):=fun V hb=>by
  have h1:=hb.keep BX1.o (fun g=>by have:=HC.o.dom _ _ _ HG.o.mem _ g;have:=Tk.o;omega);have h2:=hb.keep ET.o.head ET.o.n1;exact⟨au h2 0 rfl,au h1 1 rfl⟩
 have ow:=ai (HS.o _ (aD.drew _ _));have ZH:Hid (∀V:World,(V.cell? (Ad gb 0)=some (.iface 183 (.pointer (some (Ad mb 0))))/\V.cell? (Ad xb 1)=some (I a))->∀v0 v1,(((V.setCell (Ad (xb+1) 0) v0).setCell (Ad (xb+1) 1) v1).cell? (Ad gb 0)=some (.iface 183 (.pointer (some (Ad mb 0))))/\((V.setCell (Ad (xb+1) 0) v0).setCell (Ad (xb+1) 1) v1).cell? (Ad xb 1)=some (I a))):=fun V ⟨h0,h1⟩ v0 v1=>by
  have hne:xb≠xb+1:=by omega
  have PT:gb≠xb+1:=by have:=Tk.o;omega
  rw[cu _ _ _ _ _ _ hne,cu _ _ _ _ _ _ hne,cu _ _ _ _ _ _ PT,cu _ _ _ _ _ _ PT];exact⟨h0,h1⟩
 clear LZ HPU g0 g1
 go_region_held3 (fun V=>V.cell? (Ad gb 0)=some (.iface 183 (.pointer (some (Ad mb 0))))/\V.cell? (Ad xb 1)=some (I a)) (first | exact Tt.o _ _ | exact rX.o | exact ow.o)
  (first | (go_at_call 257;refine(HST.o _ cN.o.drew).mono ?_;rintro e w2 ⟨D2,rfl,hm2,hk2,hd2⟩;have rX:=ai (HS.o _ ((aD.drew D w1).trans hk2 (fun _ _ g=>g)));have Tt:=ai (ZH.o w2 rX.o);have Bv:=ai (gN.behind HC.o HG.o cN.o.drew (cJ.Fb HC.o (HG.o.below HC.o cN.o.drew) hm2 hk2 hd2));have BY2:=ai (hk2.keep (w:=w1.drew) BY1.o (fun g=>(by have:=HC.o.dom _ _ _ HG.o.mem _ g;have:=Tk.o;omega)));have y0:=au (v:=I 0) BY2.o 0 rfl;have y1:=au (v:=I 0) BY2.o 1 rfl;have z0:=aR BY2.o 0;have z1:=aR BY2.o 1;clear hm2 hk2 hd2))
 clear Tt ZH HS ow rX;go_wp2;refine bO (v:=.tuple #[I 0,.agg #[I X1,I X2]]) (by simp[results,Tryz.results150,go_sem,y0,y1]) rfl ?_;rw[HR.o];have hy:w.heap.size<=xb+1/\xb+1<w1.drew.heap.size:=⟨by have:=Tk.o;omega,aJ BY1.o⟩;exact⟨rfl,((Bv.o.set HC.o (Ad (xb+1) 0) _ hy hy.1).set HC.o (Ad (xb+1) 1) _ hy hy.1).left⟩
open Go.RowKit
variable {σ:Type} {Hd:World->(Nat->Prop)->σ->Prop} {Ok:σ->List Bool->Prop} {o:gH σ} {lo mb gb:Nat} {D:Nat->Prop} {vr vo:Value} {st:dE σ}
theorem abZ (C:iB lo mb Hd Ok o) (k:Nat) (a n:Int) (w:World) (h:fW Hd lo mb gb w D vr vo st) (hok:dh Ok st) (hk:k<st.ps.length) (h1:(aN st.ps k).st=1) (R:(Int×(Int×Int))×dE σ) (ha:cO a) (nJ:1<=n) (hm8:n<=8) (hR:R=((Ex (o.load st.mem k a n 0).1.1,(o.load st.mem k a n 0).1.2),{ st with mem:=(o.load st.mem k a n 0).2 })) :
  Calls Tryz.prog 150 #[.pointer (some (Ad gb 0)),I (k:Int),.agg #[I 1,I a,I n,I 0,I 0]] w fun e w'=>e=.returned (.tuple #[I R.1.1,.agg (gU R.1.2)])/\cJ Hd lo mb gb w D vr vo R.2 w':=by
 have HG:=ai h;have HC:=ai C;have NM:=ai hok;have TE:=ai (ir k hk h1);have vD:=ai hk;have HH1:=ai h1;have HR:=ai hR;have Hc:st.ps.length<=4:=by have:=C.ok.few _ _ hok.mem;unfold b7 at this;rw[ia] at this;exact this
 have Rm:=ai (hok.fit k hk);have hgb:=aJ h.head;have g0:w.cell? (Ad gb 0)=some (.iface 183 (.pointer (some (Ad mb 0)))):=au h.head 0 rfl;have g1:w.cell? (Ad gb 1)=some vr:=au h.head 1 rfl;have lh:=ai (((aK w.heap.size w).alloc (aI _) (.cells #[I 1,I a,I n,I 0,I 0] 110)).alloc (by simp) (.cells #[I 0,I 0] 75));have BX:=ai (br (bE w #[I 1,I a,I n,I 0,I 0] 110) (.cells #[I 0,I 0] 75));have BY:Hid (((w.alloc (.cells #[I 1,I a,I n,I 0,I 0] 110)).alloc (.cells #[I 0,I 0] 75)).heap[w.heap.size+1]?=some (.cells #[I 0,I 0] 75 (0,0))):=by
  have:=bE (w.alloc (.cells #[I 1,I a,I n,I 0,I 0] 110)) #[I 0,I 0] 75;rw[fF] at this;exact this
 clear hR hok;have HGT:Hid (∀V,Calls Tryz.prog 195 #[.string (o.load st.mem k a n 0).1.1] V fun e w'=>∃x,e=.returned (.tuple #[I (Ex (o.load st.mem k a n 0).1.1),I x])/\V=w'):=fun V=>by
  have h1:=C.ok.size st.mem _ k a n 0 NM.o.mem TE.o nJ hm8;have h2:=C.ok.none st.mem _ k a n 0 NM.o.mem TE.o;unfold Ex;by_cases c:(o.load st.mem k a n 0).1.2.1=0
  · have:=h1 c;rw[aC (by omega)];exact(RG _ V (by omega) (by omega)).mono fun e w' ⟨g1,g2⟩=>⟨0,g1,g2⟩
  · rw[h2 c,aA (by decide)];exact(aeQ _ V (by unfold maxLen;decide) (by decide)).mono fun e w' ⟨g1,g2⟩=>⟨3,g1,g2⟩
 have HLD:Hid (∀V,Below w.heap.size w V->Calls Tryz.prog 254 #[.pointer (some (Ad mb 0)),I (k:Int),I a,I n,I 0] V (od Hd V D (.tuple #[.string (o.load st.mem k a n 0).1.1,.agg (gU (o.load st.mem k a n 0).1.2)]) (o.load st.mem k a n 0).2)):=fun V hV=>C.load V D st.mem _ k a n 0 (h.below C hV).mem NM.o.mem TE.o ha nJ hm8 (.inl rfl)
 obtain⟨X,hX⟩:=ex (o.load st.mem k a n 0);rw[<- hX] at HLD HR HGT;obtain⟨⟨d,X1,X2⟩,X3⟩:=X;unfold gU at HLD;simp only at HLD HR HGT;obtain⟨G,hGe⟩:=ex (Ex d);rw[<- hGe] at HGT HR;have hm:=IM (Ad mb 0);have hah:=Ls (Ad mb 0);clear h C hX h1 hGe;go_enter Tryz.func150,Tryz.ntmps150;go_wp2_with fail
 obtain⟨WA,lO⟩:=ex ((w.alloc (.cells #[I 1,I a,I n,I 0,I 0] 110)).alloc (.cells #[I 0,I 0] 75));rw[<- lO] at lh BX BY ⊢;obtain⟨xb,LZ⟩:=ex w.heap.size;rw[<- LZ] at BX BY ⊢;have Tk:=ai LZ;have ET:=ai (HG.o.below HC.o lh.o);have HS:Hid (∀V,aD D WA V->V.cell? (Ad gb 0)=some (.iface 183 (.pointer (some (Ad mb 0))))/\V.cell? (Ad xb 1)=some (I a)/\V.cell? (Ad xb 2)=some (I n)):=fun V hb=>by
  have h1:=hb.keep BX.o (fun g=>by have:=HC.o.dom _ _ _ HG.o.mem _ g;have:=Tk.o;omega);have h2:=hb.keep ET.o.head ET.o.n1;exact⟨au h2 0 rfl,au h1 1 rfl,au h1 2 rfl⟩
 have ow:=ai (HS.o _ (aD.drew _ _));have yK:=ai (HS.o (WA.alloc (.cells #[I 0,I 0] 75)).drew ((aD.alloc _ _ _).trans (aD.drew _ _) (fun _ _ g=>g)));have gK:=ai lh.o.drew;have cN:=ai (lh.o.alloc lh.o.size (.cells #[I 0,I 0] 75)).drew;have hlx:=aJ BY.o;have HNY:Hid (¬D (xb+1)):=fun g=>by have:=HC.o.dom _ _ _ HG.o.mem _ g;have:=Tk.o;omega
 have HNZ:Hid (¬D WA.heap.size):=fun g=>by have:=HC.o.dom _ _ _ HG.o.mem _ g;have:=lh.o.size;omega
 clear LZ lO g0 g1;go_cut [8,9] (fun x8 x9 wx=>∃zb,x8=.string d/\x9=.pointer (some (Ad zb 0))/\wx.heap[zb]?=some (.cells #[I X1,I X2] 75 (0,0))/\wx.heap[xb+1]?=some (.cells #[I 0,I 0] 75 (0,0))/\gN (fun b=>b=xb+1) Hd lo mb gb w D vr vo { st with mem:=X3 } wx)
 case first =>
  have ZH:Hid (∀(V:World) (g:Nat),xb+1<g->(V.cell? (Ad gb 0)=some (.iface 183 (.pointer (some (Ad mb 0))))/\V.cell? (Ad xb 1)=some (I a)/\V.cell? (Ad xb 2)=some (I n))->∀v0 v1,((V.setCell (Ad g 0) v0).setCell (Ad g 1) v1).cell? (Ad gb 0)=some (.iface 183 (.pointer (some (Ad mb 0))))/\((V.setCell (Ad g 0) v0).setCell (Ad g 1) v1).cell? (Ad xb 1)=some (I a)/\((V.setCell (Ad g 0) v0).setCell (Ad g 1) v1).cell? (Ad xb 2)=some (I n)):=fun V g hg ⟨h0,h1,h2⟩ v0 v1=>by
   have hne:xb≠g:=by omega
   have PT:gb≠g:=by have:=Tk.o;omega
   rw[cu _ _ _ _ _ _ hne,cu _ _ _ _ _ _ hne,cu _ _ _ _ _ _ hne,cu _ _ _ _ _ _ hne,cu _ _ _ _ _ _ PT,cu _ _ _ _ _ _ PT];exact⟨h0,h1,h2⟩
  go_region_held3 (fun V=>V.cell? (Ad gb 0)=some (.iface 183 (.pointer (some (Ad mb 0))))/\V.cell? (Ad xb 1)=some (I a)/\V.cell? (Ad xb 2)=some (I n)) (first | exact ow.o | exact yK.o | exact rX.o | exact sK.o _ | exact Tt.o _ _ | exact HSZ.o _ _ _)
   (first | (go_at_call 254;refine(HLD.o _ (by first | exact gK.o | exact cN.o)).mono ?_;rintro e w2 ⟨D2,rfl,hm2,hk2,hd2⟩;have HKW:Hid (aD D WA w2):=(by first | exact(aD.drew D WA).trans hk2 (fun _ _ g=>g) | exact((aD.alloc D WA (.cells #[I 0,I 0] 75)).trans (aD.drew D _) (fun _ _ g=>g)).trans hk2 (fun _ _ g=>g));have rX:=ai (HS.o _ HKW.o);have sK:=ai (fun ob=>HS.o _ (HKW.o.trans (aD.alloc D w2 ob) (fun _ _ g=>g)));have Tt:=ai (ZH.o w2 WA.heap.size hlx rX.o);have HSZ:=ai (fun ob=>ZH.o (w2.alloc ob) w2.heap.size (fL hlx HKW.o.size) (sK.o ob));have Bv:=ai (gN.behind HC.o HG.o (by first | exact gK.o | exact cN.o) (cJ.Fb HC.o (HG.o.below HC.o (by first | exact gK.o | exact cN.o)) hm2 hk2 hd2));have BY2:Hid (w2.heap[xb+1]?=some (.cells #[I 0,I 0] 75 (0,0))):=HKW.o.keep BY.o HNY.o;(try (have yV:=ai (hk2.keep (w:=(WA.alloc (.cells #[I 0,I 0] 75)).drew) (bE WA #[I 0,I 0] 75) HNZ.o);have z0:=au (v:=I 0) yV.o 0 rfl;have z1:=au (v:=I 0) yV.o 1 rfl;have z2:=aR yV.o 0;have z3:=aR yV.o 1));clear hm2 hk2 hd2))
  all_goals
   go_wp2_with fail
   go_meet
   case rel =>
    first
    | exact⟨_,rfl,rfl,bE w2 _ _,br BY2.o _,(Bv.o.more HC.o ((aK _ _).alloc (aI _) _)).sub (fun b e=>by subst e;exact⟨by have:=Tk.o;omega,hlx⟩)⟩
    | exact⟨_,rfl,rfl,fh (fh yV.o 0 _) 1 _,mo (mo BY2.o WA.heap.size 0 _ (by omega)) WA.heap.size 1 _ (by omega),((Bv.o.set HC.o (Ad WA.heap.size 0) _ ⟨lh.o.size,by show WA.heap.size<(WA.alloc _).heap.size;rw[fF];omega⟩ lh.o.size).set HC.o (Ad WA.heap.size 1) _ ⟨lh.o.size,by show WA.heap.size<(WA.alloc _).heap.size;rw[fF];omega⟩ lh.o.size).sub (fun b e=>by subst e;exact⟨by have:=Tk.o;omega,by show _<(WA.alloc _).heap.size;rw[fF];omega⟩)⟩
 case rest =>
  obtain⟨zb,rfl,rfl,hz,hy,hl⟩:=hcut;have HZ:=ai hz;have HY:=ai hy;have HL:=ai hl;have z0:=au (v:=I X1) hz 0 rfl;have z1:=au (v:=I X2) hz 1 rfl;have y0:=au (v:=I 0) hy 0 rfl;have y1:=au (v:=I 0) hy 1 rfl;have f0:=aR hy 0;have f1:=aR hy 1;clear hz hy hl HS ow yK gK cN;go_wp2_with (go_at_call 195;refine(HGT.o _).mono ?_;rintro e w3 ⟨x,rfl,rfl⟩)
  go_region
  all_goals
   go_wp2;refine bO (v:=.tuple #[I G,.agg #[I X1,I X2]]) (by simp[results,Tryz.results150,go_sem,y0,y1]) rfl ?_;rw[HR.o];exact⟨rfl,(((HL.o.more HC.o (aK _ _).drew).set HC.o (Ad (xb+1) 0) _ rfl (by show w.heap.size<=xb+1;have:=Tk.o;omega)).set HC.o (Ad (xb+1) 1) _ rfl (by show w.heap.size<=xb+1;have:=Tk.o;omega)).left⟩
theorem NK {i:ed} (hb:i.bad=false) (h:i.op=9∨i.op=10):1<=i.c/\i.c<=8:=by
 unfold ed.bad at hb;rw[aA (by omega),aA (by omega),aA (by omega),aA (by omega),aA (by omega),aC h] at hb;unfold ot at hb;simp at hb;omega
theorem ZE {i:ed} (hb:i.bad=false) (h:i.op=16):1<=i.m/\i.m<=6:=by
 unfold ed.bad at hb;rw[aA (by omega),aC h] at hb;simpa using hb
theorem Tn (C:iB lo mb Hd Ok o) (k:Nat) (i:ed) (w:World) (h:fW Hd lo mb gb w D vr vo st) (hok:dh Ok st) (hk:k<st.ps.length) (h1:(aN st.ps k).st=1) :
  Calls Tryz.prog 150 #[.pointer (some (Ad gb 0)),I (k:Int),.agg (pj (aN st.ps k) i)] w fun e w'=>e=.returned (.tuple #[I (gy o st k i).1.1,.agg (gU (gy o st k i).1.2)])/\cJ Hd lo mb gb w D vr vo (gy o st k i).2 w':=by
 by_cases hb:i.bad=true
 · have e1:pj (aN st.ps k) i=#[I 4,I 0,I 0,I 0,I 0]:=by unfold pj;rw[aC hb]
   rw[e1];exact abW C k w h hok hk h1 _ (by unfold gy;rw[aC hb])
 · have hb':i.bad=false:=by simpa using hb
   by_cases c9:i.op=9
   · have hsz:=NK hb' (.inl c9);have e1:pj (aN st.ps k) i=#[I 1,I (wrap64 ((aN st.ps k).r i.b.toNat+i.m)),I i.c,I 0,I 0]:=by unfold pj;rw[aA hb,aC c9]
     rw[e1];exact abZ C k _ _ w h hok hk h1 _ (pR _) hsz.1 hsz.2 (by unfold gy;rw[aA hb,aC c9])
   · by_cases c10:i.op=10
     · have hsz:=NK hb' (.inr c10);obtain⟨m,hm⟩:∃m:Nat,i.c=(m:Int):=⟨i.c.toNat,by omega⟩;have e1:pj (aN st.ps k) i=#[I 2,I (wrap64 ((aN st.ps k).r i.b.toNat+i.m)),I (m:Int),I ((aN st.ps k).r i.a.toNat),I 0]:=by unfold pj;rw[aA hb,aA c9,aC c10,hm]
       rw[e1];exact abY C k _ _ m w h hok hk h1 _ (pR _) (by omega) (by omega) (by unfold gy;rw[aA hb,aA c9,aC c10,hm])
     · by_cases c16:i.op=16
       · have e1:pj (aN st.ps k) i=#[I 3,I 0,I 0,I 0,I i.m]:=by unfold pj;rw[aA hb,aA c9,aA c10,aC c16]
         rw[e1];exact abX C k i.m w h hok hk h1 _ (ZE hb' c16) (by unfold gy;rw[aA hb,aA c9,aA c10,aC c16])
       · have e1:pj (aN st.ps k) i=#[I 0,I 0,I 0,I 0,I 0]:=by unfold pj;rw[aA hb,aA c9,aA c10,aA c16]
         rw[e1];exact ab0 C k w h hok hk h1 _ (by unfold gy;rw[aA hb,aA c9,aA c10,aA c16])
open Go.RowKit
variable {σ:Type} {Hd:World->(Nat->Prop)->σ->Prop} {Ok:σ->List Bool->Prop} {o:gH σ} {lo mb gb:Nat} {D:Nat->Prop} {vr vo:Value} {st:dE σ}
theorem NJ (C:iB lo mb Hd Ok o) (k:Nat) (s:ByteArray) (v:Int) (w:World) (h:fW Hd lo mb gb w D vr vo st) (Hc:st.ps.length<=1000) (hk:k<st.ps.length) (h8:s.size=8) (hbad:(iG s).bad=false) :
  Calls Tryz.prog 151 #[.pointer (some (Ad gb 0)),I (k:Int),.string s,I v] w fun e w'=>e=.returned (.tuple #[])/\cJ Hd lo mb gb w D vr vo { st with ps:=st.ps.set k (cZ (aN st.ps k) (iG s) v) } w':=by
 have HG:=ai h;have HC:=ai C;obtain⟨pb,cap,E2,hpb,hpc,PN⟩:=h.proc k hk;have mA:=ai hpc;have HPF:=ai PN;have HDN:=ai (fun V=>Yv (aN st.ps k) s v V h8 hbad);obtain⟨q,hq⟩:=ex (aN st.ps k);rw[<- hq] at mA HDN ⊢;obtain⟨N,hN⟩:=ex (cZ q (iG s) v);rw[<- hN] at HDN ⊢;obtain⟨n,hn⟩:=ex st.ps.length;rw[<- hn] at E2 hk Hc;have HN:=ai hn;subst E2;have JI:(k:Int)<(n:Int):=by omega
 have W4:Hid (∀V,Calls Tryz.prog 197 #[.agg #[I (q.r 0),I (q.r 1),I (q.r 2),I (q.r 3),I (q.r 4),I (q.r 5),I (q.r 6),I (q.r 7),I q.pc,I q.st,I q.cd,I q.fk,I q.fa],.string s,I v] V fun e w'=>e=.returned (.tuple #[.agg #[I (N.r 0),I (N.r 1),I (N.r 2),I (N.r 3),I (N.r 4),I (N.r 5),I (N.r 6),I (N.r 7),I N.pc,I N.st,I N.cd,I N.fk,I N.fa],I 0])/\Below V.heap.size V w'):=HDN;have g1:w.cell? (Ad gb 1)=some (.slice (some (Ad pb 0)) n cap):=au HG.o.head 1 rfl;have hgb:=aJ HG.o.head;have c0:w.cell? (Ad pb (k*13))=some (I (q.r 0)):=mA.o 0 (by omega);have c1:w.cell? (Ad pb (k*13+1))=some (I (q.r 1)):=mA.o 1 (by omega);have c2:w.cell? (Ad pb (k*13+2))=some (I (q.r 2)):=mA.o 2 (by omega);have c3:w.cell? (Ad pb (k*13+3))=some (I (q.r 3)):=mA.o 3 (by omega);have c4:w.cell? (Ad pb (k*13+4))=some (I (q.r 4)):=mA.o 4 (by omega);have c5:w.cell? (Ad pb (k*13+5))=some (I (q.r 5)):=mA.o 5 (by omega);have c6:w.cell? (Ad pb (k*13+6))=some (I (q.r 6)):=mA.o 6 (by omega);have c7:w.cell? (Ad pb (k*13+7))=some (I (q.r 7)):=mA.o 7 (by omega);have c8:w.cell? (Ad pb (k*13+8))=some (I q.pc):=mA.o 8 (by omega);have c9:w.cell? (Ad pb (k*13+9))=some (I q.st):=mA.o 9 (by omega);have c10:w.cell? (Ad pb (k*13+10))=some (I q.cd):=mA.o 10 (by omega);have c11:w.cell? (Ad pb (k*13+11))=some (I q.fk):=mA.o 11 (by omega);have c12:w.cell? (Ad pb (k*13+12))=some (I q.fa):=mA.o 12 (by omega);have tV:=ai (aK w.heap.size w).drew;clear hq hN hn hpc PN h C HDN mA h8 hbad;go_enter Tryz.func151,Tryz.ntmps151;go_wp2_with fail
 go_region_law (go_simp;go_at_call 197;refine(W4.o _).mono ?_;rintro e w1 ⟨rfl,amR⟩;have hb1:=tV.o.trans amR;have cN:=ai hb1;have d0:w1.cell? (Ad pb (k*13))=some (I (q.r 0)):=(hb1.cell (p:=(Ad pb (k*13))) hpb).trans c0;have d1:w1.cell? (Ad pb (k*13+1))=some (I (q.r 1)):=(hb1.cell (p:=(Ad pb (k*13+1))) hpb).trans c1;have d2:w1.cell? (Ad pb (k*13+2))=some (I (q.r 2)):=(hb1.cell (p:=(Ad pb (k*13+2))) hpb).trans c2;have d3:w1.cell? (Ad pb (k*13+3))=some (I (q.r 3)):=(hb1.cell (p:=(Ad pb (k*13+3))) hpb).trans c3;have d4:w1.cell? (Ad pb (k*13+4))=some (I (q.r 4)):=(hb1.cell (p:=(Ad pb (k*13+4))) hpb).trans c4;have d5:w1.cell? (Ad pb (k*13+5))=some (I (q.r 5)):=(hb1.cell (p:=(Ad pb (k*13+5))) hpb).trans c5;have d6:w1.cell? (Ad pb (k*13+6))=some (I (q.r 6)):=(hb1.cell (p:=(Ad pb (k*13+6))) hpb).trans c6;have d7:w1.cell? (Ad pb (k*13+7))=some (I (q.r 7)):=(hb1.cell (p:=(Ad pb (k*13+7))) hpb).trans c7;have d8:w1.cell? (Ad pb (k*13+8))=some (I q.pc):=(hb1.cell (p:=(Ad pb (k*13+8))) hpb).trans c8;have d9:w1.cell? (Ad pb (k*13+9))=some (I q.st):=(hb1.cell (p:=(Ad pb (k*13+9))) hpb).trans c9;have d10:w1.cell? (Ad pb (k*13+10))=some (I q.cd):=(hb1.cell (p:=(Ad pb (k*13+10))) hpb).trans c10;have d11:w1.cell? (Ad pb (k*13+11))=some (I q.fk):=(hb1.cell (p:=(Ad pb (k*13+11))) hpb).trans c11;have d12:w1.cell? (Ad pb (k*13+12))=some (I q.fa):=(hb1.cell (p:=(Ad pb (k*13+12))) hpb).trans c12;have f1:∀j,w1.frozen? (Ad pb j)=false:=(fun j=>(hb1.frozen (p:=(Ad pb j)) hpb).trans (HPF.o j));have x1:w1.cell? (Ad gb 1)=some (.slice (some (Ad pb 0)) n cap):=(hb1.cell (p:=(Ad gb 1)) hgb).trans g1;clear hb1 amR;go_simp)
 all_goals
  clear W4 HPF;go_wp2
  go_end0
  exact⟨rfl,cJ.after cN.o ((HG.o.below HC.o cN.o).apl HC.o k (by rw[<- HN.o];exact hk) HN.o N)⟩
open Go.RowKit
def ml (i:ed) (n:Nat) (ps:List bT):Nat->List bT
 | 0=>ps
 | j+1=>(ml i n ps j).set (n+j) (cZ (aN (ml i n ps j) (n+j)) i 0)
theorem pI (i:ed) (n:Nat) (ps:List bT):∀j,(ml i n ps j).length=ps.length
 | 0=>rfl
 | j+1=>by show((ml i n ps j).set _ _).length=_;rw[fJ];exact pI i n ps j
theorem Gz (i:ed) (n:Nat) (ps:List bT):∀j m,n+j<=ps.length->(ml i n ps j)[m]?=if n<=m/\m<n+j then ps[m]?.map (fun p=>cZ p i 0) else ps[m]?
 | 0,m,_=>by rw[aA (by omega)];rfl
 | j+1,m,h=>by
  show((ml i n ps j).set (n+j) (cZ (aN (ml i n ps j) (n+j)) i 0))[m]?=_;have ih:=Gz i n ps j;have hl:=pI i n ps j;rw[G5];by_cases e:n+j=m
  · subst e;have hlt:n+j<ps.length:=by omega
    rw[aC rfl,aC (by omega),aC (by omega),lW hlt];have hq:aN (ml i n ps j) (n+j)=ps[n+j]:=by
     unfold aN;rw[fG,ih (n+j) (by omega),aA (by omega),lW hlt];rfl
    rw[hq];rfl
  · rw[aA e,ih m (by omega)];by_cases c:n<=m/\m<n+j
    · rw[aC c,aC (by omega)]
    · rw[aA c,aA (by omega)]
theorem Rv (i:ed) (n:Nat) (ps:List bT) (h:n<=ps.length):ml i n ps (ps.length-n)=o9 i n ps:=by
 apply AJ;intro m;rw[Gz i n ps _ m (by omega)];unfold o9;by_cases c:m<n
 · rw[aA (by omega),G9 (by rw[qM];omega),List.getElem?_take_of_lt c]
 · rw[ze (by rw[qM];omega),qM,UI h,AH,Pe,show n+(m-n)=m by omega];by_cases c2:m<ps.length
   · rw[aC (by omega)]
   · rw[aA (by omega),Ps (by omega)];rfl
end Go.Proofs.YtlgoihmkgaaemaaGreat
