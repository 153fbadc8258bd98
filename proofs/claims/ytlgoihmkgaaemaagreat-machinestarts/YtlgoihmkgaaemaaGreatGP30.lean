import Derived.Test.YtlgoihmkgaaemaaGreatGP29
set_option maxHeartbeats 20000000
set_option linter.unusedVariables false
set_option maxRecDepth 100000
set_option linter.unusedSimpArgs false
namespace Go.Proofs.YtlgoihmkgaaemaaGreat
open Go.RowKit Tryz
variable {σ:Type} {Hd:World->(Nat->Prop)->σ->Prop} {Ok:σ->List Bool->Prop} {o:iZ σ} {lo mb gb:Nat} {D:Nat->Prop} {vr vo:Value} {st:dC σ}
theorem adY (C:jc lo mb Hd Ok o) (k:Nat) (w:World) (h:gD Hd lo mb gb w D vr vo st) (hok:fZ Ok st) (hk:k<st.ps.length) (h1:(aR st.ps k).st=1) (R:(Int×(Int×Int))×dC σ) (hR:R=((0,(0,0)),st)) :
  Calls prog 150 #[.pointer (some (Ad gb 0)),I (k:Int),.agg #[I 0,I 0,I 0,I 0,I 0]] w λe w'=>e=.returned (.tuple #[I R.1.1,.agg (il R.1.2)])/\cY Hd lo mb gb w D vr vo R.2 w':=by
 have HG:=ai h;have HC:=ai C;have QB:=ai hok;have YI:=ai (jn k hk h1);have Dg:=ai hk;have b:=ai h1;have HR:=ai hR;have Ho:st.ps.length<=4:=by have:=C.ok.few _ _ hok.mem;unfold cI at this;rw[jw] at this;exact this
 have OI:=ai (hok.fit k hk);have q:=aM h.head;have g0:w.cell? (Ad gb 0)=some (.iface 183 (.pointer (some (Ad mb 0)))):=aA h.head 0 rfl;have g1:w.cell? (Ad gb 1)=some vr:=aA h.head 1 rfl;have mh:=ai (((aN w.heap.size w).alloc (aJ _) (.cells #[I 0,I 0,I 0,I 0,I 0] 110)).alloc ξ (.cells #[I 0,I 0] 75));have BX:=ai (bB (bG w #[I 0,I 0,I 0,I 0,I 0] 110) (.cells #[I 0,I 0] 75));have BY:Hid (((w.alloc (.cells #[I 0,I 0,I 0,I 0,I 0] 110)).alloc (.cells #[I 0,I 0] 75)).heap[w.heap.size+1]?=some (.cells #[I 0,I 0] 75 (0,0))):=by
  have:=bG (w.alloc (.cells #[I 0,I 0,I 0,I 0,I 0] 110)) #[I 0,I 0] 75;rw[fp] at this;exact this
 clear hR hok;clear h C hk h1;go_enter func150,ntmps150;go_wp2;refine bW (v:=.tuple #[I 0,.agg #[I 0,I 0]]) (by simp[results,results150,go_sem]) rfl ?_;rw[HR.o];exact⟨rfl,cY.after mh.o (cY.refl (HG.o.below HC.o mh.o))⟩
theorem adU (C:jc lo mb Hd Ok o) (k:Nat) (w:World) (h:gD Hd lo mb gb w D vr vo st) (hok:fZ Ok st) (hk:k<st.ps.length) (h1:(aR st.ps k).st=1) (R:(Int×(Int×Int))×dC σ) (hR:R=((0,(4,(aR st.ps k).pc)),st)) :
  Calls prog 150 #[.pointer (some (Ad gb 0)),I (k:Int),.agg #[I 4,I 0,I 0,I 0,I 0]] w λe w'=>e=.returned (.tuple #[I R.1.1,.agg (il R.1.2)])/\cY Hd lo mb gb w D vr vo R.2 w':=by
 have HG:=ai h;have HC:=ai C;have QB:=ai hok;have YI:=ai (jn k hk h1);have Dg:=ai hk;have A:=ai h1;have HR:=ai hR;have Ho:st.ps.length<=4:=by have:=C.ok.few _ _ hok.mem;unfold cI at this;rw[jw] at this;exact this
 have OI:=ai (hok.fit k hk);have B:=aM h.head;have g0:w.cell? (Ad gb 0)=some (.iface 183 (.pointer (some (Ad mb 0)))):=aA h.head 0 rfl;have g1:w.cell? (Ad gb 1)=some vr:=aA h.head 1 rfl;have mh:=ai (((aN w.heap.size w).alloc (aJ _) (.cells #[I 4,I 0,I 0,I 0,I 0] 110)).alloc ξ (.cells #[I 0,I 0] 75));have BX:=ai (bB (bG w #[I 4,I 0,I 0,I 0,I 0] 110) (.cells #[I 0,I 0] 75));have BY:Hid (((w.alloc (.cells #[I 4,I 0,I 0,I 0,I 0] 110)).alloc (.cells #[I 0,I 0] 75)).heap[w.heap.size+1]?=some (.cells #[I 0,I 0] 75 (0,0))):=by
  have:=bG (w.alloc (.cells #[I 4,I 0,I 0,I 0,I 0] 110)) #[I 0,I 0] 75;rw[fp] at this;exact this
 clear hR hok;obtain⟨pb,cap,Jt,y,q,Wu⟩:=h.proc k hk;obtain⟨pc,b⟩:=ex ((aR st.ps k).pc);rw[<- b] at HR;have c8:w.cell? (Ad pb (k*13+8))=some (I pc):=by rw[b];exact q 8 ω
 generalize st.ps.length=n at Jt hk Ho;subst Jt;have Il:(k:Int)<(n:Int):=by omega
 have r:¬pb=w.heap.size:=by omega
 have F:¬gb=w.heap.size:=by omega
 clear h C h1 q Wu b;go_enter func150,ntmps150;go_wp2;go_region;go_wp2;refine bW (v:=.tuple #[I 0,.agg #[I 4,I pc]]) (by simp[results,results150,go_sem]) rfl ?_;rw[HR.o];have hb:Below w.heap.size w ((w.alloc (.cells #[I 4,I 0,I 0,I 0,I 0] 110)).alloc (.cells #[I 4,I pc] 75)).drew:=(((aN w.heap.size w).alloc (aJ _) _).alloc ξ _).drew;exact⟨rfl,cY.after hb (cY.refl (HG.o.below HC.o hb))⟩
theorem adV (C:jc lo mb Hd Ok o) (k:Nat) (c:Int) (w:World) (h:gD Hd lo mb gb w D vr vo st) (hok:fZ Ok st) (hk:k<st.ps.length) (h1:(aR st.ps k).st=1) (R:(Int×(Int×Int))×dC σ) (hc:1<=c/\c<=6) (hR:R=(((iw o st k c).1,(0,0)),(iw o st k c).2)) :
  Calls prog 150 #[.pointer (some (Ad gb 0)),I (k:Int),.agg #[I 3,I 0,I 0,I 0,I c]] w λe w'=>e=.returned (.tuple #[I R.1.1,.agg (il R.1.2)])/\cY Hd lo mb gb w D vr vo R.2 w':=by
 have HG:=ai h;have HC:=ai C;have QB:=ai hok;have YI:=ai (jn k hk h1);have Dg:=ai hk;have y:=ai h1;have HR:=ai hR;have Ho:st.ps.length<=4:=by have:=C.ok.few _ _ hok.mem;unfold cI at this;rw[jw] at this;exact this
 have OI:=ai (hok.fit k hk);have A:=aM h.head;have g0:w.cell? (Ad gb 0)=some (.iface 183 (.pointer (some (Ad mb 0)))):=aA h.head 0 rfl;have g1:w.cell? (Ad gb 1)=some vr:=aA h.head 1 rfl;have mh:=ai (((aN w.heap.size w).alloc (aJ _) (.cells #[I 3,I 0,I 0,I 0,I c] 110)).alloc ξ (.cells #[I 0,I 0] 75));have BX:=ai (bB (bG w #[I 3,I 0,I 0,I 0,I c] 110) (.cells #[I 0,I 0] 75));have BY:Hid (((w.alloc (.cells #[I 3,I 0,I 0,I 0,I c] 110)).alloc (.cells #[I 0,I 0] 75)).heap[w.heap.size+1]?=some (.cells #[I 0,I 0] 75 (0,0))):=by
  have:=bG (w.alloc (.cells #[I 3,I 0,I 0,I 0,I c] 110)) #[I 0,I 0] 75;rw[fp] at this;exact this
 clear hR hok;have VM:=ai (λV (hV:Below w.heap.size w V)=>abg C k c V (h.below C hV) QB.o hk h1 hc);generalize iw o st k c=X at VM HR;clear h C h1;go_enter func150,ntmps150;go_wp2_with (go_at_call 196;refine(VM.o _ mh.o).mono ?_;rintro e w1 ⟨rfl,Te⟩;have r:=ai (ia.behind HC.o HG.o mh.o Te);obtain⟨_,_,_,_,q,_⟩:=Te;have b:=ai (HG.o.aside HC.o q ω BY.o);have y0:=aA (v:=I 0) b.o 0 rfl;have y1:=aA (v:=I 0) b.o 1 rfl;have z0:=br b.o 0;have z1:=br b.o 1;clear q);refine bW (v:=.tuple #[I X.1,.agg #[I 0,I 0]]) (by simp[results,results150,go_sem,y0,y1]) rfl ?_;rw[HR.o];have hy:w.heap.size<=w.heap.size+1/\w.heap.size+1<((w.alloc (.cells #[I 3,I 0,I 0,I 0,I c] 110)).alloc (.cells #[I 0,I 0] 75)).heap.size:=⟨ω,aM BY.o⟩;exact⟨rfl,((r.o.set HC.o (Ad (w.heap.size+1) 0) _ hy hy.1).set HC.o (Ad (w.heap.size+1) 1) _ hy hy.1).left⟩
variable {σ:Type} {Hd:World->(Nat->Prop)->σ->Prop} {Ok:σ->List Bool->Prop} {o:iZ σ} {lo mb gb:Nat} {D:Nat->Prop} {vr vo:Value} {st:dC σ}
theorem adW (C:jc lo mb Hd Ok o) (k:Nat) (a v:Int) (m:Nat) (w:World) (h:gD Hd lo mb gb w D vr vo st) (hok:fZ Ok st) (hk:k<st.ps.length) (h1:(aR st.ps k).st=1) (R:(Int×(Int×Int))×dC σ) (ha:cR a) (vW:1<=m) (hm8:m<=8) (hR:R=((0,(o.store st.mem k a (nC v m)).1),{ st with mem:=(o.store st.mem k a (nC v m)).2 })) :
  Calls prog 150 #[.pointer (some (Ad gb 0)),I (k:Int),.agg #[I 2,I a,I (m:Int),I v,I 0]] w λe w'=>e=.returned (.tuple #[I R.1.1,.agg (il R.1.2)])/\cY Hd lo mb gb w D vr vo R.2 w':=by
 have HG:=ai h;have HC:=ai C;have QB:=ai hok;have YI:=ai (jn k hk h1);have Dg:=ai hk;have Q:=ai h1;have HR:=ai hR;have Ho:st.ps.length<=4:=by have:=C.ok.few _ _ hok.mem;unfold cI at this;rw[jw] at this;exact this
 have OI:=ai (hok.fit k hk);have O:=aM h.head;have g0:w.cell? (Ad gb 0)=some (.iface 183 (.pointer (some (Ad mb 0)))):=aA h.head 0 rfl;have g1:w.cell? (Ad gb 1)=some vr:=aA h.head 1 rfl;have mh:=ai (((aN w.heap.size w).alloc (aJ _) (.cells #[I 2,I a,I (m:Int),I v,I 0] 110)).alloc ξ (.cells #[I 0,I 0] 75));have BX:=ai (bB (bG w #[I 2,I a,I (m:Int),I v,I 0] 110) (.cells #[I 0,I 0] 75));have BY:Hid (((w.alloc (.cells #[I 2,I a,I (m:Int),I v,I 0] 110)).alloc (.cells #[I 0,I 0] 75)).heap[w.heap.size+1]?=some (.cells #[I 0,I 0] 75 (0,0))):=by
  have:=bG (w.alloc (.cells #[I 2,I a,I (m:Int),I v,I 0] 110)) #[I 0,I 0] 75;rw[fp] at this;exact this
 clear hR hok;have B:Hid (∀V,Calls prog 169 #[I v,I (m:Int)] V λe w'=>e=.returned (.tuple #[.string (nC v m),I 0])/\Below V.heap.size V w'):=λV=>by
  have:=aeI v m V vW hm8;unfold nC;rw[kq];exact this
 have M:(nC v m).size=m:=by
  unfold nC;rw[kq];show(Lib.leBytes m (mP v)).toArray.size=m;simp[Lib.leBytes_length]
 have b:Hid (∀V,Below w.heap.size w V->Calls prog 257 #[.pointer (some (Ad mb 0)),I (k:Int),I a,.string (nC v m)] V (qA Hd V D (.agg (il (o.store st.mem k a (nC v m)).1)) (o.store st.mem k a (nC v m)).2)):=λV hV=>C.store V D st.mem _ k a (nC v m) (h.below C hV).mem QB.o.mem YI.o ha ω ω
 generalize o.store st.mem k a (nC v m)=X at b HR;generalize nC v m=d at B b;obtain⟨⟨X1,X2⟩,X3⟩:=X;unfold il at b;simp only at b HR;have hm:=Sn (Ad mb 0);have N:=Uo (Ad mb 0);clear h C h1 M;go_enter func150,ntmps150;go_wp2_with (go_at_call 169;refine(B.o _).mono ?_;rintro e w1 ⟨rfl,y⟩;have dz:=ai (mh.o.trans (y.mono mh.o.size));have J:=ai (aO BX.o y (aM BX.o));have A:=ai (aO BY.o y (aM BY.o));clear y);have Kg:=ai (HG.o.below HC.o dz.o);obtain⟨xb,O7⟩:=ex w.heap.size;rw[<- O7] at J A ⊢;have H0:=ai O7;have HS:Hid (∀V,aI D w1 V->V.cell? (Ad gb 0)=some (.iface 183 (.pointer (some (Ad mb 0))))/\V.cell? (Ad xb 1)=some (I a)):=λV hb=>by
  have h1:=hb.keep J.o (λg=>by have:=HC.o.dom _ _ _ HG.o.mem _ g;have:=H0.o;omega);have h2:=hb.keep Kg.o.head Kg.o.n1;exact⟨aA h2 0 rfl,aA h1 1 rfl⟩
 have o5:=ai (HS.o _ (aI.drew _ _));have L:Hid (∀V:World,(V.cell? (Ad gb 0)=some (.iface 183 (.pointer (some (Ad mb 0))))/\V.cell? (Ad xb 1)=some (I a))->∀v0 v1,(((V.setCell (Ad (xb+1) 0) v0).setCell (Ad (xb+1) 1) v1).cell? (Ad gb 0)=some (.iface 183 (.pointer (some (Ad mb 0))))/\((V.setCell (Ad (xb+1) 0) v0).setCell (Ad (xb+1) 1) v1).cell? (Ad xb 1)=some (I a))):=λV ⟨h0,h1⟩ v0 v1=>by
  have F:xb≠xb+1:=by omega
  have QI:gb≠xb+1:=by have:=H0.o;omega
  rw[cN _ _ _ _ _ _ F,cN _ _ _ _ _ _ F,cN _ _ _ _ _ _ QI,cN _ _ _ _ _ _ QI];exact⟨h0,h1⟩
 clear O7 B g0 g1
 go_region_held3 (λV=>V.cell? (Ad gb 0)=some (.iface 183 (.pointer (some (Ad mb 0))))/\V.cell? (Ad xb 1)=some (I a)) (first | exact Uq.o _ _ | exact Cu.o | exact o5.o)
  (first | (go_at_call 257;refine(b.o _ dz.o.drew).mono ?_;rintro e w2 ⟨D2,rfl,G,r,K⟩;have Cu:=ai (HS.o _ ((aI.drew D w1).trans r (λ_ _ g=>g)));have Uq:=ai (L.o w2 Cu.o);have Cw:=ai (ia.behind HC.o HG.o dz.o.drew (cY.ML HC.o (HG.o.below HC.o dz.o.drew) G r K));have q:=ai (r.keep (w:=w1.drew) A.o (λg=>(by have:=HC.o.dom _ _ _ HG.o.mem _ g;have:=H0.o;omega)));have y0:=aA (v:=I 0) q.o 0 rfl;have y1:=aA (v:=I 0) q.o 1 rfl;have z0:=br q.o 0;have z1:=br q.o 1;clear G r K))
 clear Uq L HS o5 Cu;go_wp2;refine bW (v:=.tuple #[I 0,.agg #[I X1,I X2]]) (by simp[results,results150,go_sem,y0,y1]) rfl ?_;rw[HR.o];have hy:w.heap.size<=xb+1/\xb+1<w1.drew.heap.size:=⟨by have:=H0.o;omega,aM A.o⟩;exact⟨rfl,((Cw.o.set HC.o (Ad (xb+1) 0) _ hy hy.1).set HC.o (Ad (xb+1) 1) _ hy hy.1).left⟩
variable {σ:Type} {Hd:World->(Nat->Prop)->σ->Prop} {Ok:σ->List Bool->Prop} {o:iZ σ} {lo mb gb:Nat} {D:Nat->Prop} {vr vo:Value} {st:dC σ}
theorem adX (C:jc lo mb Hd Ok o) (k:Nat) (a n:Int) (w:World) (h:gD Hd lo mb gb w D vr vo st) (hok:fZ Ok st) (hk:k<st.ps.length) (h1:(aR st.ps k).st=1) (R:(Int×(Int×Int))×dC σ) (ha:cR a) (vW:1<=n) (hm8:n<=8) (hR:R=((Ac (o.load st.mem k a n 0).1.1,(o.load st.mem k a n 0).1.2),{ st with mem:=(o.load st.mem k a n 0).2 })) :
  Calls prog 150 #[.pointer (some (Ad gb 0)),I (k:Int),.agg #[I 1,I a,I n,I 0,I 0]] w λe w'=>e=.returned (.tuple #[I R.1.1,.agg (il R.1.2)])/\cY Hd lo mb gb w D vr vo R.2 w':=by
 have HG:=ai h;have HC:=ai C;have QB:=ai hok;have YI:=ai (jn k hk h1);have Dg:=ai hk;have W:=ai h1;have HR:=ai hR;have Ho:st.ps.length<=4:=by have:=C.ok.few _ _ hok.mem;unfold cI at this;rw[jw] at this;exact this
 have OI:=ai (hok.fit k hk);have U:=aM h.head;have g0:w.cell? (Ad gb 0)=some (.iface 183 (.pointer (some (Ad mb 0)))):=aA h.head 0 rfl;have g1:w.cell? (Ad gb 1)=some vr:=aA h.head 1 rfl;have mh:=ai (((aN w.heap.size w).alloc (aJ _) (.cells #[I 1,I a,I n,I 0,I 0] 110)).alloc ξ (.cells #[I 0,I 0] 75));have BX:=ai (bB (bG w #[I 1,I a,I n,I 0,I 0] 110) (.cells #[I 0,I 0] 75));have BY:Hid (((w.alloc (.cells #[I 1,I a,I n,I 0,I 0] 110)).alloc (.cells #[I 0,I 0] 75)).heap[w.heap.size+1]?=some (.cells #[I 0,I 0] 75 (0,0))):=by
  have:=bG (w.alloc (.cells #[I 1,I a,I n,I 0,I 0] 110)) #[I 0,I 0] 75;rw[fp] at this;exact this
 clear hR hok;have A:Hid (∀V,Calls prog 195 #[.string (o.load st.mem k a n 0).1.1] V λe w'=>∃x,e=.returned (.tuple #[I (Ac (o.load st.mem k a n 0).1.1),I x])/\V=w'):=λV=>by
  have h1:=C.ok.size st.mem _ k a n 0 QB.o.mem YI.o vW hm8;have h2:=C.ok.none st.mem _ k a n 0 QB.o.mem YI.o;unfold Ac;by_cases c:(o.load st.mem k a n 0).1.2.1=0
  . have:=h1 c;rw[aQ ω];exact(SK _ V ω ω).mono λe w' ⟨g1,g2⟩=>⟨0,g1,g2⟩
  rw[h2 c,aH Δ];exact(agS _ V (by unfold maxLen;decide) Δ).mono λe w' ⟨g1,g2⟩=>⟨3,g1,g2⟩
 have y:Hid (∀V,Below w.heap.size w V->Calls prog 254 #[.pointer (some (Ad mb 0)),I (k:Int),I a,I n,I 0] V (qA Hd V D (.tuple #[.string (o.load st.mem k a n 0).1.1,.agg (il (o.load st.mem k a n 0).1.2)]) (o.load st.mem k a n 0).2)):=λV hV=>C.load V D st.mem _ k a n 0 (h.below C hV).mem QB.o.mem YI.o ha vW hm8 (.inl rfl)
 generalize o.load st.mem k a n 0=X at y HR A;obtain⟨⟨d,X1,X2⟩,X3⟩:=X;unfold il at y;simp only at y HR A;generalize Ac d=G at A HR;have hm:=I6 (Ad mb 0);have T:=Mb (Ad mb 0);clear h C h1;go_enter func150,ntmps150;go_wp2_with fail;generalize (w.alloc (.cells #[I 1,I a,I n,I 0,I 0] 110)).alloc (.cells #[I 0,I 0] 75)=WA at mh BX BY ⊢;obtain⟨xb,O7⟩:=ex w.heap.size;rw[<- O7] at BX BY ⊢;have H0:=ai O7;have Kg:=ai (HG.o.below HC.o mh.o);have HS:Hid (∀V,aI D WA V->V.cell? (Ad gb 0)=some (.iface 183 (.pointer (some (Ad mb 0))))/\V.cell? (Ad xb 1)=some (I a)/\V.cell? (Ad xb 2)=some (I n)):=λV hb=>by
  have h1:=hb.keep BX.o (λg=>by have:=HC.o.dom _ _ _ HG.o.mem _ g;have:=H0.o;omega);have h2:=hb.keep Kg.o.head Kg.o.n1;exact⟨aA h2 0 rfl,aA h1 1 rfl,aA h1 2 rfl⟩
 have o5:=ai (HS.o _ (aI.drew _ _));have ZE:=ai (HS.o (WA.alloc (.cells #[I 0,I 0] 75)).drew ((aI.alloc _ _ _).trans (aI.drew _ _) (λ_ _ g=>g)));have eB:=ai mh.o.drew;have dz:=ai (mh.o.alloc mh.o.size (.cells #[I 0,I 0] 75)).drew;have F:=aM BY.o;have Q:Hid (¬D (xb+1)):=λg=>by have:=HC.o.dom _ _ _ HG.o.mem _ g;have:=H0.o;omega
 have O:Hid (¬D WA.heap.size):=λg=>by have:=HC.o.dom _ _ _ HG.o.mem _ g;have:=mh.o.size;omega
 clear O7 g0 g1;go_cut [8,9] (λx8 x9 wx=>∃zb,x8=.string d/\x9=.pointer (some (Ad zb 0))/\wx.heap[zb]?=some (.cells #[I X1,I X2] 75 (0,0))/\wx.heap[xb+1]?=some (.cells #[I 0,I 0] 75 (0,0))/\ia (λb=>b=xb+1) Hd lo mb gb w D vr vo { st with mem:=X3 } wx)
 case first =>
  have M:Hid (∀(V:World) (g:Nat),xb+1<g->(V.cell? (Ad gb 0)=some (.iface 183 (.pointer (some (Ad mb 0))))/\V.cell? (Ad xb 1)=some (I a)/\V.cell? (Ad xb 2)=some (I n))->∀v0 v1,((V.setCell (Ad g 0) v0).setCell (Ad g 1) v1).cell? (Ad gb 0)=some (.iface 183 (.pointer (some (Ad mb 0))))/\((V.setCell (Ad g 0) v0).setCell (Ad g 1) v1).cell? (Ad xb 1)=some (I a)/\((V.setCell (Ad g 0) v0).setCell (Ad g 1) v1).cell? (Ad xb 2)=some (I n)):=λV g hg ⟨h0,h1,h2⟩ v0 v1=>by
   have r:xb≠g:=by omega
   have QI:gb≠g:=by have:=H0.o;omega
   rw[cN _ _ _ _ _ _ r,cN _ _ _ _ _ _ r,cN _ _ _ _ _ _ r,cN _ _ _ _ _ _ r,cN _ _ _ _ _ _ QI,cN _ _ _ _ _ _ QI];exact⟨h0,h1,h2⟩
  go_region_held3 (λV=>V.cell? (Ad gb 0)=some (.iface 183 (.pointer (some (Ad mb 0))))/\V.cell? (Ad xb 1)=some (I a)/\V.cell? (Ad xb 2)=some (I n)) (first | exact o5.o | exact ZE.o | exact Cu.o | exact Fq.o _ | exact Uq.o _ _ | exact N.o _ _ _)
   (first | (go_at_call 254;refine(y.o _ (by first | exact eB.o | exact dz.o)).mono ?_;rintro e w2 ⟨D2,rfl,J,q,L⟩;have B:Hid (aI D WA w2):=(by first | exact(aI.drew D WA).trans q (λ_ _ g=>g) | exact((aI.alloc D WA (.cells #[I 0,I 0] 75)).trans (aI.drew D _) (λ_ _ g=>g)).trans q (λ_ _ g=>g));have Cu:=ai (HS.o _ B.o);have Fq:=ai (λob=>HS.o _ (B.o.trans (aI.alloc D w2 ob) (λ_ _ g=>g)));have Uq:=ai (M.o w2 WA.heap.size F Cu.o);have N:=ai (λob=>M.o (w2.alloc ob) w2.heap.size (gm F B.o.size) (Fq.o ob));have Cw:=ai (ia.behind HC.o HG.o (by first | exact eB.o | exact dz.o) (cY.ML HC.o (HG.o.below HC.o (by first | exact eB.o | exact dz.o)) J q L));have K:Hid (w2.heap[xb+1]?=some (.cells #[I 0,I 0] 75 (0,0))):=B.o.keep BY.o Q.o;(try (have Ih:=ai (q.keep (w:=(WA.alloc (.cells #[I 0,I 0] 75)).drew) (bG WA #[I 0,I 0] 75) O.o);have z0:=aA (v:=I 0) Ih.o 0 rfl;have z1:=aA (v:=I 0) Ih.o 1 rfl;have z2:=br Ih.o 0;have z3:=br Ih.o 1));clear J q L))
  all_goals
   go_wp2_with fail
   go_meet
   case rel =>
    first
    | exact⟨_,rfl,rfl,bG w2 _ _,bB K.o _,(Cw.o.more HC.o ((aN _ _).alloc (aJ _) _)).sub (λb e=>by subst e;exact⟨by have:=H0.o;omega,F⟩)⟩
    | exact⟨_,rfl,rfl,dm (dm Ih.o 0 _) 1 _,jy (jy K.o WA.heap.size 0 _ ω) WA.heap.size 1 _ ω,((Cw.o.set HC.o (Ad WA.heap.size 0) _ ⟨mh.o.size,by show WA.heap.size<(WA.alloc _).heap.size;rw[fp];omega⟩ mh.o.size).set HC.o (Ad WA.heap.size 1) _ ⟨mh.o.size,by show WA.heap.size<(WA.alloc _).heap.size;rw[fp];omega⟩ mh.o.size).sub (λb e=>by subst e;exact⟨by have:=H0.o;omega,by show _<(WA.alloc _).heap.size;rw[fp];omega⟩)⟩
 case rest =>
  obtain⟨zb,rfl,rfl,hz,hy,hl⟩:=hcut;have HZ:=ai hz;have HY:=ai hy;have HL:=ai hl;have z0:=aA (v:=I X1) hz 0 rfl;have z1:=aA (v:=I X2) hz 1 rfl;have y0:=aA (v:=I 0) hy 0 rfl;have y1:=aA (v:=I 0) hy 1 rfl;have f0:=br hy 0;have f1:=br hy 1;clear hz hy hl HS o5 ZE eB dz;go_wp2_with (go_at_call 195;refine(A.o _).mono ?_;rintro e w3 ⟨x,rfl,rfl⟩);go_region
  all_goals
   go_wp2;refine bW (v:=.tuple #[I G,.agg #[I X1,I X2]]) (by simp[results,results150,go_sem,y0,y1]) rfl ?_;rw[HR.o];exact⟨rfl,(((HL.o.more HC.o (aN _ _).drew).set HC.o (Ad (xb+1) 0) _ rfl (by show w.heap.size<=xb+1;have:=H0.o;omega)).set HC.o (Ad (xb+1) 1) _ rfl (by show w.heap.size<=xb+1;have:=H0.o;omega)).left⟩
theorem OD {i:eJ} (hb:i.bad=false) (h:i.op=9\/i.op=10):1<=i.c/\i.c<=8:=by
 unfold eJ.bad at hb;rw[aH ω,aH ω,aH ω,aH ω,aH ω,aQ h] at hb;unfold pR at hb;simp at hb;omega
theorem abh {i:eJ} (hb:i.bad=false) (h:i.op=16):1<=i.m/\i.m<=6:=by
 unfold eJ.bad at hb;rw[aH ω,aQ h] at hb;simpa using hb
theorem Um (C:jc lo mb Hd Ok o) (k:Nat) (i:eJ) (w:World) (h:gD Hd lo mb gb w D vr vo st) (hok:fZ Ok st) (hk:k<st.ps.length) (h1:(aR st.ps k).st=1) :
  Calls prog 150 #[.pointer (some (Ad gb 0)),I (k:Int),.agg (pZ (aR st.ps k) i)] w λe w'=>e=.returned (.tuple #[I (gF o st k i).1.1,.agg (il (gF o st k i).1.2)])/\cY Hd lo mb gb w D vr vo (gF o st k i).2 w':=by
 by_cases hb:i.bad=true
 . have e1:pZ (aR st.ps k) i=#[I 4,I 0,I 0,I 0,I 0]:=by unfold pZ;rw[aQ hb]
   rw[e1];exact adU C k w h hok hk h1 _ (by unfold gF;rw[aQ hb])
 have y:i.bad=false:=by simpa using hb
 by_cases c9:i.op=9
 . have q:=OD y (.inl c9);have e1:pZ (aR st.ps k) i=#[I 1,I (wrap64 ((aR st.ps k).r i.b.toNat+i.m)),I i.c,I 0,I 0]:=by unfold pZ;rw[aH hb,aQ c9]
   rw[e1];exact adX C k _ _ w h hok hk h1 _ (qC _) q.1 q.2 (by unfold gF;rw[aH hb,aQ c9])
 by_cases c10:i.op=10
 . have q:=OD y (.inr c10);obtain⟨m,hm⟩:∃m:Nat,i.c=(m:Int):=⟨i.c.toNat,ω⟩;have e1:pZ (aR st.ps k) i=#[I 2,I (wrap64 ((aR st.ps k).r i.b.toNat+i.m)),I (m:Int),I ((aR st.ps k).r i.a.toNat),I 0]:=by unfold pZ;rw[aH hb,aH c9,aQ c10,hm]
   rw[e1];exact adW C k _ _ m w h hok hk h1 _ (qC _) ω ω (by unfold gF;rw[aH hb,aH c9,aQ c10,hm])
 by_cases c16:i.op=16
 . have e1:pZ (aR st.ps k) i=#[I 3,I 0,I 0,I 0,I i.m]:=by unfold pZ;rw[aH hb,aH c9,aH c10,aQ c16]
   rw[e1];exact adV C k i.m w h hok hk h1 _ (abh y c16) (by unfold gF;rw[aH hb,aH c9,aH c10,aQ c16])
 have e1:pZ (aR st.ps k) i=#[I 0,I 0,I 0,I 0,I 0]:=by unfold pZ;rw[aH hb,aH c9,aH c10,aH c16]
 rw[e1];exact adY C k w h hok hk h1 _ (by unfold gF;rw[aH hb,aH c9,aH c10,aH c16])
variable {σ:Type} {Hd:World->(Nat->Prop)->σ->Prop} {Ok:σ->List Bool->Prop} {o:iZ σ} {lo mb gb:Nat} {D:Nat->Prop} {vr vo:Value} {st:dC σ}
theorem OC (C:jc lo mb Hd Ok o) (k:Nat) (s:ByteArray) (v:Int) (w:World) (h:gD Hd lo mb gb w D vr vo st) (Ho:st.ps.length<=1000) (hk:k<st.ps.length) (h8:s.size=8) (hbad:(iq s).bad=false) :
  Calls prog 151 #[.pointer (some (Ad gb 0)),I (k:Int),.string s,I v] w λe w'=>e=.returned (.tuple #[])/\cY Hd lo mb gb w D vr vo { st with ps:=st.ps.set k (di (aR st.ps k) (iq s) v) } w':=by
 have HG:=ai h;have HC:=ai C;obtain⟨pb,cap,Jt,y,J,Wu⟩:=h.proc k hk;have pK:=ai J;have B:=ai Wu;have A:=ai (λV=>Z6 (aR st.ps k) s v V h8 hbad);generalize aR st.ps k=q at pK A ⊢;generalize di q (iq s) v=N at A ⊢;obtain⟨n,hn⟩:=ex st.ps.length;rw[<- hn] at Jt hk Ho;have HN:=ai hn;subst Jt;have Il:(k:Int)<(n:Int):=by omega
 have F:Hid (∀V,Calls prog 197 #[.agg #[I (q.r 0),I (q.r 1),I (q.r 2),I (q.r 3),I (q.r 4),I (q.r 5),I (q.r 6),I (q.r 7),I q.pc,I q.st,I q.cd,I q.fk,I q.fa],.string s,I v] V λe w'=>e=.returned (.tuple #[.agg #[I (N.r 0),I (N.r 1),I (N.r 2),I (N.r 3),I (N.r 4),I (N.r 5),I (N.r 6),I (N.r 7),I N.pc,I N.st,I N.cd,I N.fk,I N.fa],I 0])/\Below V.heap.size V w'):=A;have g1:w.cell? (Ad gb 1)=some (.slice (some (Ad pb 0)) n cap):=aA HG.o.head 1 rfl;have O:=aM HG.o.head;have c0:w.cell? (Ad pb (k*13))=some (I (q.r 0)):=pK.o 0 ω;have c1:w.cell? (Ad pb (k*13+1))=some (I (q.r 1)):=pK.o 1 ω;have c2:w.cell? (Ad pb (k*13+2))=some (I (q.r 2)):=pK.o 2 ω;have c3:w.cell? (Ad pb (k*13+3))=some (I (q.r 3)):=pK.o 3 ω;have c4:w.cell? (Ad pb (k*13+4))=some (I (q.r 4)):=pK.o 4 ω;have c5:w.cell? (Ad pb (k*13+5))=some (I (q.r 5)):=pK.o 5 ω;have c6:w.cell? (Ad pb (k*13+6))=some (I (q.r 6)):=pK.o 6 ω;have c7:w.cell? (Ad pb (k*13+7))=some (I (q.r 7)):=pK.o 7 ω;have c8:w.cell? (Ad pb (k*13+8))=some (I q.pc):=pK.o 8 ω;have c9:w.cell? (Ad pb (k*13+9))=some (I q.st):=pK.o 9 ω;have M:w.cell? (Ad pb (k*13+10))=some (I q.cd):=pK.o 10 ω;have K:w.cell? (Ad pb (k*13+11))=some (I q.fk):=pK.o 11 ω;have L:w.cell? (Ad pb (k*13+12))=some (I q.fa):=pK.o 12 ω;have xB:=ai (aN w.heap.size w).drew;clear hn J Wu h C A pK h8 hbad;go_enter func151,ntmps151;go_wp2_with fail
 go_region_law (go_simp;go_at_call 197;refine(F.o _).mono ?_;rintro e w1 ⟨rfl,G⟩;have b:=xB.o.trans G;have dz:=ai b;have d0:w1.cell? (Ad pb (k*13))=some (I (q.r 0)):=(b.cell (p:=(Ad pb (k*13))) y).trans c0;have d1:w1.cell? (Ad pb (k*13+1))=some (I (q.r 1)):=(b.cell (p:=(Ad pb (k*13+1))) y).trans c1;have d2:w1.cell? (Ad pb (k*13+2))=some (I (q.r 2)):=(b.cell (p:=(Ad pb (k*13+2))) y).trans c2;have d3:w1.cell? (Ad pb (k*13+3))=some (I (q.r 3)):=(b.cell (p:=(Ad pb (k*13+3))) y).trans c3;have d4:w1.cell? (Ad pb (k*13+4))=some (I (q.r 4)):=(b.cell (p:=(Ad pb (k*13+4))) y).trans c4;have d5:w1.cell? (Ad pb (k*13+5))=some (I (q.r 5)):=(b.cell (p:=(Ad pb (k*13+5))) y).trans c5;have d6:w1.cell? (Ad pb (k*13+6))=some (I (q.r 6)):=(b.cell (p:=(Ad pb (k*13+6))) y).trans c6;have d7:w1.cell? (Ad pb (k*13+7))=some (I (q.r 7)):=(b.cell (p:=(Ad pb (k*13+7))) y).trans c7;have d8:w1.cell? (Ad pb (k*13+8))=some (I q.pc):=(b.cell (p:=(Ad pb (k*13+8))) y).trans c8;have d9:w1.cell? (Ad pb (k*13+9))=some (I q.st):=(b.cell (p:=(Ad pb (k*13+9))) y).trans c9;have Q:w1.cell? (Ad pb (k*13+10))=some (I q.cd):=(b.cell (p:=(Ad pb (k*13+10))) y).trans M;have R:w1.cell? (Ad pb (k*13+11))=some (I q.fk):=(b.cell (p:=(Ad pb (k*13+11))) y).trans K;have T:w1.cell? (Ad pb (k*13+12))=some (I q.fa):=(b.cell (p:=(Ad pb (k*13+12))) y).trans L;have f1:∀j,w1.frozen? (Ad pb j)=false:=(λj=>(b.frozen (p:=(Ad pb j)) y).trans (B.o j));have x1:w1.cell? (Ad gb 1)=some (.slice (some (Ad pb 0)) n cap):=(b.cell (p:=(Ad gb 1)) O).trans g1;clear b G;go_simp)
 all_goals
  clear F B;go_wp2
  go_end0
  exact⟨rfl,cY.after dz.o ((HG.o.below HC.o dz.o).asL HC.o k (by rw[<- HN.o];exact hk) HN.o N)⟩
def mC (i:eJ) (n:Nat) (ps:List bQ):Nat->List bQ
 | 0=>ps
 | j+1=>(mC i n ps j).set (n+j) (di (aR (mC i n ps j) (n+j)) i 0)
theorem qp (i:eJ) (n:Nat) (ps:List bQ):∀j,(mC i n ps j).length=ps.length
 | 0=>rfl
 | j+1=>by show((mC i n ps j).set _ _).length=_;rw[gX];exact qp i n ps j
theorem GV (i:eJ) (n:Nat) (ps:List bQ):∀j m,n+j<=ps.length->(mC i n ps j)[m]?=if n<=m/\m<n+j then ps[m]?.map (λp=>di p i 0) else ps[m]?
 | 0,m,_=>by rw[aH ω];rfl
 | j+1,m,h=>by
  show((mC i n ps j).set (n+j) (di (aR (mC i n ps j) (n+j)) i 0))[m]?=_;have ih:=GV i n ps j;have hl:=qp i n ps j;rw[Qi];by_cases e:n+j=m
  . subst e;have hlt:n+j<ps.length:=by omega
    rw[aQ rfl,aQ ω,aQ ω,pX hlt];have hq:aR (mC i n ps j) (n+j)=ps[n+j]:=by
     unfold aR;rw[jI,ih (n+j) ω,aH ω,pX hlt];rfl
    rw[hq];rfl
  rw[aH e,ih m ω];by_cases c:n<=m/\m<n+j
  . rw[aQ c,aQ ω]
  rw[aH c,aH ω]
theorem SD (i:eJ) (n:Nat) (ps:List bQ) (h:n<=ps.length):mC i n ps (ps.length-n)=pV i n ps:=by
 apply D7;intro m;rw[GV i n ps _ m ω];unfold pV;by_cases c:m<n
 . rw[aH ω,Kz (by rw[ye];omega),List.getElem?_take_of_lt c]
 rw[Eb (by rw[ye];omega),ye,We h,Ks,Wk,show n+(m-n)=m by omega];by_cases c2:m<ps.length
 . rw[aQ ω]
 rw[aH ω,List.getElem?_eq_none ω];rfl
end Go.Proofs.YtlgoihmkgaaemaaGreat
