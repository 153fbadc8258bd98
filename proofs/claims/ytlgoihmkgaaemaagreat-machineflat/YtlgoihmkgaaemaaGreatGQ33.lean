import Derived.Test.YtlgoihmkgaaemaaGreatGQ32
set_option maxHeartbeats 20000000
set_option linter.unusedVariables false
set_option maxRecDepth 100000
set_option linter.unusedSimpArgs false
namespace Go.Proofs.YtlgoihmkgaaemaaGreat
open Go.RowKit Tryz
variable {MT:y7} {σ:Type} {Hd:World->(Nat->Prop)->σ->Prop} {Ok:σ->List Bool->Prop} {o:lK σ} {lo mb gb:Nat} {D:Nat->Prop} {vr vo:Value} {st:dB σ}
theorem ahT (C:ja MT lo mb Hd Ok o) (k:Nat) (a v:Int) (m:Nat) (w:World) (h:fR MT Hd lo mb gb w D vr vo st) (hok:ez Ok st) (hk:k<st.ps.length) (h1:(aO st.ps k).st=1) (R:(Int×(Int×Int))×dB σ) (ha:cH a) (yr:1<=m) (hm8:m<=8) (hR:R=((0,(o.store st.mem k a (oJ v m)).1),{ st with mem:=(o.store st.mem k a (oJ v m)).2 })) :
  Calls prog 150 #[.pointer (some (Ad gb 0)),I (k:Int),.agg #[I 2,I a,I (m:Int),I v,I 0]] w λe w'=>e=.returned (.tuple #[I R.1.1,.agg (eI R.1.2)])/\cV MT Hd lo mb gb w D vr vo R.2 w':=by
 have HG:=ai h;have HC:=ai C;have Qk:=ai hok;have L:=ai (lY k hk h1);have Nc:=ai hk;have U:=ai h1;have HR:=ai hR;have Lm:st.ps.length<=4:=by have:=C.ok.few _ _ hok.mem;unfold bY at this;rw[fI] at this;exact this
 have O:=ai (hok.fit k hk);have M:=aQ h.head;have g0:w.cell? (Ad gb 0)=some (.iface MT.T (.pointer (some (Ad mb 0)))):=aA h.head 0 rfl;have g1:w.cell? (Ad gb 1)=some vr:=aA h.head 1 rfl;have jc:=ai (((aN w.heap.size w).alloc (aK _) (.cells #[I 2,I a,I (m:Int),I v,I 0] 110)).alloc ξ (.cells #[I 0,I 0] 75));have BX:=ai (bu (bH w #[I 2,I a,I (m:Int),I v,I 0] 110) (.cells #[I 0,I 0] 75));have BY:Hid (((w.alloc (.cells #[I 2,I a,I (m:Int),I v,I 0] 110)).alloc (.cells #[I 0,I 0] 75)).heap[w.heap.size+1]?=some (.cells #[I 0,I 0] 75 (0,0))):=by
  have:=bH (w.alloc (.cells #[I 2,I a,I (m:Int),I v,I 0] 110)) #[I 0,I 0] 75;rw[fY] at this;exact this
 clear hR hok;have B:Hid (∀V,Calls prog 169 #[I v,I (m:Int)] V λe w'=>e=.returned (.tuple #[.string (oJ v m),I 0])/\Below V.heap.size V w'):=λV=>by
  have:=Xd v m V yr hm8;unfold oJ;rw[jW];exact this
 have K:(oJ v m).size=m:=by
  unfold oJ;rw[jW];show(Lib.leBytes m (kz v)).toArray.size=m;simp[Lib.leBytes_length]
 have b:Hid (∀V,Below w.heap.size w V->Calls prog MT.MD #[.pointer (some (Ad mb 0)),I (k:Int),I a,.string (oJ v m)] V (kj Hd V D (.agg (eI (o.store st.mem k a (oJ v m)).1)) (o.store st.mem k a (oJ v m)).2)):=λV hV=>C.store V D st.mem _ k a (oJ v m) (h.below C hV).mem Qk.o.mem L.o ha ω ω
 generalize o.store st.mem k a (oJ v m)=X at b HR;generalize oJ v m=d at B b;obtain⟨⟨X1,X2⟩,X3⟩:=X;unfold eI at b;simp only at b HR;have hm:=MT.agJ (Ad mb 0);have Q:=MT.ag4 (Ad mb 0);have N:=MT.ag1;clear h C h1 K;go_enter func150,ntmps150;go_wp2_with (go_at_call 169;refine(B.o _).mono ?_;rintro e w1 ⟨rfl,A⟩;have cD:=ai (jc.o.trans (A.mono jc.o.size));have SQ:=ai (aU BX.o A (aQ BX.o));have Ql:=ai (aU BY.o A (aQ BY.o));clear A);have Ns:=ai (HG.o.below HC.o cD.o);obtain⟨xb,UF⟩:=ex w.heap.size;rw[<- UF] at SQ Ql ⊢;have QP:=ai UF;have HS:Hid (∀V,aH D w1 V->V.cell? (Ad gb 0)=some (.iface MT.T (.pointer (some (Ad mb 0))))/\V.cell? (Ad xb 1)=some (I a)):=λV hb=>by
  have h1:=hb.keep SQ.o (λg=>by have:=HC.o.dom _ _ _ HG.o.mem _ g;have:=QP.o;omega);have h2:=hb.keep Ns.o.head Ns.o.n1;exact⟨aA h2 0 rfl,aA h1 1 rfl⟩
 have pK:=ai (HS.o _ (aH.drew _ _));have QQ:Hid (∀V:World,(V.cell? (Ad gb 0)=some (.iface MT.T (.pointer (some (Ad mb 0))))/\V.cell? (Ad xb 1)=some (I a))->∀v0 v1,(((V.setCell (Ad (xb+1) 0) v0).setCell (Ad (xb+1) 1) v1).cell? (Ad gb 0)=some (.iface MT.T (.pointer (some (Ad mb 0))))/\((V.setCell (Ad (xb+1) 0) v0).setCell (Ad (xb+1) 1) v1).cell? (Ad xb 1)=some (I a))):=λV ⟨h0,h1⟩ v0 v1=>by
  have G:xb≠xb+1:=by omega
  have S6:gb≠xb+1:=by have:=QP.o;omega
  rw[dH _ _ _ _ _ _ G,dH _ _ _ _ _ _ G,dH _ _ _ _ _ _ S6,dH _ _ _ _ _ _ S6];exact⟨h0,h1⟩
 clear UF B g0 g1
 go_region_held3 (λV=>V.cell? (Ad gb 0)=some (.iface MT.T (.pointer (some (Ad mb 0))))/\V.cell? (Ad xb 1)=some (I a)) (first | exact IK.o _ _ | exact Mf.o | exact pK.o)
  (first | ((with_reducible refine(b.o _ cD.o.drew).mono ?_);rintro e w2 ⟨D2,rfl,J,q,F⟩;have Mf:=ai (HS.o _ ((aH.drew D w1).trans q (λ_ _ g=>g)));have IK:=ai (QQ.o w2 Mf.o);have DW:=ai (iq.behind HC.o HG.o cD.o.drew (cV.Qo HC.o (HG.o.below HC.o cD.o.drew) J q F));have y:=ai (q.keep (w:=w1.drew) Ql.o (λg=>(by have:=HC.o.dom _ _ _ HG.o.mem _ g;have:=QP.o;omega)));have y0:=aA (v:=I 0) y.o 0 rfl;have y1:=aA (v:=I 0) y.o 1 rfl;have z0:=bG y.o 0;have z1:=bG y.o 1;clear J q F))
 clear IK QQ HS pK Mf;go_wp2;refine b9 (v:=.tuple #[I 0,.agg #[I X1,I X2]]) (by simp[results,results150,go_sem,y0,y1]) rfl ?_;rw[HR.o];have hy:w.heap.size<=xb+1/\xb+1<w1.drew.heap.size:=⟨by have:=QP.o;omega,aQ Ql.o⟩;exact⟨rfl,((DW.o.set HC.o (Ad (xb+1) 0) _ hy hy.1).set HC.o (Ad (xb+1) 1) _ hy hy.1).left⟩
open Go.RowKit
variable {MT:y7} {σ:Type} {Hd:World->(Nat->Prop)->σ->Prop} {Ok:σ->List Bool->Prop} {o:lK σ} {lo mb gb:Nat} {D:Nat->Prop} {vr vo:Value} {st:dB σ}
theorem ahU (C:ja MT lo mb Hd Ok o) (k:Nat) (a n:Int) (w:World) (h:fR MT Hd lo mb gb w D vr vo st) (hok:ez Ok st) (hk:k<st.ps.length) (h1:(aO st.ps k).st=1) (R:(Int×(Int×Int))×dB σ) (ha:cH a) (yr:1<=n) (hm8:n<=8) (hR:R=((CK (o.load st.mem k a n 0).1.1,(o.load st.mem k a n 0).1.2),{ st with mem:=(o.load st.mem k a n 0).2 })) :
  Calls prog 150 #[.pointer (some (Ad gb 0)),I (k:Int),.agg #[I 1,I a,I n,I 0,I 0]] w λe w'=>e=.returned (.tuple #[I R.1.1,.agg (eI R.1.2)])/\cV MT Hd lo mb gb w D vr vo R.2 w':=by
 have HG:=ai h;have HC:=ai C;have Qk:=ai hok;have J:=ai (lY k hk h1);have Nc:=ai hk;have a0:=ai h1;have HR:=ai hR;have Lm:st.ps.length<=4:=by have:=C.ok.few _ _ hok.mem;unfold bY at this;rw[fI] at this;exact this
 have a2:=ai (hok.fit k hk);have a1:=aQ h.head;have g0:w.cell? (Ad gb 0)=some (.iface MT.T (.pointer (some (Ad mb 0)))):=aA h.head 0 rfl;have g1:w.cell? (Ad gb 1)=some vr:=aA h.head 1 rfl;have jc:=ai (((aN w.heap.size w).alloc (aK _) (.cells #[I 1,I a,I n,I 0,I 0] 110)).alloc ξ (.cells #[I 0,I 0] 75));have BX:=ai (bu (bH w #[I 1,I a,I n,I 0,I 0] 110) (.cells #[I 0,I 0] 75));have BY:Hid (((w.alloc (.cells #[I 1,I a,I n,I 0,I 0] 110)).alloc (.cells #[I 0,I 0] 75)).heap[w.heap.size+1]?=some (.cells #[I 0,I 0] 75 (0,0))):=by
  have:=bH (w.alloc (.cells #[I 1,I a,I n,I 0,I 0] 110)) #[I 0,I 0] 75;rw[fY] at this;exact this
 clear hR hok;have F:Hid (∀V,Calls prog 195 #[.string (o.load st.mem k a n 0).1.1] V λe w'=>∃x,e=.returned (.tuple #[I (CK (o.load st.mem k a n 0).1.1),I x])/\V=w'):=λV=>by
  have h1:=C.ok.size st.mem _ k a n 0 Qk.o.mem J.o yr hm8;have h2:=C.ok.none st.mem _ k a n 0 Qk.o.mem J.o;unfold CK;by_cases c:(o.load st.mem k a n 0).1.2.1=0
  . have:=h1 c;rw[aC ω];exact(Xf _ V ω ω).mono λe w' ⟨g1,g2⟩=>⟨0,g1,g2⟩
  rw[h2 c,aB Δ];exact(alr _ V (by unfold maxLen;decide) Δ).mono λe w' ⟨g1,g2⟩=>⟨3,g1,g2⟩
 have B:Hid (∀V,Below w.heap.size w V->Calls prog MT.Rm #[.pointer (some (Ad mb 0)),I (k:Int),I a,I n,I 0] V (kj Hd V D (.tuple #[.string (o.load st.mem k a n 0).1.1,.agg (eI (o.load st.mem k a n 0).1.2)]) (o.load st.mem k a n 0).2)):=λV hV=>C.load V D st.mem _ k a n 0 (h.below C hV).mem Qk.o.mem J.o ha yr hm8 (.inl rfl)
 generalize o.load st.mem k a n 0=X at B HR F;obtain⟨⟨d,X1,X2⟩,X3⟩:=X;unfold eI at B;simp only at B HR F;generalize CK d=G at F HR;have hm:=MT.aiY (Ad mb 0);have Z:=MT.ajo (Ad mb 0);have Y:=MT.ajm;clear h C h1;go_enter func150,ntmps150;go_wp2_with fail;generalize (w.alloc (.cells #[I 1,I a,I n,I 0,I 0] 110)).alloc (.cells #[I 0,I 0] 75)=WA at jc BX BY ⊢;obtain⟨xb,UF⟩:=ex w.heap.size;rw[<- UF] at BX BY ⊢;have QP:=ai UF;have Ns:=ai (HG.o.below HC.o jc.o);have HS:Hid (∀V,aH D WA V->V.cell? (Ad gb 0)=some (.iface MT.T (.pointer (some (Ad mb 0))))/\V.cell? (Ad xb 1)=some (I a)/\V.cell? (Ad xb 2)=some (I n)):=λV hb=>by
  have h1:=hb.keep BX.o (λg=>by have:=HC.o.dom _ _ _ HG.o.mem _ g;have:=QP.o;omega);have h2:=hb.keep Ns.o.head Ns.o.n1;exact⟨aA h2 0 rfl,aA h1 1 rfl,aA h1 2 rfl⟩
 have pK:=ai (HS.o _ (aH.drew _ _));have N:=ai (HS.o (WA.alloc (.cells #[I 0,I 0] 75)).drew ((aH.alloc _ _ _).trans (aH.drew _ _) (λ_ _ g=>g)));have fU:=ai jc.o.drew;have cD:=ai (jc.o.alloc jc.o.size (.cells #[I 0,I 0] 75)).drew;have K:=aQ BY.o;have Q:Hid (¬D (xb+1)):=λg=>by have:=HC.o.dom _ _ _ HG.o.mem _ g;have:=QP.o;omega
 have U:Hid (¬D WA.heap.size):=λg=>by have:=HC.o.dom _ _ _ HG.o.mem _ g;have:=jc.o.size;omega
 clear UF g0 g1;go_cut [8,9] (λx8 x9 wx=>∃zb,x8=.string d/\x9=.pointer (some (Ad zb 0))/\wx.heap[zb]?=some (.cells #[I X1,I X2] 75 (0,0))/\wx.heap[xb+1]?=some (.cells #[I 0,I 0] 75 (0,0))/\iq MT (λb=>b=xb+1) Hd lo mb gb w D vr vo { st with mem:=X3 } wx)
 case first =>
  have QQ:Hid (∀(V:World) (g:Nat),xb+1<g->(V.cell? (Ad gb 0)=some (.iface MT.T (.pointer (some (Ad mb 0))))/\V.cell? (Ad xb 1)=some (I a)/\V.cell? (Ad xb 2)=some (I n))->∀v0 v1,((V.setCell (Ad g 0) v0).setCell (Ad g 1) v1).cell? (Ad gb 0)=some (.iface MT.T (.pointer (some (Ad mb 0))))/\((V.setCell (Ad g 0) v0).setCell (Ad g 1) v1).cell? (Ad xb 1)=some (I a)/\((V.setCell (Ad g 0) v0).setCell (Ad g 1) v1).cell? (Ad xb 2)=some (I n)):=λV g hg ⟨h0,h1,h2⟩ v0 v1=>by
   have y:xb≠g:=by omega
   have S6:gb≠g:=by have:=QP.o;omega
   rw[dH _ _ _ _ _ _ y,dH _ _ _ _ _ _ y,dH _ _ _ _ _ _ y,dH _ _ _ _ _ _ y,dH _ _ _ _ _ _ S6,dH _ _ _ _ _ _ S6];exact⟨h0,h1,h2⟩
  go_region_held3 (λV=>V.cell? (Ad gb 0)=some (.iface MT.T (.pointer (some (Ad mb 0))))/\V.cell? (Ad xb 1)=some (I a)/\V.cell? (Ad xb 2)=some (I n)) (first | exact pK.o | exact N.o | exact Mf.o | exact Gh.o _ | exact IK.o _ _ | exact W.o _ _ _)
   (first | ((with_reducible refine(B.o _ (by first | exact fU.o | exact cD.o)).mono ?_);rintro e w2 ⟨D2,rfl,O,q,L⟩;have A:Hid (aH D WA w2):=(by first | exact(aH.drew D WA).trans q (λ_ _ g=>g) | exact((aH.alloc D WA (.cells #[I 0,I 0] 75)).trans (aH.drew D _) (λ_ _ g=>g)).trans q (λ_ _ g=>g));have Mf:=ai (HS.o _ A.o);have Gh:=ai (λob=>HS.o _ (A.o.trans (aH.alloc D w2 ob) (λ_ _ g=>g)));have IK:=ai (QQ.o w2 WA.heap.size K Mf.o);have W:=ai (λob=>QQ.o (w2.alloc ob) w2.heap.size (dV K A.o.size) (Gh.o ob));have DW:=ai (iq.behind HC.o HG.o (by first | exact fU.o | exact cD.o) (cV.Qo HC.o (HG.o.below HC.o (by first | exact fU.o | exact cD.o)) O q L));have M:Hid (w2.heap[xb+1]?=some (.cells #[I 0,I 0] 75 (0,0))):=A.o.keep BY.o Q.o;(try (have DY:=ai (q.keep (w:=(WA.alloc (.cells #[I 0,I 0] 75)).drew) (bH WA #[I 0,I 0] 75) U.o);have z0:=aA (v:=I 0) DY.o 0 rfl;have z1:=aA (v:=I 0) DY.o 1 rfl;have z2:=bG DY.o 0;have z3:=bG DY.o 1));clear O q L))
  all_goals
   go_wp2_with fail
   go_meet
   case rel =>
    first
    | exact⟨_,rfl,rfl,bH w2 _ _,bu M.o _,(DW.o.more HC.o ((aN _ _).alloc (aK _) _)).sub (λb e=>by subst e;exact⟨by have:=QP.o;omega,K⟩)⟩
    | exact⟨_,rfl,rfl,gH (gH DY.o 0 _) 1 _,nt (nt M.o WA.heap.size 0 _ ω) WA.heap.size 1 _ ω,((DW.o.set HC.o (Ad WA.heap.size 0) _ ⟨jc.o.size,by show WA.heap.size<(WA.alloc _).heap.size;rw[fY];omega⟩ jc.o.size).set HC.o (Ad WA.heap.size 1) _ ⟨jc.o.size,by show WA.heap.size<(WA.alloc _).heap.size;rw[fY];omega⟩ jc.o.size).sub (λb e=>by subst e;exact⟨by have:=QP.o;omega,by show _<(WA.alloc _).heap.size;rw[fY];omega⟩)⟩
 case rest =>
  obtain⟨zb,rfl,rfl,hz,hy,hl⟩:=hcut;have HZ:=ai hz;have HY:=ai hy;have HL:=ai hl;have z0:=aA (v:=I X1) hz 0 rfl;have z1:=aA (v:=I X2) hz 1 rfl;have y0:=aA (v:=I 0) hy 0 rfl;have y1:=aA (v:=I 0) hy 1 rfl;have f0:=bG hy 0;have f1:=bG hy 1;clear hz hy hl HS pK N fU cD;go_wp2_with (go_at_call 195;refine(F.o _).mono ?_;rintro e w3 ⟨x,rfl,rfl⟩);go_region
  all_goals
   go_wp2;refine b9 (v:=.tuple #[I G,.agg #[I X1,I X2]]) (by simp[results,results150,go_sem,y0,y1]) rfl ?_;rw[HR.o];exact⟨rfl,(((HL.o.more HC.o (aN _ _).drew).set HC.o (Ad (xb+1) 0) _ rfl (by show w.heap.size<=xb+1;have:=QP.o;omega)).set HC.o (Ad (xb+1) 1) _ rfl (by show w.heap.size<=xb+1;have:=QP.o;omega)).left⟩
theorem Sr {i:eu} (hb:i.bad=false) (h:i.op=9\/i.op=10):1<=i.c/\i.c<=8:=by
 unfold eu.bad at hb;rw[aB ω,aB ω,aB ω,aB ω,aB ω,aC h] at hb;unfold uv at hb;simp at hb;omega
theorem ae5 {i:eu} (hb:i.bad=false) (h:i.op=16):1<=i.m/\i.m<=6:=by
 unfold eu.bad at hb;rw[aB ω,aC h] at hb;simpa using hb
theorem YP (C:ja MT lo mb Hd Ok o) (k:Nat) (i:eu) (w:World) (h:fR MT Hd lo mb gb w D vr vo st) (hok:ez Ok st) (hk:k<st.ps.length) (h1:(aO st.ps k).st=1) :
  Calls prog 150 #[.pointer (some (Ad gb 0)),I (k:Int),.agg (ru (aO st.ps k) i)] w λe w'=>e=.returned (.tuple #[I (gS o st k i).1.1,.agg (eI (gS o st k i).1.2)])/\cV MT Hd lo mb gb w D vr vo (gS o st k i).2 w':=by
 by_cases hb:i.bad=true
 . have e1:ru (aO st.ps k) i=#[I 4,I 0,I 0,I 0,I 0]:=by unfold ru;rw[aC hb]
   rw[e1];exact ahR C k w h hok hk h1 _ (by unfold gS;rw[aC hb])
 have q:i.bad=false:=by simpa using hb
 by_cases c9:i.op=9
 . have y:=Sr q (.inl c9);have e1:ru (aO st.ps k) i=#[I 1,I (wrap64 ((aO st.ps k).r i.b.toNat+i.m)),I i.c,I 0,I 0]:=by unfold ru;rw[aB hb,aC c9]
   rw[e1];exact ahU C k _ _ w h hok hk h1 _ (sD _) y.1 y.2 (by unfold gS;rw[aB hb,aC c9])
 by_cases c10:i.op=10
 . have y:=Sr q (.inr c10);obtain⟨m,hm⟩:∃m:Nat,i.c=(m:Int):=⟨i.c.toNat,ω⟩;have e1:ru (aO st.ps k) i=#[I 2,I (wrap64 ((aO st.ps k).r i.b.toNat+i.m)),I (m:Int),I ((aO st.ps k).r i.a.toNat),I 0]:=by unfold ru;rw[aB hb,aB c9,aC c10,hm]
   rw[e1];exact ahT C k _ _ m w h hok hk h1 _ (sD _) ω ω (by unfold gS;rw[aB hb,aB c9,aC c10,hm])
 by_cases c16:i.op=16
 . have e1:ru (aO st.ps k) i=#[I 3,I 0,I 0,I 0,I i.m]:=by unfold ru;rw[aB hb,aB c9,aB c10,aC c16]
   rw[e1];exact ahS C k i.m w h hok hk h1 _ (ae5 q c16) (by unfold gS;rw[aB hb,aB c9,aB c10,aC c16])
 have e1:ru (aO st.ps k) i=#[I 0,I 0,I 0,I 0,I 0]:=by unfold ru;rw[aB hb,aB c9,aB c10,aB c16]
 rw[e1];exact ahV C k w h hok hk h1 _ (by unfold gS;rw[aB hb,aB c9,aB c10,aB c16])
variable {MT:y7} {σ:Type} {Hd:World->(Nat->Prop)->σ->Prop} {Ok:σ->List Bool->Prop} {o:lK σ} {lo mb gb:Nat} {D:Nat->Prop} {vr vo:Value} {st:dB σ}
theorem Sq (C:ja MT lo mb Hd Ok o) (k:Nat) (s:ByteArray) (v:Int) (w:World) (h:fR MT Hd lo mb gb w D vr vo st) (Lm:st.ps.length<=1000) (hk:k<st.ps.length) (h8:s.size=8) (hbad:(iC s).bad=false) :
  Calls prog 151 #[.pointer (some (Ad gb 0)),I (k:Int),.string s,I v] w λe w'=>e=.returned (.tuple #[])/\cV MT Hd lo mb gb w D vr vo { st with ps:=st.ps.set k (eN (aO st.ps k) (iC s) v) } w':=by
 have HG:=ai h;have HC:=ai C;obtain⟨pb,cap,S0,y,G,B⟩:=h.proc k hk;have Xz:=ai G;have F:=ai B;have A:=ai (λV=>ad7 (aO st.ps k) s v V h8 hbad);generalize aO st.ps k=q at Xz A ⊢;generalize eN q (iC s) v=N at A ⊢;obtain⟨n,hn⟩:=ex st.ps.length;rw[<- hn] at S0 hk Lm;have HN:=ai hn;subst S0;have C2:(k:Int)<(n:Int):=by omega
 have K:Hid (∀V,Calls prog 197 #[.agg #[I (q.r 0),I (q.r 1),I (q.r 2),I (q.r 3),I (q.r 4),I (q.r 5),I (q.r 6),I (q.r 7),I q.pc,I q.st,I q.cd,I q.fk,I q.fa],.string s,I v] V λe w'=>e=.returned (.tuple #[.agg #[I (N.r 0),I (N.r 1),I (N.r 2),I (N.r 3),I (N.r 4),I (N.r 5),I (N.r 6),I (N.r 7),I N.pc,I N.st,I N.cd,I N.fk,I N.fa],I 0])/\Below V.heap.size V w'):=A;have g1:w.cell? (Ad gb 1)=some (.slice (some (Ad pb 0)) n cap):=aA HG.o.head 1 rfl;have M:=aQ HG.o.head;obtain⟨c0,c1,c2,c3,c4,c5,c6,c7,c8,c9,O,L,Q⟩:=Pp Xz.o;have tV:=ai (aN w.heap.size w).drew;clear hn G B h C A Xz h8 hbad;go_enter func151,ntmps151;go_wp2_with fail
 go_region_law (go_simp;go_at_call 197;refine(K.o _).mono ?_;rintro e w1 ⟨rfl,J⟩;have b:=tV.o.trans J;have cD:=ai b;have d0:w1.cell? (Ad pb (k*13))=some (I (q.r 0)):=(b.cell (p:=(Ad pb (k*13))) y).trans c0;have d1:w1.cell? (Ad pb (k*13+1))=some (I (q.r 1)):=(b.cell (p:=(Ad pb (k*13+1))) y).trans c1;have d2:w1.cell? (Ad pb (k*13+2))=some (I (q.r 2)):=(b.cell (p:=(Ad pb (k*13+2))) y).trans c2;have d3:w1.cell? (Ad pb (k*13+3))=some (I (q.r 3)):=(b.cell (p:=(Ad pb (k*13+3))) y).trans c3;have d4:w1.cell? (Ad pb (k*13+4))=some (I (q.r 4)):=(b.cell (p:=(Ad pb (k*13+4))) y).trans c4;have d5:w1.cell? (Ad pb (k*13+5))=some (I (q.r 5)):=(b.cell (p:=(Ad pb (k*13+5))) y).trans c5;have d6:w1.cell? (Ad pb (k*13+6))=some (I (q.r 6)):=(b.cell (p:=(Ad pb (k*13+6))) y).trans c6;have d7:w1.cell? (Ad pb (k*13+7))=some (I (q.r 7)):=(b.cell (p:=(Ad pb (k*13+7))) y).trans c7;have d8:w1.cell? (Ad pb (k*13+8))=some (I q.pc):=(b.cell (p:=(Ad pb (k*13+8))) y).trans c8;have d9:w1.cell? (Ad pb (k*13+9))=some (I q.st):=(b.cell (p:=(Ad pb (k*13+9))) y).trans c9;have U:w1.cell? (Ad pb (k*13+10))=some (I q.cd):=(b.cell (p:=(Ad pb (k*13+10))) y).trans O;have R:w1.cell? (Ad pb (k*13+11))=some (I q.fk):=(b.cell (p:=(Ad pb (k*13+11))) y).trans L;have T:w1.cell? (Ad pb (k*13+12))=some (I q.fa):=(b.cell (p:=(Ad pb (k*13+12))) y).trans Q;have f1:∀j,w1.frozen? (Ad pb j)=false:=(λj=>(b.frozen (p:=(Ad pb j)) y).trans (F.o j));have x1:w1.cell? (Ad gb 1)=some (.slice (some (Ad pb 0)) n cap):=(b.cell (p:=(Ad gb 1)) M).trans g1;clear b J;go_simp)
 all_goals
  clear K F;go_wp2
  go_end0
  exact⟨rfl,cV.after cD.o ((HG.o.below HC.o cD.o).an8 HC.o k (by rw[<- HN.o];exact hk) HN.o N)⟩
def nU (i:eu) (n:Nat) (ps:List bT):Nat->List bT
 | 0=>ps
 | j+1=>(nU i n ps j).set (n+j) (eN (aO (nU i n ps j) (n+j)) i 0)
theorem rQ (i:eu) (n:Nat) (ps:List bT):∀j,(nU i n ps j).length=ps.length
 | 0=>rfl
 | j+1=>by show((nU i n ps j).set _ _).length=_;rw[dE];exact rQ i n ps j
theorem J4 (i:eu) (n:Nat) (ps:List bT):∀j m,n+j<=ps.length->(nU i n ps j)[m]?=if n<=m/\m<n+j then ps[m]?.map (λp=>eN p i 0) else ps[m]?
 | 0,m,_=>by rw[aB ω];rfl
 | j+1,m,h=>by
  show((nU i n ps j).set (n+j) (eN (aO (nU i n ps j) (n+j)) i 0))[m]?=_;have ih:=J4 i n ps j;have hl:=rQ i n ps j;rw[xt];by_cases e:n+j=m
  . subst e;have hlt:n+j<ps.length:=by omega
    rw[aC rfl,aC ω,aC ω,fF hlt];have hq:aO (nU i n ps j) (n+j)=ps[n+j]:=by
     unfold aO;rw[cB,ih (n+j) ω,aB ω,fF hlt];rfl
    rw[hq];rfl
  rw[aB e,ih m ω];by_cases c:n<=m/\m<n+j
  . rw[aC c,aC ω]
  rw[aB c,aB ω]
theorem WS (i:eu) (n:Nat) (ps:List bT) (h:n<=ps.length):nU i n ps (ps.length-n)=qV i n ps:=by
 apply Af;intro m;rw[J4 i n ps _ m ω];unfold qV;by_cases c:m<n
 . rw[aB ω,Eb (by rw[o7];omega),List.getElem?_take_of_lt c]
 rw[yx (by rw[o7];omega),o7,Kw h,vQ,T8,show n+(m-n)=m by omega];by_cases c2:m<ps.length
 . rw[aC ω]
 rw[aB ω,Gr ω];rfl
variable {MT:y7} {σ:Type} {Hd:World->(Nat->Prop)->σ->Prop} {Ok:σ->List Bool->Prop} {o:lK σ} {lo mb gb:Nat} {D:Nat->Prop} {vr vo:Value} {st:dB σ}
theorem ae6 (p:bT) (i:eu):∃k0 k1 k2 k3 k4,ru p i=#[I k0,I k1,I k2,I k3,I k4]:=by
 unfold ru
 repeat' split
 all_goals exact⟨_,_,_,_,_,rfl⟩
theorem akQ (C:ja MT lo mb Hd Ok o) (k:Nat) (w:World) (h:fR MT Hd lo mb gb w D vr vo st) (hok:ez Ok st) (hk:k<st.ps.length) (h1:(aO st.ps k).st=1) :
  Calls prog 96 #[.pointer (some ⟨gb,0,none⟩),I (k:Int)] w λe w'=>e=.returned (.agg (eI (oh o st k).1))/\cV MT Hd lo mb gb w D vr vo (oh o st k).2 w':=by
 have HG:=ai h;have HC:=ai C;have Qk:=ai hok;have W:=lY k hk h1;have cF:=ai W;have Nc:=ai hk;have b3:=ai h1;have Lm:st.ps.length<=4:=by have:=C.ok.few _ _ hok.mem;unfold bY at this;rw[fI] at this;exact this
 have cz:=ai (hok.fit k hk);have cy:=aQ h.head;obtain⟨pb,cap,S0,cK,b1,cc⟩:=h.proc k hk;have Xz:=ai b1;have M:Hid (∀V,Below w.heap.size w V->Calls prog MT.Rm #[.pointer (some ⟨mb,0,none⟩),I (k:Int),I (aO st.ps k).pc,I 8,I 2] V (kj Hd V D (.tuple #[.string (o.load st.mem k (aO st.ps k).pc 8 2).1.1,.agg (eI (o.load st.mem k (aO st.ps k).pc 8 2).1.2)]) (o.load st.mem k (aO st.ps k).pc 8 2).2)):=λV hV=>C.load V D st.mem _ k _ 8 2 (h.below C hV).mem hok.mem W (hok.fit k hk).2 ω ω (.inr rfl)
 have a6:=ai (C.ok.size st.mem _ k (aO st.ps k).pc 8 2 hok.mem W ω ω);have Z:=ai (C.ok.load st.mem _ k (aO st.ps k).pc 8 2 hok.mem W);have A:Hid (oh o st k=(if ¬(o.load st.mem k (aO st.ps k).pc 8 2).1.2.1=0 then ((o.load st.mem k (aO st.ps k).pc 8 2).1.2,{ st with mem:=(o.load st.mem k (aO st.ps k).pc 8 2).2 }) else if ¬(gS o { st with mem:=(o.load st.mem k (aO st.ps k).pc 8 2).2 } k (iC (o.load st.mem k (aO st.ps k).pc 8 2).1.1)).1.2.1=0 then ((gS o { st with mem:=(o.load st.mem k (aO st.ps k).pc 8 2).2 } k (iC (o.load st.mem k (aO st.ps k).pc 8 2).1.1)).1.2,(gS o { st with mem:=(o.load st.mem k (aO st.ps k).pc 8 2).2 } k (iC (o.load st.mem k (aO st.ps k).pc 8 2).1.1)).2) else ((0,0),{ (gS o { st with mem:=(o.load st.mem k (aO st.ps k).pc 8 2).2 } k (iC (o.load st.mem k (aO st.ps k).pc 8 2).1.1)).2 with ps:=qV (iC (o.load st.mem k (aO st.ps k).pc 8 2).1.1) st.ps.length ((gS o { st with mem:=(o.load st.mem k (aO st.ps k).pc 8 2).2 } k (iC (o.load st.mem k (aO st.ps k).pc 8 2).1.1)).2.ps.set k (eN (aO (gS o { st with mem:=(o.load st.mem k (aO st.ps k).pc 8 2).2 } k (iC (o.load st.mem k (aO st.ps k).pc 8 2).1.1)).2.ps k) (iC (o.load st.mem k (aO st.ps k).pc 8 2).1.1) (gS o { st with mem:=(o.load st.mem k (aO st.ps k).pc 8 2).2 } k (iC (o.load st.mem k (aO st.ps k).pc 8 2).1.1)).1.1)) }))):=rfl;obtain⟨q,hq⟩:=ex (aO st.ps k);rw[<- hq] at Xz M a6 Z A;have HQ:=ai hq;generalize o.load st.mem k q.pc 8 2=X at M a6 Z A;obtain⟨⟨d,X1,X2⟩,X3⟩:=X;unfold eI at M;simp only at M a6 Z A;obtain⟨Y,hY⟩:=ex (gS o { st with mem:=X3 } k (iC d));have HY:=ai hY;rw[<- hY] at A;generalize oh o st k=RR at A ⊢;obtain⟨n,hn⟩:=ex st.ps.length;rw[<- hn] at S0 hk Lm A;subst S0;have HN:=ai hn;have C2:(k:Int)<(n:Int):=by omega
 have g0:w.cell? ⟨gb,0,none⟩=some (.iface MT.T (.pointer (some ⟨mb,0,none⟩))):=aA h.head 0 rfl;have g1:w.cell? ⟨gb,1,none⟩=some (.slice (some ⟨pb,0,none⟩) n cap):=aA h.head 1 rfl;obtain⟨c0,c1,c2,c3,c4,c5,c6,c7,c8,c9,cj,cp,ct⟩:=Pp Xz.o;have jc:=ai (((aN w.heap.size w).alloc (aK _) (.cells #[I 0,I 0] 75)).alloc ξ (.cells #[I (q.r 0),I (q.r 1),I (q.r 2),I (q.r 3),I (q.r 4),I (q.r 5),I (q.r 6),I (q.r 7),I q.pc,I q.st,I q.cd,I q.fk,I q.fa] 77));have BF:=ai (bu (bH w #[I 0,I 0] 75) (.cells #[I (q.r 0),I (q.r 1),I (q.r 2),I (q.r 3),I (q.r 4),I (q.r 5),I (q.r 6),I (q.r 7),I q.pc,I q.st,I q.cd,I q.fk,I q.fa] 77));have BX:Hid (((w.alloc (.cells #[I 0,I 0] 75)).alloc (.cells #[I (q.r 0),I (q.r 1),I (q.r 2),I (q.r 3),I (q.r 4),I (q.r 5),I (q.r 6),I (q.r 7),I q.pc,I q.st,I q.cd,I q.fk,I q.fa] 77)).heap[w.heap.size+1]?=some (.cells #[I (q.r 0),I (q.r 1),I (q.r 2),I (q.r 3),I (q.r 4),I (q.r 5),I (q.r 6),I (q.r 7),I q.pc,I q.st,I q.cd,I q.fk,I q.fa] 77 (0,0))):=by
  have:=bH (w.alloc (.cells #[I 0,I 0] 75)) #[I (q.r 0),I (q.r 1),I (q.r 2),I (q.r 3),I (q.r 4),I (q.r 5),I (q.r 6),I (q.r 7),I q.pc,I q.st,I q.cd,I q.fk,I q.fa] 77;rw[fY] at this;exact this
 have ci:¬pb=w.heap.size:=by omega
 have cn:¬gb=w.heap.size:=by omega
 have hm:=MT.aiY ⟨mb,0,none⟩;have cw:=MT.ajo ⟨mb,0,none⟩;have cv:=MT.ajm;clear h C hY hn hq b1 cc hok W h1 Xz;go_enter func96,ntmps96;go_wp2_with fail;generalize (w.alloc (.cells #[I 0,I 0] 75)).alloc (.cells #[I (q.r 0),I (q.r 1),I (q.r 2),I (q.r 3),I (q.r 4),I (q.r 5),I (q.r 6),I (q.r 7),I q.pc,I q.st,I q.cd,I q.fk,I q.fa] 77)=WA at jc BF BX ⊢;obtain⟨xb,UF⟩:=ex (w.heap.size+1);rw[<- UF] at BX ⊢;obtain⟨fb,am⟩:=ex w.heap.size;rw[<- am] at BF UF ⊢;have QP:=ai UF;have U:=ai am;have Ns:=ai (HG.o.below HC.o jc.o);have zB:Hid (¬D xb):=λg=>by have:=HC.o.dom _ _ _ HG.o.mem _ g;have:=QP.o;have:=U.o;omega
 have bS:Hid (¬D fb):=λg=>by have:=HC.o.dom _ _ _ HG.o.mem _ g;have:=U.o;omega
 have aR:Hid (¬D WA.heap.size):=λg=>by have:=HC.o.dom _ _ _ HG.o.mem _ g;have:=jc.o.size;omega
 have HS:Hid (∀V,aH D WA V->V.cell? ⟨gb,0,none⟩=some (.iface MT.T (.pointer (some ⟨mb,0,none⟩)))/\V.cell? ⟨xb,8,none⟩=some (I q.pc)):=λV hb=>by
  have h1:=hb.keep BX.o zB.o;have h2:=hb.keep Ns.o.head Ns.o.n1;exact⟨aA h2 0 rfl,aA h1 8 rfl⟩
 have pK:=ai (HS.o _ (aH.drew _ _));have aG:=ai (HS.o (WA.alloc (.cells #[I 0,I 0] 75)).drew ((aH.alloc _ _ _).trans (aH.drew _ _) (λ_ _ g=>g)));have fU:=ai jc.o.drew;have cD:=ai (jc.o.alloc jc.o.size (.cells #[I 0,I 0] 75)).drew;have ab:=aQ BX.o;clear UF am g0 g1 c0 c1 c2 c3 c4 c5 c6 c7 c8 c9 cj cp ct ci cn;go_cut [6,7] (λx6 x7 wx=>∃zb,x6=.string d/\x7=.pointer (some ⟨zb,0,none⟩)/\xb<zb/\wx.heap[zb]?=some (.cells #[I X1,I X2] 75 (0,0))/\wx.heap[fb]?=some (.cells #[I 0,I 0] 75 (0,0))/\wx.heap[xb]?=some (.cells #[I (q.r 0),I (q.r 1),I (q.r 2),I (q.r 3),I (q.r 4),I (q.r 5),I (q.r 6),I (q.r 7),I q.pc,I q.st,I q.cd,I q.fk,I q.fa] 77 (0,0))/\iq MT (λb=>b=fb\/b=xb\/b=zb) Hd lo mb gb w D (.slice (some ⟨pb,0,none⟩) n cap) vo { st with mem:=X3 } wx)
 case first =>
  have QQ:Hid (∀(V:World) (g:Nat),xb<g->(V.cell? ⟨gb,0,none⟩=some (.iface MT.T (.pointer (some ⟨mb,0,none⟩)))/\V.cell? ⟨xb,8,none⟩=some (I q.pc))->∀v0 v1,((V.setCell ⟨g,0,none⟩ v0).setCell ⟨g,1,none⟩ v1).cell? ⟨gb,0,none⟩=some (.iface MT.T (.pointer (some ⟨mb,0,none⟩)))/\((V.setCell ⟨g,0,none⟩ v0).setCell ⟨g,1,none⟩ v1).cell? ⟨xb,8,none⟩=some (I q.pc)):=λV g hg ⟨h0,h1⟩ v0 v1=>by
   have az:xb≠g:=by omega
   have S6:gb≠g:=by have:=QP.o;have:=U.o;omega
   rw[dH _ _ _ _ _ _ az,dH _ _ _ _ _ _ az,dH _ _ _ _ _ _ S6,dH _ _ _ _ _ _ S6];exact⟨h0,h1⟩
  go_region_held3 (λV=>V.cell? ⟨gb,0,none⟩=some (.iface MT.T (.pointer (some ⟨mb,0,none⟩)))/\V.cell? ⟨xb,8,none⟩=some (I q.pc)) (first | exact pK.o | exact aG.o | exact Mf.o | exact Gh.o _ | exact IK.o _ _ | exact cr.o _ _ _)
   (first | ((with_reducible refine(M.o _ (by first | exact fU.o | exact cD.o)).mono ?_);rintro e w2 ⟨D2,rfl,bb,a5,b6⟩;have L:Hid (aH D WA w2):=(by first | exact(aH.drew D WA).trans a5 (λ_ _ g=>g) | exact((aH.alloc D WA (.cells #[I 0,I 0] 75)).trans (aH.drew D _) (λ_ _ g=>g)).trans a5 (λ_ _ g=>g));have Mf:=ai (HS.o _ L.o);have Gh:=ai (λob=>HS.o _ (L.o.trans (aH.alloc D w2 ob) (λ_ _ g=>g)));have IK:=ai (QQ.o w2 WA.heap.size ab Mf.o);have cr:=ai (λob=>QQ.o (w2.alloc ob) w2.heap.size (dV ab L.o.size) (Gh.o ob));have DW:=ai (iq.behind HC.o HG.o (by first | exact fU.o | exact cD.o) (cV.Qo HC.o (HG.o.below HC.o (by first | exact fU.o | exact cD.o)) bb a5 b6));have bx:=ai (L.o.keep BF.o bS.o);have Qb:=ai (L.o.keep BX.o zB.o);(try (have DY:=ai (a5.keep (w:=(WA.alloc (.cells #[I 0,I 0] 75)).drew) (bH WA #[I 0,I 0] 75) aR.o);have z0:=aA (v:=I 0) DY.o 0 rfl;have z1:=aA (v:=I 0) DY.o 1 rfl;have z2:=bG DY.o 0;have z3:=bG DY.o 1));clear bb a5 b6))
  all_goals
   go_wp2_with fail
   go_meet
   case rel =>
    have e1:=QP.o;have e2:=U.o;have e3:=L.o.size
    first
    | exact⟨_,rfl,rfl,ω,bH w2 _ _,bu bx.o _,bu Qb.o _,(DW.o.alloc HC.o _).sub (λb e=>by rcases e with rfl | rfl | rfl;exact .inl ⟨ω,by show _<WA.heap.size;omega⟩;exact .inl ⟨ω,by show _<WA.heap.size;omega⟩;exact .inr rfl)⟩
    | exact⟨_,rfl,rfl,ab,gH (gH DY.o 0 _) 1 _,nt (nt bx.o WA.heap.size 0 _ ω) WA.heap.size 1 _ ω,nt (nt Qb.o WA.heap.size 0 _ ω) WA.heap.size 1 _ ω,((DW.o.set HC.o ⟨WA.heap.size,0,none⟩ _ ⟨jc.o.size,by show WA.heap.size<(WA.alloc _).heap.size;rw[fY];omega⟩ jc.o.size).set HC.o ⟨WA.heap.size,1,none⟩ _ ⟨jc.o.size,by show WA.heap.size<(WA.alloc _).heap.size;rw[fY];omega⟩ jc.o.size).sub (λb e=>by rcases e with rfl | rfl | rfl <;> exact⟨ω,by show _<(WA.alloc _).heap.size;rw[fY];omega⟩)⟩
 case rest =>
  obtain⟨zb,rfl,rfl,cB,hz,hf,hx,hl⟩:=hcut;have HZ:=ai hz;have HF:=ai hf;have HX:=ai hx;have HL:=ai hl;have z0:=aA (v:=I X1) hz 0 rfl;have z1:=aA (v:=I X2) hz 1 rfl;have f0:=aA (v:=I 0) hf 0 rfl;have f1:=aA (v:=I 0) hf 1 rfl;have e0:=bG hf 0;have e1:=bG hf 1;have N:w.heap.size<=fb:=by have:=U.o;omega
  clear HS pK aG fU cD M hz hf hx hl Ns aR jc BF BX ab;by_cases hX1:X1=0
  . subst hX1;have h8:d.size=8:=by have:=a6.o rfl;omega
    have b2:Hid (ez Ok { st with mem:=X3 }):=EF Qk.o Z.o;have ag:=ai (λV=>ahf q d V h8);have QW:=ai (J5 HC.o.ok b2.o k Nc.o b3.o (iC d) (Ec d h8));rw[<- HY.o] at QW;obtain⟨D1,r1,o1,av,aS,bt,UJ⟩:=HL.o;have a2:=ai av;have ah:=ai aS;have aw:=ai bt;have J:=ai UJ;have O:Hid (∀V,Below wc.heap.size wc V->Calls prog 150 #[.pointer (some ⟨gb,0,none⟩),I (k:Int),.agg (ru q (iC d))] V λe w'=>e=.returned (.tuple #[I Y.1.1,.agg (eI Y.1.2)])/\cV MT Hd lo mb gb V D1 r1 o1 Y.2 w'):=λV hV=>by
     have:=YP HC.o k (iC d) V (av.below HC.o hV) b2.o Nc.o b3.o;rw[<- HY.o] at this;have cq:aO (dB.ps { st with mem:=X3 }) k=q:=HQ.o.symm;rw[cq] at this;exact this
    obtain⟨k0,k1,k2,k3,k4,b5⟩:=ae6 q (iC d);rw[b5] at ag O;obtain⟨⟨v,F1,F2⟩,s2⟩:=Y;unfold eI at O;simp only at O QW A;have Q:Hid (RR=if ¬F1=0 then ((F1,F2),s2) else ((0,0),{ s2 with ps:=qV (iC d) n (s2.ps.set k (eN (aO s2.ps k) (iC d) v)) })):=by rw[A.o,aB (λg=>g trivial)];exact rfl
    clear av aS bt UJ b5 A a6 Z;have g1:=aA (v:=r1) a2.o.head 1 rfl;obtain⟨a1,bs,au,_,_⟩:=aZ a2.o.procs;simp only at au;rw[<- HN.o] at au;subst au;have cs:Hid (wc.heap[xb]?=some (.cells #[I (q.r 0),I (q.r 1),I (q.r 2),I (q.r 3),I (q.r 4),I (q.r 5),I (q.r 6),I (q.r 7),I q.pc,I q.st,I q.cd,I q.fk,I q.fa] 77 (0,0))):=HX;obtain⟨p0,p1,p2,p3,p4,p5,p6,p7,p8,p9,bF,cb,ce⟩:=abc HX.o;have qO:Hid (∀V,Calls prog 149 #[.agg #[I (q.r 0),I (q.r 1),I (q.r 2),I (q.r 3),I (q.r 4),I (q.r 5),I (q.r 6),I (q.r 7),I q.pc,I q.st,I q.cd,I q.fk,I q.fa],.string d] V λe w'=>e=.returned (.tuple #[.agg #[I k0,I k1,I k2,I k3,I k4],I 0])/\Below V.heap.size V w'):=ag;have cL:=aQ HZ.o;have aE:fb≠zb:=by have:=QP.o;omega
    by_cases hF1:F1=0
    . subst hF1;have a8:Hid (RR=((0,0),{ s2 with ps:=qV (iC d) n (s2.ps.set k (eN (aO s2.ps k) (iC d) v)) })):=by rw[Q.o,aB (λg=>g rfl)];exact rfl
      clear Q;go_wp2_with (first
       | (go_at_call 149;refine(qO.o _).mono ?_;rintro e w3 ⟨rfl,G⟩;have ou:=ai G;have Cc:=ai (G.alloc G.size (.cells #[I k0,I k1,I k2,I k3,I k4] 110));have BA:=ai (bH w3 #[I k0,I k1,I k2,I k3,I k4] 110);have g2:(w3.alloc (.cells #[I k0,I k1,I k2,I k3,I k4] 110)).cell? ⟨gb,1,none⟩=some (.slice a1 n bs):=(Cc.o.cell (p:=⟨gb,1,none⟩) (aQ a2.o.head)).trans g1;clear G)
       | (go_at_call 150;refine(O.o _ Cc.o).mono ?_;rintro e w5 ⟨rfl,F⟩;have a9:=ai F;have B:=ai (F.keep (bu (aU HZ.o ou.o (aQ HZ.o)) _) (J.o zb (.inr (.inr rfl))));have y:=ai (F.keep (bu (aU HF.o ou.o (aQ HF.o)) _) (J.o fb (.inl rfl)));have y0:=aA (v:=I 0) B.o 0 rfl;have y1:=aA (v:=I X2) B.o 1 rfl;have y2:=bG B.o 0;have y3:=bG B.o 1;have t0:=aA (v:=I 0) y.o 0 rfl;have t1:=aA (v:=I 0) y.o 1 rfl;have t2:=bG y.o 0;have t3:=bG y.o 1;clear F))
      obtain⟨K,cm,a3⟩:=QW.o.plain rfl;have ad:n<=s2.ps.length/\s2.ps.length<=n+1:=by
       have hn:=HN.o;rcases K with⟨e,_⟩ | ⟨_,e,_⟩
       . rw[show s2.ps=st.ps from e];omega
       rw[show s2.ps=st.ps++[aO st.ps k] from e,ft,D9];omega
      have a0:w.heap.size<=zb:=by have:=QP.o;omega
      have ac:=iq.step (ys:=(λb=>b=fb\/b=xb\/b=zb)) (λb hb=>by have s4:=Cc.o.size;have l1:=aQ HF.o;have l2:=aQ HX.o;have l3:=aQ HZ.o;rcases hb with e | e | e <;> rw[e] <;> omega) (ah.o.trans (aH.bQ Cc.o) (λ_ _ g=>g)) aw.o J.o a9.o;have aP:=(ac.set HC.o ⟨zb,0,none⟩ (I 0) (.inr (.inr rfl)) a0).set HC.o ⟨zb,1,none⟩ (I F2) (.inr (.inr rfl)) a0;have aa:=nt (nt y.o zb 0 (I 0) aE) zb 1 (I F2) aE;generalize (w5.setCell ⟨zb,0,none⟩ (I 0)).setCell ⟨zb,1,none⟩ (I F2)=W6 at aP aa ⊢;obtain⟨D6,r6,o6,bp,aL,bm,af⟩:=aP;have cl:=aQ aa;refine(Sq HC.o k d v W6 bp ω ω h8 a3).mono ?_;rintro e w7 ⟨rfl,ae⟩;have bA:=ae.keep aa (af fb (.inl rfl));have ba:=iq.step (ys:=λb=>b=fb) (λb e=>by rw[e];exact cl) aL bm (λb e=>af b (.inl e)) ae;have bd:=ai ba;have cf:=ai bA;have ck:=ai a3;have cG:=ai ad;obtain⟨PS,an⟩:=ex (s2.ps.set k (eN (aO s2.ps k) (iC d) v));rw[<- an] at bd a8;have ap:PS.length=s2.ps.length:=by rw[an,dE]
      generalize s2.ps.length=m at ap ad;have a4:=ai ap;clear ae ba bA aa af bm aL bp ac a3 an K cm a9 B y y0 y1 y2 y3 t0 t1 t2 t3 g2 BA ou Cc qO O ag cs p0 p1 p2 p3 p4 p5 p6 p7 p8 p9 bF cb ce g1 a2 ah aw J z0 z1 f0 f1 e0 e1 ap;go_wp2;go_loopw [12] (λx12 wr=>∃j:Nat,n+j<=m/\x12=I ((n+j:Nat):Int)/\iq MT (λb=>b=fb) Hd lo mb gb w D (.slice (some ⟨pb,0,none⟩) n cap) vo { s2 with ps:=nU (iC d) n PS j } wr/\wr.heap[fb]?=some (.cells #[I 0,I 0] 75 (0,0))) (λx12 _=>m-(intOf x12).toNat)
      case atStart=>exact⟨0,ω,rfl,bd.o,cf.o⟩
      case round =>
       obtain⟨j,hj,rfl,hl,hf⟩:=hrel;have R:=ai hf;obtain⟨Dr,rr,b8,ao,bv,bz,aF⟩:=hl;have al:=ai ao;have b0:=ai bv;have b4:=ai bz;have aj:=ai aF;obtain⟨a7,c7,bi,_,_⟩:=aZ ao.procs;have cg:rr=.slice a7 m c7:=by
        rw[bi];show Value.slice a7 (nU (iC d) n PS j).length c7=_;rw[rQ,a4.o]
       subst cg;have x1:=aA (v:=.slice a7 m c7) al.o.head 1 rfl;clear hf ao bv bz aF bi;by_cases hlt:n+j<m
       . have co:Hid (Calls prog 151 #[.pointer (some ⟨gb,0,none⟩),I ((n+j:Nat):Int),.string d,I 0] wr λe w'=>e=.returned (.tuple #[])/\cV MT Hd lo mb gb wr Dr (.slice a7 m c7) b8 { s2 with ps:=nU (iC d) n PS (j+1) } w'):=Sq HC.o (n+j) d 0 wr al.o (by show(nU (iC d) n PS j).length<=1000;rw[rQ,a4.o];omega) (by show n+j<(nU (iC d) n PS j).length;rw[rQ,a4.o];omega) h8 ck.o;have bL:((n+j:Nat):Int)<(m:Int):=by omega
         go_wp2_with (go_at_call 151;refine co.o.mono ?_;rintro e w8 ⟨rfl,ay⟩;have bP:=ai (iq.step (ys:=λb=>b=fb) (λb e=>(by rw[e];exact aQ R.o)) b0.o b4.o aj.o ay);have ca:=ai (ay.keep R.o (aj.o fb rfl));clear ay)
         go_roundw
         case rel=>exact⟨j+1,ω,by go_num,bP.o,ca.o⟩
         case measure=>simp[intOf];omega
       have bn:j=PS.length-n:=by have:=a4.o;omega
       have Y5:Hid (iq MT (λb=>b=fb) Hd lo mb gb w D (.slice (some ⟨pb,0,none⟩) n cap) vo { s2 with ps:=qV (iC d) n PS } wr):=by
        show iq _ _ _ _ _ _ _ _ _ _ _ _;rw[<- WS (iC d) n PS (by have:=a4.o;omega),<- bn];exact⟨Dr,_,b8,al.o,b0.o,b4.o,aj.o⟩
       have t0:=aA (v:=I 0) R.o 0 rfl;have t1:=aA (v:=I 0) R.o 1 rfl;have t2:=bG R.o 0;have t3:=bG R.o 1;have bL:¬((n+j:Nat):Int)<(m:Int):=by omega
       clear bn;go_wp2;refine b9 (v:=.agg #[I 0,I 0]) (by simp[results,results96,go_sem,t0,t1]) rfl ?_;rw[a8.o];exact⟨rfl,((Y5.o.set HC.o ⟨fb,0,none⟩ _ rfl N).set HC.o ⟨fb,1,none⟩ _ rfl N).left⟩
    have cP:(F1==0)=false:=by rw[gT];exact hF1
    have a8:Hid (RR=((F1,F2),s2)):=by rw[Q.o,aC hF1];exact rfl
    clear Q hF1;go_wp2_with (first
     | (go_at_call 149;refine(qO.o _).mono ?_;rintro e w3 ⟨rfl,G⟩;have ou:=ai G;have Cc:=ai (G.alloc G.size (.cells #[I k0,I k1,I k2,I k3,I k4] 110));have BA:=ai (bH w3 #[I k0,I k1,I k2,I k3,I k4] 110);have g2:(w3.alloc (.cells #[I k0,I k1,I k2,I k3,I k4] 110)).cell? ⟨gb,1,none⟩=some (.slice a1 n bs):=(Cc.o.cell (p:=⟨gb,1,none⟩) (aQ a2.o.head)).trans g1;clear G)
     | (go_at_call 150;refine(O.o _ Cc.o).mono ?_;rintro e w5 ⟨rfl,F⟩;have a9:=ai F;have B:=ai (F.keep (bu (aU HZ.o ou.o (aQ HZ.o)) _) (J.o zb (.inr (.inr rfl))));have y:=ai (F.keep (bu (aU HF.o ou.o (aQ HF.o)) _) (J.o fb (.inl rfl)));have y0:=aA (v:=I 0) B.o 0 rfl;have y1:=aA (v:=I X2) B.o 1 rfl;have y2:=bG B.o 0;have y3:=bG B.o 1;have t0:=aA (v:=I 0) y.o 0 rfl;have t1:=aA (v:=I 0) y.o 1 rfl;have t2:=bG y.o 0;have t3:=bG y.o 1;clear F))
    refine b9 (v:=.agg #[I F1,I F2]) (by simp[results,results96,go_sem,t0,t1]) rfl ?_;rw[a8.o];have ac:=iq.step (ys:=(λb=>b=fb\/b=xb\/b=zb)) (λb hb=>by have s4:=Cc.o.size;have l1:=aQ HF.o;have l2:=aQ HX.o;have l3:=aQ HZ.o;rcases hb with e | e | e <;> rw[e] <;> omega) (ah.o.trans (aH.bQ Cc.o) (λ_ _ g=>g)) aw.o J.o a9.o;have a0:w.heap.size<=zb:=by have:=QP.o;omega
    exact⟨rfl,((((ac.set HC.o ⟨zb,0,none⟩ _ (.inr (.inr rfl)) a0).set HC.o ⟨zb,1,none⟩ _ (.inr (.inr rfl)) a0).set HC.o ⟨fb,0,none⟩ _ (.inl rfl) N).set HC.o ⟨fb,1,none⟩ _ (.inl rfl) N).left⟩
  have cI:(X1==0)=false:=by rw[gT];exact hX1
  have Q:Hid (RR=((X1,X2),{ st with mem:=X3 })):=by rw[A.o,aC hX1];exact rfl
  clear A hX1;go_wp2;refine b9 (v:=.agg #[I X1,I X2]) (by simp[results,results96,go_sem,f0,f1]) rfl ?_;rw[Q.o];exact⟨rfl,((HL.o.set HC.o ⟨fb,0,none⟩ _ (.inl rfl) N).set HC.o ⟨fb,1,none⟩ _ (.inl rfl) N).left⟩
end Go.Proofs.YtlgoihmkgaaemaaGreat
