import Derived.Test.YtkdigjpejnebkaaGreatGQ00
import Derived.Test.YtkdigjpejnebkaaGreatGQ21
import Derived.Test.YtkdigjpejnebkaaGreatGQ11
import Derived.Test.YtkdigjpejnebkaaGreatGQ19
import Derived.Test.YtkdigjpejnebkaaGreatGQ08
set_option maxHeartbeats 20000000
set_option linter.unusedVariables false
set_option maxRecDepth 100000
set_option linter.unusedSimpArgs false
namespace Go.Proofs.YtkdigjpejnebkaaGreat
namespace GW
open Go.RowKit GK GG
open FW (ai aB)
variable {σ:Type} {Hd:World->(Nat->Prop)->σ->Prop} {Ok:σ->List Bool->Prop} {o:vK σ} {lo mb gb:Nat} {D:Nat->Prop} {vr vo:Value} {st:St σ}
theorem RH (C:gQ lo mb Hd Ok o) (k:Nat) (a v:Int) (m:Nat) (w:World) (h:jk Hd lo mb gb w D vr vo st) (hok:l8 Ok st) (hk:k<st.ps.length) (h1:(FM.au st.ps k).st=1) (R:(Int×(Int×Int))×St σ) (ha:M.dD a) (EF:1<=m) (Lf:m<=8) (hR:R=((0,(o.store st.mem k a (kR v m)).1),{ st with mem:=(o.store st.mem k a (kR v m)).2 })) :
  Calls Tryz.prog 109 #[.pointer (some (Ad gb 0)),I (k:Int),.agg #[I 2,I a,I (m:Int),I v,I 0]] w fun e w'=>e=.returned (.tuple #[I R.1.1,.agg (FW.di R.1.2)])/\Left Hd lo mb gb w D vr vo R.2 w':=by
 have HG:=ai h
 have HC:=ai C
 have u9:=ai hok
 have qA:=ai (ek k hk h1)
 have qp:=ai hk
 have K5:=ai h1
 have HR:=ai hR
 have vF:st.ps.length<=4:=by have:=C.ok.few _ _ hok.mem;unfold running at this;rw[List.length_map] at this;exact this
 have oI:=ai (hok.fit k hk)
 have hgb:=B.isLt h.head
 have g0:w.cell? (Ad gb 0)=some (.iface 144 (.pointer (some (Ad mb 0)))):=B.cell h.head 0 rfl
 have g1:w.cell? (Ad gb 1)=some vr:=B.cell h.head 1 rfl
 have cL:=ai (((Below.refl w.heap.size w).alloc (Nat.le_refl _) (.cells #[I 2,I a,I (m:Int),I v,I 0] 101)).alloc (by simp) (.cells #[I 0,I 0] 68))
 have BX:=ai (B.alloc (B.new w #[I 2,I a,I (m:Int),I v,I 0] 101) (.cells #[I 0,I 0] 68))
 have BY:Hid (((w.alloc (.cells #[I 2,I a,I (m:Int),I v,I 0] 101)).alloc (.cells #[I 0,I 0] 68)).heap[w.heap.size+1]?=some (.cells #[I 0,I 0] 68 (0,0))):=by
  have:=B.new (w.alloc (.cells #[I 2,I a,I (m:Int),I v,I 0] 101)) #[I 0,I 0] 68
  rw[World.size_alloc] at this
  exact this
 clear hR hok
 have zu:Hid (∀V,Calls Tryz.prog 127 #[I v,I (m:Int)] V fun e w'=>e=.returned (.tuple #[.string (kR v m),I 0])/\Below V.heap.size V w'):=fun V=>by
  have:=CW.Qb v m V EF Lf
  unfold kR
  rw[Int.toNat_natCast]
  exact this
 have hds:(kR v m).size=m:=by
  unfold kR
  rw[Int.toNat_natCast]
  show(Lib.leBytes m (CM.low v)).toArray.size=m
  simp[Lib.leBytes_length]
 have HST:Hid (∀V,Below w.heap.size w V->Calls Tryz.prog 195 #[.pointer (some (Ad mb 0)),I (k:Int),I a,.string (kR v m)] V (Out Hd V D (.agg (FW.di (o.store st.mem k a (kR v m)).1)) (o.store st.mem k a (kR v m)).2)):=fun V hV=>C.store V D st.mem _ k a (kR v m) (h.below C hV).mem u9.o.mem qA.o ha (by omega) (by omega)
 obtain⟨X,hX⟩:=ex (o.store st.mem k a (kR v m))
 rw[<- hX] at HST HR
 obtain⟨d,hd⟩:=ex (kR v m)
 rw[<- hd] at zu HST
 obtain⟨⟨X1,X2⟩,X3⟩:=X
 unfold FW.di at HST
 simp only at HST HR
 have hm:=Dh (Ad mb 0)
 have hah:=Hb (Ad mb 0)
 clear h C hX h1 hd hds
 go_enter Tryz.func109,Tryz.ntmps109
 go_wp2_with (go_at_call 127;refine(zu.o _).mono ?_;rintro e w1 ⟨rfl,hb1⟩;have bh:=ai (cL.o.trans (hb1.mono cL.o.size));have BX1:=ai (B.below BX.o hb1 (B.isLt BX.o));have tP:=ai (B.below BY.o hb1 (B.isLt BY.o));clear hb1)
 have oH:=ai (HG.o.below HC.o bh.o)
 obtain⟨xb,nA⟩:=ex w.heap.size
 rw[<- nA] at BX1 tP ⊢
 have tN:=ai nA
 have HS:Hid (∀V,Kp D w1 V->V.cell? (Ad gb 0)=some (.iface 144 (.pointer (some (Ad mb 0))))/\V.cell? (Ad xb 1)=some (I a)):=fun V hb=>by
  have h1:=hb.keep BX1.o (fun g=>by have:=HC.o.dom _ _ _ HG.o.mem _ g;have:=tN.o;omega)
  have h2:=hb.keep oH.o.head oH.o.n1
  exact⟨B.cell h2 0 rfl,B.cell h1 1 rfl⟩
 have cB:=ai (HS.o _ (Kp.drew _ _))
 have Jd:Hid (∀V:World,(V.cell? (Ad gb 0)=some (.iface 144 (.pointer (some (Ad mb 0))))/\V.cell? (Ad xb 1)=some (I a))->∀v0 v1,(((V.setCell (Ad (xb+1) 0) v0).setCell (Ad (xb+1) 1) v1).cell? (Ad gb 0)=some (.iface 144 (.pointer (some (Ad mb 0))))/\((V.setCell (Ad (xb+1) 0) v0).setCell (Ad (xb+1) 1) v1).cell? (Ad xb 1)=some (I a))):=fun V ⟨h0,h1⟩ v0 v1=>by
  have hne:xb≠xb+1:=by omega
  have xC:gb≠xb+1:=by have:=tN.o;omega
  rw[bR _ _ _ _ _ _ hne,bR _ _ _ _ _ _ hne,bR _ _ _ _ _ _ xC,bR _ _ _ _ _ _ xC]
  exact⟨h0,h1⟩
 clear nA zu g0 g1
 go_region_held3 (fun V=>V.cell? (Ad gb 0)=some (.iface 144 (.pointer (some (Ad mb 0))))/\V.cell? (Ad xb 1)=some (I a)) (first | exact pP.o _ _ | exact qm.o | exact cB.o)
  (first | (go_at_call 195;refine(HST.o _ bh.o.drew).mono ?_;rintro e w2 ⟨D2,rfl,hm2,hk2,hd2⟩;have qm:=ai (HS.o _ ((Kp.drew D w1).trans hk2 (fun _ _ g=>g)));have pP:=ai (Jd.o w2 qm.o);have oo:=ai (eZ.behind HC.o HG.o bh.o.drew (Left.pj HC.o (HG.o.below HC.o bh.o.drew) hm2 hk2 hd2));have EU:=ai (hk2.keep (w:=w1.drew) tP.o (fun g=>(by have:=HC.o.dom _ _ _ HG.o.mem _ g;have:=tN.o;omega)));have y0:=B.cell (v:=I 0) EU.o 0 rfl;have y1:=B.cell (v:=I 0) EU.o 1 rfl;have z0:=B.free EU.o 0;have z1:=B.free EU.o 1;clear hm2 hk2 hd2))
 clear pP Jd HS cB qm
 go_wp2
 refine bodyPost_ret (v:=.tuple #[I 0,.agg #[I X1,I X2]]) (by simp[results,Tryz.results109,go_sem,y0,y1]) rfl ?_
 rw[HR.o]
 have hy:w.heap.size<=xb+1/\xb+1<w1.drew.heap.size:=⟨by have:=tN.o;omega,B.isLt tP.o⟩
 exact⟨rfl,((oo.o.set HC.o (Ad (xb+1) 0) _ hy hy.1).set HC.o (Ad (xb+1) 1) _ hy hy.1).left⟩
variable {σ:Type} {Hd:World->(Nat->Prop)->σ->Prop} {Ok:σ->List Bool->Prop} {o:vK σ} {lo mb gb:Nat} {D:Nat->Prop} {vr vo:Value} {st:St σ}
theorem RI (C:gQ lo mb Hd Ok o) (k:Nat) (a n:Int) (w:World) (h:jk Hd lo mb gb w D vr vo st) (hok:l8 Ok st) (hk:k<st.ps.length) (h1:(FM.au st.ps k).st=1) (R:(Int×(Int×Int))×St σ) (ha:M.dD a) (EF:1<=n) (Lf:n<=8) (hR:R=((rz (o.load st.mem k a n 0).1.1,(o.load st.mem k a n 0).1.2),{ st with mem:=(o.load st.mem k a n 0).2 })) :
  Calls Tryz.prog 109 #[.pointer (some (Ad gb 0)),I (k:Int),.agg #[I 1,I a,I n,I 0,I 0]] w fun e w'=>e=.returned (.tuple #[I R.1.1,.agg (FW.di R.1.2)])/\Left Hd lo mb gb w D vr vo R.2 w':=by
 have HG:=ai h
 have HC:=ai C
 have u9:=ai hok
 have qA:=ai (ek k hk h1)
 have qp:=ai hk
 have K5:=ai h1
 have HR:=ai hR
 have vF:st.ps.length<=4:=by have:=C.ok.few _ _ hok.mem;unfold running at this;rw[List.length_map] at this;exact this
 have oI:=ai (hok.fit k hk)
 have hgb:=B.isLt h.head
 have g0:w.cell? (Ad gb 0)=some (.iface 144 (.pointer (some (Ad mb 0)))):=B.cell h.head 0 rfl
 have g1:w.cell? (Ad gb 1)=some vr:=B.cell h.head 1 rfl
 have cL:=ai (((Below.refl w.heap.size w).alloc (Nat.le_refl _) (.cells #[I 1,I a,I n,I 0,I 0] 101)).alloc (by simp) (.cells #[I 0,I 0] 68))
 have BX:=ai (B.alloc (B.new w #[I 1,I a,I n,I 0,I 0] 101) (.cells #[I 0,I 0] 68))
 have BY:Hid (((w.alloc (.cells #[I 1,I a,I n,I 0,I 0] 101)).alloc (.cells #[I 0,I 0] 68)).heap[w.heap.size+1]?=some (.cells #[I 0,I 0] 68 (0,0))):=by
  have:=B.new (w.alloc (.cells #[I 1,I a,I n,I 0,I 0] 101)) #[I 0,I 0] 68
  rw[World.size_alloc] at this
  exact this
 clear hR hok
 have HGT:Hid (∀V,Calls Tryz.prog 126 #[.string (o.load st.mem k a n 0).1.1] V fun e w'=>∃x,e=.returned (.tuple #[I (rz (o.load st.mem k a n 0).1.1),I x])/\V=w'):=fun V=>by
  have h1:=C.ok.size st.mem _ k a n 0 u9.o.mem qA.o EF Lf
  have h2:=C.ok.none st.mem _ k a n 0 u9.o.mem qA.o
  unfold rz
  by_cases c:(o.load st.mem k a n 0).1.2.1=0
  · have:=h1 c
    rw[if_pos (by omega)]
    exact(CW.II _ V (by omega) (by omega)).mono fun e w' ⟨g1,g2⟩=>⟨0,g1,g2⟩
  · rw[h2 c,if_neg (by decide)]
    exact(CW.UR _ V (by unfold maxLen;decide) (by decide)).mono fun e w' ⟨g1,g2⟩=>⟨3,g1,g2⟩
 have OS:Hid (∀V,Below w.heap.size w V->Calls Tryz.prog 192 #[.pointer (some (Ad mb 0)),I (k:Int),I a,I n,I 0] V (Out Hd V D (.tuple #[.string (o.load st.mem k a n 0).1.1,.agg (FW.di (o.load st.mem k a n 0).1.2)]) (o.load st.mem k a n 0).2)):=fun V hV=>C.load V D st.mem _ k a n 0 (h.below C hV).mem u9.o.mem qA.o ha EF Lf (.inl rfl)
 obtain⟨X,hX⟩:=ex (o.load st.mem k a n 0)
 rw[<- hX] at OS HR HGT
 obtain⟨⟨d,X1,X2⟩,X3⟩:=X
 unfold FW.di at OS
 simp only at OS HR HGT
 obtain⟨G,hGe⟩:=ex (rz d)
 rw[<- hGe] at HGT HR
 have hm:=xj (Ad mb 0)
 have hah:=Am (Ad mb 0)
 clear h C hX h1 hGe
 go_enter Tryz.func109,Tryz.ntmps109
 go_wp2_with fail
 obtain⟨WA,fH⟩:=ex ((w.alloc (.cells #[I 1,I a,I n,I 0,I 0] 101)).alloc (.cells #[I 0,I 0] 68))
 rw[<- fH] at cL BX BY ⊢
 obtain⟨xb,nA⟩:=ex w.heap.size
 rw[<- nA] at BX BY ⊢
 have tN:=ai nA
 have oH:=ai (HG.o.below HC.o cL.o)
 have HS:Hid (∀V,Kp D WA V->V.cell? (Ad gb 0)=some (.iface 144 (.pointer (some (Ad mb 0))))/\V.cell? (Ad xb 1)=some (I a)/\V.cell? (Ad xb 2)=some (I n)):=fun V hb=>by
  have h1:=hb.keep BX.o (fun g=>by have:=HC.o.dom _ _ _ HG.o.mem _ g;have:=tN.o;omega)
  have h2:=hb.keep oH.o.head oH.o.n1
  exact⟨B.cell h2 0 rfl,B.cell h1 1 rfl,B.cell h1 2 rfl⟩
 have cB:=ai (HS.o _ (Kp.drew _ _))
 have Cj:=ai (HS.o (WA.alloc (.cells #[I 0,I 0] 68)).drew ((Kp.alloc _ _ _).trans (Kp.drew _ _) (fun _ _ g=>g)))
 have cP:=ai cL.o.drew
 have bh:=ai (cL.o.alloc cL.o.size (.cells #[I 0,I 0] 68)).drew
 have hlx:=B.isLt BY.o
 have HNY:Hid (¬D (xb+1)):=fun g=>by have:=HC.o.dom _ _ _ HG.o.mem _ g;have:=tN.o;omega
 have HNZ:Hid (¬D WA.heap.size):=fun g=>by have:=HC.o.dom _ _ _ HG.o.mem _ g;have:=cL.o.size;omega
 clear nA fH g0 g1
 go_cut [8,9] (fun x8 x9 wx=>∃zb,x8=.string d/\x9=.pointer (some (Ad zb 0))/\wx.heap[zb]?=some (.cells #[I X1,I X2] 68 (0,0))/\wx.heap[xb+1]?=some (.cells #[I 0,I 0] 68 (0,0))/\eZ (fun b=>b=xb+1) Hd lo mb gb w D vr vo { st with mem:=X3 } wx)
 case first =>
  have Jd:Hid (∀(V:World) (g:Nat),xb+1<g->(V.cell? (Ad gb 0)=some (.iface 144 (.pointer (some (Ad mb 0))))/\V.cell? (Ad xb 1)=some (I a)/\V.cell? (Ad xb 2)=some (I n))->∀v0 v1,((V.setCell (Ad g 0) v0).setCell (Ad g 1) v1).cell? (Ad gb 0)=some (.iface 144 (.pointer (some (Ad mb 0))))/\((V.setCell (Ad g 0) v0).setCell (Ad g 1) v1).cell? (Ad xb 1)=some (I a)/\((V.setCell (Ad g 0) v0).setCell (Ad g 1) v1).cell? (Ad xb 2)=some (I n)):=fun V g hg ⟨h0,h1,h2⟩ v0 v1=>by
   have hne:xb≠g:=by omega
   have xC:gb≠g:=by have:=tN.o;omega
   rw[bR _ _ _ _ _ _ hne,bR _ _ _ _ _ _ hne,bR _ _ _ _ _ _ hne,bR _ _ _ _ _ _ hne,bR _ _ _ _ _ _ xC,bR _ _ _ _ _ _ xC]
   exact⟨h0,h1,h2⟩
  go_region_held3 (fun V=>V.cell? (Ad gb 0)=some (.iface 144 (.pointer (some (Ad mb 0))))/\V.cell? (Ad xb 1)=some (I a)/\V.cell? (Ad xb 2)=some (I n)) (first | exact cB.o | exact Cj.o | exact qm.o | exact vN.o _ | exact pP.o _ _ | exact se.o _ _ _)
   (first | (go_at_call 192;refine(OS.o _ (by first | exact cP.o | exact bh.o)).mono ?_;rintro e w2 ⟨D2,rfl,hm2,hk2,hd2⟩;have OX:Hid (Kp D WA w2):=(by first | exact(Kp.drew D WA).trans hk2 (fun _ _ g=>g) | exact((Kp.alloc D WA (.cells #[I 0,I 0] 68)).trans (Kp.drew D _) (fun _ _ g=>g)).trans hk2 (fun _ _ g=>g));have qm:=ai (HS.o _ OX.o);have vN:=ai (fun ob=>HS.o _ (OX.o.trans (Kp.alloc D w2 ob) (fun _ _ g=>g)));have pP:=ai (Jd.o w2 WA.heap.size hlx qm.o);have se:=ai (fun ob=>Jd.o (w2.alloc ob) w2.heap.size (Nat.lt_of_lt_of_le hlx OX.o.size) (vN.o ob));have oo:=ai (eZ.behind HC.o HG.o (by first | exact cP.o | exact bh.o) (Left.pj HC.o (HG.o.below HC.o (by first | exact cP.o | exact bh.o)) hm2 hk2 hd2));have EU:Hid (w2.heap[xb+1]?=some (.cells #[I 0,I 0] 68 (0,0))):=OX.o.keep BY.o HNY.o;(try (have mU:=ai (hk2.keep (w:=(WA.alloc (.cells #[I 0,I 0] 68)).drew) (B.new WA #[I 0,I 0] 68) HNZ.o);have z0:=B.cell (v:=I 0) mU.o 0 rfl;have z1:=B.cell (v:=I 0) mU.o 1 rfl;have z2:=B.free mU.o 0;have z3:=B.free mU.o 1));clear hm2 hk2 hd2))
  all_goals
   go_wp2_with fail
   go_meet
   case rel =>
    first
    | exact⟨_,rfl,rfl,B.new w2 _ _,B.alloc EU.o _,(oo.o.more HC.o ((Below.refl _ _).alloc (Nat.le_refl _) _)).sub (fun b e=>by subst e;exact⟨by have:=tN.o;omega,hlx⟩)⟩
    | exact⟨_,rfl,rfl,B.set (B.set mU.o 0 _) 1 _,B.other (B.other EU.o WA.heap.size 0 _ (by omega)) WA.heap.size 1 _ (by omega),((oo.o.set HC.o (Ad WA.heap.size 0) _ ⟨cL.o.size,by show WA.heap.size<(WA.alloc _).heap.size;rw[World.size_alloc];omega⟩ cL.o.size).set HC.o (Ad WA.heap.size 1) _ ⟨cL.o.size,by show WA.heap.size<(WA.alloc _).heap.size;rw[World.size_alloc];omega⟩ cL.o.size).sub (fun b e=>by subst e;exact⟨by have:=tN.o;omega,by show _<(WA.alloc _).heap.size;rw[World.size_alloc];omega⟩)⟩
 case rest =>
  obtain⟨zb,rfl,rfl,hz,hy,hl⟩:=hcut
  have HZ:=ai hz
  have HY:=ai hy
  have HL:=ai hl
  have z0:=B.cell (v:=I X1) hz 0 rfl
  have z1:=B.cell (v:=I X2) hz 1 rfl
  have y0:=B.cell (v:=I 0) hy 0 rfl
  have y1:=B.cell (v:=I 0) hy 1 rfl
  have f0:=B.free hy 0
  have f1:=B.free hy 1
  clear hz hy hl HS cB Cj cP bh
  go_wp2_with (go_at_call 126;refine(HGT.o _).mono ?_;rintro e w3 ⟨x,rfl,rfl⟩)
  go_region
  all_goals
   go_wp2
   refine bodyPost_ret (v:=.tuple #[I G,.agg #[I X1,I X2]]) (by simp[results,Tryz.results109,go_sem,y0,y1]) rfl ?_
   rw[HR.o]
   exact⟨rfl,(((HL.o.more HC.o (Below.refl _ _).drew).set HC.o (Ad (xb+1) 0) _ rfl (by show w.heap.size<=xb+1;have:=tN.o;omega)).set HC.o (Ad (xb+1) 1) _ rfl (by show w.heap.size<=xb+1;have:=tN.o;omega)).left⟩
theorem pM {i:PM.ey} (hb:i.bad=false) (h:i.op=9∨i.op=10):1<=i.c/\i.c<=8:=by
 unfold PM.ey.bad at hb
 rw[if_neg (by omega),if_neg (by omega),if_neg (by omega),if_neg (by omega),if_neg (by omega),if_pos h] at hb
 unfold PM.dK at hb
 simp at hb
 omega
theorem Og {i:PM.ey} (hb:i.bad=false) (h:i.op=16):1<=i.m/\i.m<=6:=by
 unfold PM.ey.bad at hb
 rw[if_neg (by omega),if_pos h] at hb
 simpa using hb
theorem G9 (C:gQ lo mb Hd Ok o) (k:Nat) (i:PM.ey) (w:World) (h:jk Hd lo mb gb w D vr vo st) (hok:l8 Ok st) (hk:k<st.ps.length) (h1:(FM.au st.ps k).st=1) :
  Calls Tryz.prog 109 #[.pointer (some (Ad gb 0)),I (k:Int),.agg (PM.km (FM.au st.ps k) i)] w fun e w'=>e=.returned (.tuple #[I (bI o st k i).1.1,.agg (FW.di (bI o st k i).1.2)])/\Left Hd lo mb gb w D vr vo (bI o st k i).2 w':=by
 by_cases hb:i.bad=true
 · have e1:PM.km (FM.au st.ps k) i=#[I 4,I 0,I 0,I 0,I 0]:=by unfold PM.km;rw[if_pos hb]
   rw[e1]
   exact RF C k w h hok hk h1 _ (by unfold bI;rw[if_pos hb])
 · have hb':i.bad=false:=by simpa using hb
   by_cases c9:i.op=9
   · have hsz:=pM hb' (.inl c9)
     have e1:PM.km (FM.au st.ps k) i=#[I 1,I (wrap64 ((FM.au st.ps k).r i.b.toNat+i.m)),I i.c,I 0,I 0]:=by unfold PM.km;rw[if_neg hb,if_pos c9]
     rw[e1]
     exact RI C k _ _ w h hok hk h1 _ (fS _) hsz.1 hsz.2 (by unfold bI;rw[if_neg hb,if_pos c9])
   · by_cases c10:i.op=10
     · have hsz:=pM hb' (.inr c10)
       obtain⟨m,hm⟩:∃m:Nat,i.c=(m:Int):=⟨i.c.toNat,by omega⟩
       have e1:PM.km (FM.au st.ps k) i=#[I 2,I (wrap64 ((FM.au st.ps k).r i.b.toNat+i.m)),I (m:Int),I ((FM.au st.ps k).r i.a.toNat),I 0]:=by unfold PM.km;rw[if_neg hb,if_neg c9,if_pos c10,hm]
       rw[e1]
       exact RH C k _ _ m w h hok hk h1 _ (fS _) (by omega) (by omega) (by unfold bI;rw[if_neg hb,if_neg c9,if_pos c10,hm])
     · by_cases c16:i.op=16
       · have e1:PM.km (FM.au st.ps k) i=#[I 3,I 0,I 0,I 0,I i.m]:=by unfold PM.km;rw[if_neg hb,if_neg c9,if_neg c10,if_pos c16]
         rw[e1]
         exact RG C k i.m w h hok hk h1 _ (Og hb' c16) (by unfold bI;rw[if_neg hb,if_neg c9,if_neg c10,if_pos c16])
       · have e1:PM.km (FM.au st.ps k) i=#[I 0,I 0,I 0,I 0,I 0]:=by unfold PM.km;rw[if_neg hb,if_neg c9,if_neg c10,if_neg c16]
         rw[e1]
         exact RJ C k w h hok hk h1 _ (by unfold bI;rw[if_neg hb,if_neg c9,if_neg c10,if_neg c16])
variable {σ:Type} {Hd:World->(Nat->Prop)->σ->Prop} {Ok:σ->List Bool->Prop} {o:vK σ} {lo mb gb:Nat} {D:Nat->Prop} {vr vo:Value} {st:St σ}
theorem DY (C:gQ lo mb Hd Ok o) (k:Nat) (s:ByteArray) (v:Int) (w:World) (h:jk Hd lo mb gb w D vr vo st) (vF:st.ps.length<=1000) (hk:k<st.ps.length) (h8:s.size=8) (hbad:(PM.ins s).bad=false) :
  Calls Tryz.prog 110 #[.pointer (some (Ad gb 0)),I (k:Int),.string s,I v] w fun e w'=>e=.returned (.tuple #[])/\Left Hd lo mb gb w D vr vo { st with ps:=st.ps.set k (PM.doneN (FM.au st.ps k) (PM.ins s) v) } w':=by
 have HG:=ai h
 have HC:=ai C
 obtain⟨pb,cap,nv,hpb,hpc,uK⟩:=h.proc k hk
 have dJ:=ai hpc
 have Vh:=ai uK
 have Jl:=ai (fun V=>PW.NL (FM.au st.ps k) s v V h8 hbad)
 obtain⟨q,hq⟩:=ex (FM.au st.ps k)
 rw[<- hq] at dJ Jl ⊢
 obtain⟨N,hN⟩:=ex (PM.doneN q (PM.ins s) v)
 rw[<- hN] at Jl ⊢
 obtain⟨n,hn⟩:=ex st.ps.length
 rw[<- hn] at nv hk vF
 have HN:=ai hn
 subst nv
 have jc:(k:Int)<(n:Int):=by omega
 have Cs:Hid (∀V,Calls Tryz.prog 129 #[.agg #[I (q.r 0),I (q.r 1),I (q.r 2),I (q.r 3),I (q.r 4),I (q.r 5),I (q.r 6),I (q.r 7),I q.pc,I q.st,I q.cd,I q.fk,I q.fa],.string s,I v] V fun e w'=>e=.returned (.tuple #[.agg #[I (N.r 0),I (N.r 1),I (N.r 2),I (N.r 3),I (N.r 4),I (N.r 5),I (N.r 6),I (N.r 7),I N.pc,I N.st,I N.cd,I N.fk,I N.fa],I 0])/\Below V.heap.size V w'):=Jl
 have g1:w.cell? (Ad gb 1)=some (.slice (some (Ad pb 0)) n cap):=B.cell HG.o.head 1 rfl
 have hgb:=B.isLt HG.o.head
 have c0:w.cell? (Ad pb (k*13))=some (I (q.r 0)):=dJ.o 0 (by omega)
 have c1:w.cell? (Ad pb (k*13+1))=some (I (q.r 1)):=dJ.o 1 (by omega)
 have c2:w.cell? (Ad pb (k*13+2))=some (I (q.r 2)):=dJ.o 2 (by omega)
 have c3:w.cell? (Ad pb (k*13+3))=some (I (q.r 3)):=dJ.o 3 (by omega)
 have c4:w.cell? (Ad pb (k*13+4))=some (I (q.r 4)):=dJ.o 4 (by omega)
 have c5:w.cell? (Ad pb (k*13+5))=some (I (q.r 5)):=dJ.o 5 (by omega)
 have c6:w.cell? (Ad pb (k*13+6))=some (I (q.r 6)):=dJ.o 6 (by omega)
 have c7:w.cell? (Ad pb (k*13+7))=some (I (q.r 7)):=dJ.o 7 (by omega)
 have c8:w.cell? (Ad pb (k*13+8))=some (I q.pc):=dJ.o 8 (by omega)
 have c9:w.cell? (Ad pb (k*13+9))=some (I q.st):=dJ.o 9 (by omega)
 have c10:w.cell? (Ad pb (k*13+10))=some (I q.cd):=dJ.o 10 (by omega)
 have c11:w.cell? (Ad pb (k*13+11))=some (I q.fk):=dJ.o 11 (by omega)
 have c12:w.cell? (Ad pb (k*13+12))=some (I q.fa):=dJ.o 12 (by omega)
 have jL:=ai (Below.refl w.heap.size w).drew
 clear hq hN hn hpc uK h C Jl dJ h8 hbad
 go_enter Tryz.func110,Tryz.ntmps110
 go_wp2_with fail
 go_region_law (go_simp;go_at_call 129;refine(Cs.o _).mono ?_;rintro e w1 ⟨rfl,Yt⟩;have hb1:=jL.o.trans Yt;have bh:=ai hb1;have d0:w1.cell? (Ad pb (k*13))=some (I (q.r 0)):=(hb1.cell (p:=(Ad pb (k*13))) hpb).trans c0;have d1:w1.cell? (Ad pb (k*13+1))=some (I (q.r 1)):=(hb1.cell (p:=(Ad pb (k*13+1))) hpb).trans c1;have d2:w1.cell? (Ad pb (k*13+2))=some (I (q.r 2)):=(hb1.cell (p:=(Ad pb (k*13+2))) hpb).trans c2;have d3:w1.cell? (Ad pb (k*13+3))=some (I (q.r 3)):=(hb1.cell (p:=(Ad pb (k*13+3))) hpb).trans c3;have d4:w1.cell? (Ad pb (k*13+4))=some (I (q.r 4)):=(hb1.cell (p:=(Ad pb (k*13+4))) hpb).trans c4;have d5:w1.cell? (Ad pb (k*13+5))=some (I (q.r 5)):=(hb1.cell (p:=(Ad pb (k*13+5))) hpb).trans c5;have d6:w1.cell? (Ad pb (k*13+6))=some (I (q.r 6)):=(hb1.cell (p:=(Ad pb (k*13+6))) hpb).trans c6;have d7:w1.cell? (Ad pb (k*13+7))=some (I (q.r 7)):=(hb1.cell (p:=(Ad pb (k*13+7))) hpb).trans c7;have d8:w1.cell? (Ad pb (k*13+8))=some (I q.pc):=(hb1.cell (p:=(Ad pb (k*13+8))) hpb).trans c8;have d9:w1.cell? (Ad pb (k*13+9))=some (I q.st):=(hb1.cell (p:=(Ad pb (k*13+9))) hpb).trans c9;have d10:w1.cell? (Ad pb (k*13+10))=some (I q.cd):=(hb1.cell (p:=(Ad pb (k*13+10))) hpb).trans c10;have d11:w1.cell? (Ad pb (k*13+11))=some (I q.fk):=(hb1.cell (p:=(Ad pb (k*13+11))) hpb).trans c11;have d12:w1.cell? (Ad pb (k*13+12))=some (I q.fa):=(hb1.cell (p:=(Ad pb (k*13+12))) hpb).trans c12;have f1:∀j,w1.frozen? (Ad pb j)=false:=(fun j=>(hb1.frozen (p:=(Ad pb j)) hpb).trans (Vh.o j));have x1:w1.cell? (Ad gb 1)=some (.slice (some (Ad pb 0)) n cap):=(hb1.cell (p:=(Ad gb 1)) hgb).trans g1;clear hb1 Yt;go_simp)
 all_goals
  clear Cs Vh
  go_wp2
  go_end0
  exact⟨rfl,Left.after bh.o ((HG.o.below HC.o bh.o).Fb HC.o k (by rw[<- HN.o];exact hk) HN.o N)⟩
end GW
namespace GG
open Go.RowKit
def gz (i:PM.ey) (n:Nat) (ps:List PM.Pr):Nat->List PM.Pr
 | 0=>ps
 | j+1=>(gz i n ps j).set (n+j) (PM.doneN (FM.au (gz i n ps j) (n+j)) i 0)
theorem gH (i:PM.ey) (n:Nat) (ps:List PM.Pr):∀j,(gz i n ps j).length=ps.length
 | 0=>rfl
 | j+1=>by show((gz i n ps j).set _ _).length=_;rw[List.length_set];exact gH i n ps j
theorem uY (i:PM.ey) (n:Nat) (ps:List PM.Pr):∀j m,n+j<=ps.length->(gz i n ps j)[m]?=if n<=m/\m<n+j then ps[m]?.map (fun p=>PM.doneN p i 0) else ps[m]?
 | 0,m,_=>by rw[if_neg (by omega)];rfl
 | j+1,m,h=>by
  show((gz i n ps j).set (n+j) (PM.doneN (FM.au (gz i n ps j) (n+j)) i 0))[m]?=_
  have ih:=uY i n ps j
  have hl:=gH i n ps j
  rw[List.getElem?_set]
  by_cases e:n+j=m
  · subst e
    have hlt:n+j<ps.length:=by omega
    rw[if_pos rfl,if_pos (by omega),if_pos (by omega),List.getElem?_eq_getElem hlt]
    have hq:FM.au (gz i n ps j) (n+j)=ps[n+j]:=by
     unfold FM.au
     rw[List.getD_eq_getElem?_getD,ih (n+j) (by omega),if_neg (by omega),List.getElem?_eq_getElem hlt]
     rfl
    rw[hq]
    rfl
  · rw[if_neg e,ih m (by omega)]
    by_cases c:n<=m/\m<n+j
    · rw[if_pos c,if_pos (by omega)]
    · rw[if_neg c,if_neg (by omega)]
theorem D8 (i:PM.ey) (n:Nat) (ps:List PM.Pr) (h:n<=ps.length):gz i n ps (ps.length-n)=fZ i n ps:=by
 apply List.ext_getElem?
 intro m
 rw[uY i n ps _ m (by omega)]
 unfold fZ
 by_cases c:m<n
 · rw[if_neg (by omega),List.getElem?_append_left (by rw[List.length_take];omega),List.getElem?_take_of_lt c]
 · rw[List.getElem?_append_right (by rw[List.length_take];omega),List.length_take,Nat.min_eq_left h,List.getElem?_map,List.getElem?_drop,show n+(m-n)=m by omega]
   by_cases c2:m<ps.length
   · rw[if_pos (by omega)]
   · rw[if_neg (by omega),List.getElem?_eq_none (by omega)];rfl
end GG
namespace GW
open Go.RowKit GK GG
open FW (ai aB)
variable {σ:Type} {Hd:World->(Nat->Prop)->σ->Prop} {Ok:σ->List Bool->Prop} {o:vK σ} {lo mb gb:Nat} {D:Nat->Prop} {vr vo:Value} {st:St σ}
theorem tI (p:PM.Pr) (i:PM.ey):∃k0 k1 k2 k3 k4,PM.km p i=#[I k0,I k1,I k2,I k3,I k4]:=by
 unfold PM.km
 repeat' split
 all_goals exact⟨_,_,_,_,_,rfl⟩
theorem U1 (C:gQ lo mb Hd Ok o) (k:Nat) (w:World) (h:jk Hd lo mb gb w D vr vo st) (hok:l8 Ok st) (hk:k<st.ps.length) (h1:(FM.au st.ps k).st=1) :
  Calls Tryz.prog 81 #[.pointer (some ⟨gb,0,none⟩),I (k:Int)] w fun e w'=>e=.returned (.agg (FW.di (oN o st k).1))/\GW.Left Hd lo mb gb w D vr vo (oN o st k).2 w':=by
 have HG:=ai h
 have HC:=ai C
 have u9:=ai hok
 have hlv:=ek k hk h1
 have qA:=ai hlv
 have qp:=ai hk
 have K5:=ai h1
 have vF:st.ps.length<=4:=by have:=C.ok.few _ _ hok.mem;unfold running at this;rw[List.length_map] at this;exact this
 have oI:=ai (hok.fit k hk)
 have hgb:=B.isLt h.head
 obtain⟨pb,cap,nv,hpb,hpc,uK⟩:=h.proc k hk
 have dJ:=ai hpc
 have OS:Hid (∀V,Below w.heap.size w V->Calls Tryz.prog 192 #[.pointer (some ⟨mb,0,none⟩),I (k:Int),I (FM.au st.ps k).pc,I 8,I 2] V (Out Hd V D (.tuple #[.string (o.load st.mem k (FM.au st.ps k).pc 8 2).1.1,.agg (FW.di (o.load st.mem k (FM.au st.ps k).pc 8 2).1.2)]) (o.load st.mem k (FM.au st.ps k).pc 8 2).2)):=fun V hV=>C.load V D st.mem _ k _ 8 2 (h.below C hV).mem hok.mem hlv (hok.fit k hk).2 (by omega) (by omega) (.inr rfl)
 have se:=ai (C.ok.size st.mem _ k (FM.au st.ps k).pc 8 2 hok.mem hlv (by omega) (by omega))
 have Zr:=ai (C.ok.load st.mem _ k (FM.au st.ps k).pc 8 2 hok.mem hlv)
 have Ev:Hid (oN o st k=(if ¬(o.load st.mem k (FM.au st.ps k).pc 8 2).1.2.1=0 then ((o.load st.mem k (FM.au st.ps k).pc 8 2).1.2,{ st with mem:=(o.load st.mem k (FM.au st.ps k).pc 8 2).2 }) else if ¬(bI o { st with mem:=(o.load st.mem k (FM.au st.ps k).pc 8 2).2 } k (PM.ins (o.load st.mem k (FM.au st.ps k).pc 8 2).1.1)).1.2.1=0 then ((bI o { st with mem:=(o.load st.mem k (FM.au st.ps k).pc 8 2).2 } k (PM.ins (o.load st.mem k (FM.au st.ps k).pc 8 2).1.1)).1.2,(bI o { st with mem:=(o.load st.mem k (FM.au st.ps k).pc 8 2).2 } k (PM.ins (o.load st.mem k (FM.au st.ps k).pc 8 2).1.1)).2) else ((0,0),{ (bI o { st with mem:=(o.load st.mem k (FM.au st.ps k).pc 8 2).2 } k (PM.ins (o.load st.mem k (FM.au st.ps k).pc 8 2).1.1)).2 with ps:=fZ (PM.ins (o.load st.mem k (FM.au st.ps k).pc 8 2).1.1) st.ps.length ((bI o { st with mem:=(o.load st.mem k (FM.au st.ps k).pc 8 2).2 } k (PM.ins (o.load st.mem k (FM.au st.ps k).pc 8 2).1.1)).2.ps.set k (PM.doneN (FM.au (bI o { st with mem:=(o.load st.mem k (FM.au st.ps k).pc 8 2).2 } k (PM.ins (o.load st.mem k (FM.au st.ps k).pc 8 2).1.1)).2.ps k) (PM.ins (o.load st.mem k (FM.au st.ps k).pc 8 2).1.1) (bI o { st with mem:=(o.load st.mem k (FM.au st.ps k).pc 8 2).2 } k (PM.ins (o.load st.mem k (FM.au st.ps k).pc 8 2).1.1)).1.1)) }))):=rfl
 obtain⟨q,hq⟩:=ex (FM.au st.ps k)
 rw[<- hq] at dJ OS se Zr Ev
 have HQ:=ai hq
 obtain⟨X,hX⟩:=ex (o.load st.mem k q.pc 8 2)
 rw[<- hX] at OS se Zr Ev
 obtain⟨⟨d,X1,X2⟩,X3⟩:=X
 unfold FW.di at OS
 simp only at OS se Zr Ev
 obtain⟨Y,hY⟩:=ex (bI o { st with mem:=X3 } k (PM.ins d))
 have HY:=ai hY
 rw[<- hY] at Ev
 obtain⟨RR,uP⟩:=ex (oN o st k)
 rw[<- uP] at Ev ⊢
 obtain⟨n,hn⟩:=ex st.ps.length
 rw[<- hn] at nv hk vF Ev
 subst nv
 have HN:=ai hn
 have jc:(k:Int)<(n:Int):=by omega
 have g0:w.cell? ⟨gb,0,none⟩=some (.iface 144 (.pointer (some ⟨mb,0,none⟩))):=B.cell h.head 0 rfl
 have g1:w.cell? ⟨gb,1,none⟩=some (.slice (some ⟨pb,0,none⟩) n cap):=B.cell h.head 1 rfl
 have c0:w.cell? ⟨pb,k*13,none⟩=some (I (q.r 0)):=dJ.o 0 (by omega)
 have c1:w.cell? ⟨pb,k*13+1,none⟩=some (I (q.r 1)):=dJ.o 1 (by omega)
 have c2:w.cell? ⟨pb,k*13+2,none⟩=some (I (q.r 2)):=dJ.o 2 (by omega)
 have c3:w.cell? ⟨pb,k*13+3,none⟩=some (I (q.r 3)):=dJ.o 3 (by omega)
 have c4:w.cell? ⟨pb,k*13+4,none⟩=some (I (q.r 4)):=dJ.o 4 (by omega)
 have c5:w.cell? ⟨pb,k*13+5,none⟩=some (I (q.r 5)):=dJ.o 5 (by omega)
 have c6:w.cell? ⟨pb,k*13+6,none⟩=some (I (q.r 6)):=dJ.o 6 (by omega)
 have c7:w.cell? ⟨pb,k*13+7,none⟩=some (I (q.r 7)):=dJ.o 7 (by omega)
 have c8:w.cell? ⟨pb,k*13+8,none⟩=some (I q.pc):=dJ.o 8 (by omega)
 have c9:w.cell? ⟨pb,k*13+9,none⟩=some (I q.st):=dJ.o 9 (by omega)
 have c10:w.cell? ⟨pb,k*13+10,none⟩=some (I q.cd):=dJ.o 10 (by omega)
 have c11:w.cell? ⟨pb,k*13+11,none⟩=some (I q.fk):=dJ.o 11 (by omega)
 have c12:w.cell? ⟨pb,k*13+12,none⟩=some (I q.fa):=dJ.o 12 (by omega)
 have cL:=ai (((Below.refl w.heap.size w).alloc (Nat.le_refl _) (.cells #[I 0,I 0] 68)).alloc (by simp) (.cells #[I (q.r 0),I (q.r 1),I (q.r 2),I (q.r 3),I (q.r 4),I (q.r 5),I (q.r 6),I (q.r 7),I q.pc,I q.st,I q.cd,I q.fk,I q.fa] 70))
 have BF:=ai (B.alloc (B.new w #[I 0,I 0] 68) (.cells #[I (q.r 0),I (q.r 1),I (q.r 2),I (q.r 3),I (q.r 4),I (q.r 5),I (q.r 6),I (q.r 7),I q.pc,I q.st,I q.cd,I q.fk,I q.fa] 70))
 have BX:Hid (((w.alloc (.cells #[I 0,I 0] 68)).alloc (.cells #[I (q.r 0),I (q.r 1),I (q.r 2),I (q.r 3),I (q.r 4),I (q.r 5),I (q.r 6),I (q.r 7),I q.pc,I q.st,I q.cd,I q.fk,I q.fa] 70)).heap[w.heap.size+1]?=some (.cells #[I (q.r 0),I (q.r 1),I (q.r 2),I (q.r 3),I (q.r 4),I (q.r 5),I (q.r 6),I (q.r 7),I q.pc,I q.st,I q.cd,I q.fk,I q.fa] 70 (0,0))):=by
  have:=B.new (w.alloc (.cells #[I 0,I 0] 68)) #[I (q.r 0),I (q.r 1),I (q.r 2),I (q.r 3),I (q.r 4),I (q.r 5),I (q.r 6),I (q.r 7),I q.pc,I q.st,I q.cd,I q.fk,I q.fa] 70
  rw[World.size_alloc] at this
  exact this
 have Ur:¬pb=w.heap.size:=by omega
 have Yd:¬gb=w.heap.size:=by omega
 have hm:=xj ⟨mb,0,none⟩
 have hah:=Am ⟨mb,0,none⟩
 clear h C hX hY uP hn hq hpc uK hok hlv h1 dJ
 go_enter Tryz.func81,Tryz.ntmps81
 go_wp2_with fail
 obtain⟨WA,fH⟩:=ex ((w.alloc (.cells #[I 0,I 0] 68)).alloc (.cells #[I (q.r 0),I (q.r 1),I (q.r 2),I (q.r 3),I (q.r 4),I (q.r 5),I (q.r 6),I (q.r 7),I q.pc,I q.st,I q.cd,I q.fk,I q.fa] 70))
 rw[<- fH] at cL BF BX ⊢
 obtain⟨xb,nA⟩:=ex (w.heap.size+1)
 rw[<- nA] at BX ⊢
 obtain⟨fb,UB⟩:=ex w.heap.size
 rw[<- UB] at BF nA ⊢
 have tN:=ai nA
 have PF:=ai UB
 have oH:=ai (HG.o.below HC.o cL.o)
 have l7:Hid (¬D xb):=fun g=>by have:=HC.o.dom _ _ _ HG.o.mem _ g;have:=tN.o;have:=PF.o;omega
 have Vm:Hid (¬D fb):=fun g=>by have:=HC.o.dom _ _ _ HG.o.mem _ g;have:=PF.o;omega
 have HNZ:Hid (¬D WA.heap.size):=fun g=>by have:=HC.o.dom _ _ _ HG.o.mem _ g;have:=cL.o.size;omega
 have HS:Hid (∀V,Kp D WA V->V.cell? ⟨gb,0,none⟩=some (.iface 144 (.pointer (some ⟨mb,0,none⟩)))/\V.cell? ⟨xb,8,none⟩=some (I q.pc)):=fun V hb=>by
  have h1:=hb.keep BX.o l7.o
  have h2:=hb.keep oH.o.head oH.o.n1
  exact⟨B.cell h2 0 rfl,B.cell h1 8 rfl⟩
 have cB:=ai (HS.o _ (Kp.drew _ _))
 have Cj:=ai (HS.o (WA.alloc (.cells #[I 0,I 0] 68)).drew ((Kp.alloc _ _ _).trans (Kp.drew _ _) (fun _ _ g=>g)))
 have cP:=ai cL.o.drew
 have bh:=ai (cL.o.alloc cL.o.size (.cells #[I 0,I 0] 68)).drew
 have hlx:=B.isLt BX.o
 clear nA UB fH g0 g1 c0 c1 c2 c3 c4 c5 c6 c7 c8 c9 c10 c11 c12 Ur Yd
 go_cut [6,7] (fun x6 x7 wx=>∃zb,x6=.string d/\x7=.pointer (some ⟨zb,0,none⟩)/\xb<zb/\wx.heap[zb]?=some (.cells #[I X1,I X2] 68 (0,0))/\wx.heap[fb]?=some (.cells #[I 0,I 0] 68 (0,0))/\wx.heap[xb]?=some (.cells #[I (q.r 0),I (q.r 1),I (q.r 2),I (q.r 3),I (q.r 4),I (q.r 5),I (q.r 6),I (q.r 7),I q.pc,I q.st,I q.cd,I q.fk,I q.fa] 70 (0,0))/\eZ (fun b=>b=fb∨b=xb∨b=zb) Hd lo mb gb w D (.slice (some ⟨pb,0,none⟩) n cap) vo { st with mem:=X3 } wx)
 case first =>
  have Jd:Hid (∀(V:World) (g:Nat),xb<g->(V.cell? ⟨gb,0,none⟩=some (.iface 144 (.pointer (some ⟨mb,0,none⟩)))/\V.cell? ⟨xb,8,none⟩=some (I q.pc))->∀v0 v1,((V.setCell ⟨g,0,none⟩ v0).setCell ⟨g,1,none⟩ v1).cell? ⟨gb,0,none⟩=some (.iface 144 (.pointer (some ⟨mb,0,none⟩)))/\((V.setCell ⟨g,0,none⟩ v0).setCell ⟨g,1,none⟩ v1).cell? ⟨xb,8,none⟩=some (I q.pc)):=fun V g hg ⟨h0,h1⟩ v0 v1=>by
   have hne:xb≠g:=by omega
   have xC:gb≠g:=by have:=tN.o;have:=PF.o;omega
   rw[bR _ _ _ _ _ _ hne,bR _ _ _ _ _ _ hne,bR _ _ _ _ _ _ xC,bR _ _ _ _ _ _ xC]
   exact⟨h0,h1⟩
  go_region_held3 (fun V=>V.cell? ⟨gb,0,none⟩=some (.iface 144 (.pointer (some ⟨mb,0,none⟩)))/\V.cell? ⟨xb,8,none⟩=some (I q.pc)) (first | exact cB.o | exact Cj.o | exact qm.o | exact vN.o _ | exact pP.o _ _ | exact ade.o _ _ _)
   (first | (go_at_call 192;refine(OS.o _ (by first | exact cP.o | exact bh.o)).mono ?_;rintro e w2 ⟨D2,rfl,hm2,hk2,hd2⟩;have OX:Hid (Kp D WA w2):=(by first | exact(Kp.drew D WA).trans hk2 (fun _ _ g=>g) | exact((Kp.alloc D WA (.cells #[I 0,I 0] 68)).trans (Kp.drew D _) (fun _ _ g=>g)).trans hk2 (fun _ _ g=>g));have qm:=ai (HS.o _ OX.o);have vN:=ai (fun ob=>HS.o _ (OX.o.trans (Kp.alloc D w2 ob) (fun _ _ g=>g)));have pP:=ai (Jd.o w2 WA.heap.size hlx qm.o);have ade:=ai (fun ob=>Jd.o (w2.alloc ob) w2.heap.size (Nat.lt_of_lt_of_le hlx OX.o.size) (vN.o ob));have oo:=ai (eZ.behind HC.o HG.o (by first | exact cP.o | exact bh.o) (Left.pj HC.o (HG.o.below HC.o (by first | exact cP.o | exact bh.o)) hm2 hk2 hd2));have BF2:=ai (OX.o.keep BF.o Vm.o);have Ez:=ai (OX.o.keep BX.o l7.o);(try (have mU:=ai (hk2.keep (w:=(WA.alloc (.cells #[I 0,I 0] 68)).drew) (B.new WA #[I 0,I 0] 68) HNZ.o);have z0:=B.cell (v:=I 0) mU.o 0 rfl;have z1:=B.cell (v:=I 0) mU.o 1 rfl;have z2:=B.free mU.o 0;have z3:=B.free mU.o 1));clear hm2 hk2 hd2))
  all_goals
   go_wp2_with fail
   go_meet
   case rel =>
    have e1:=tN.o
    have e2:=PF.o
    have e3:=OX.o.size
    first
    | exact⟨_,rfl,rfl,by omega,B.new w2 _ _,B.alloc BF2.o _,B.alloc Ez.o _,(oo.o.alloc HC.o _).sub (fun b e=>by rcases e with rfl | rfl | rfl;exact .inl ⟨by omega,by show _<WA.heap.size;omega⟩;exact .inl ⟨by omega,by show _<WA.heap.size;omega⟩;exact .inr rfl)⟩
    | exact⟨_,rfl,rfl,hlx,B.set (B.set mU.o 0 _) 1 _,B.other (B.other BF2.o WA.heap.size 0 _ (by omega)) WA.heap.size 1 _ (by omega),B.other (B.other Ez.o WA.heap.size 0 _ (by omega)) WA.heap.size 1 _ (by omega),((oo.o.set HC.o ⟨WA.heap.size,0,none⟩ _ ⟨cL.o.size,by show WA.heap.size<(WA.alloc _).heap.size;rw[World.size_alloc];omega⟩ cL.o.size).set HC.o ⟨WA.heap.size,1,none⟩ _ ⟨cL.o.size,by show WA.heap.size<(WA.alloc _).heap.size;rw[World.size_alloc];omega⟩ cL.o.size).sub (fun b e=>by rcases e with rfl | rfl | rfl <;> exact⟨by omega,by show _<(WA.alloc _).heap.size;rw[World.size_alloc];omega⟩)⟩
 case rest =>
  obtain⟨zb,rfl,rfl,hxz,hz,hf,hx,hl⟩:=hcut
  have HZ:=ai hz
  have HF:=ai hf
  have HX:=ai hx
  have HL:=ai hl
  have z0:=B.cell (v:=I X1) hz 0 rfl
  have z1:=B.cell (v:=I X2) hz 1 rfl
  have f0:=B.cell (v:=I 0) hf 0 rfl
  have f1:=B.cell (v:=I 0) hf 1 rfl
  have e0:=B.free hf 0
  have e1:=B.free hf 1
  have hfw:w.heap.size<=fb:=by have:=PF.o;omega
  clear HS cB Cj cP bh OS hz hf hx hl oH HNZ cL BF BX hlx
  by_cases hX1:X1=0
  · subst hX1
    have h8:d.size=8:=by have:=se.o rfl;omega
    have vg:Hid (l8 Ok { st with mem:=X3 }):=sP u9.o Zr.o
    have HAS:=ai (fun V=>PW.RB q d V h8)
    have nE:=ai (GG.u6 HC.o.ok vg.o k qp.o K5.o (PM.ins d) (PM.po d h8))
    rw[<- HY.o] at nE
    obtain⟨D1,r1,o1,hg1,hk1,hd1,rZ⟩:=HL.o
    have Zu:=ai hg1
    have Cn:=ai hk1
    have HDX:=ai hd1
    have Hk:=ai rZ
    have SC:Hid (∀V,Below wc.heap.size wc V->Calls Tryz.prog 109 #[.pointer (some ⟨gb,0,none⟩),I (k:Int),.agg (PM.km q (PM.ins d))] V fun e w'=>e=.returned (.tuple #[I Y.1.1,.agg (FW.di Y.1.2)])/\GW.Left Hd lo mb gb V D1 r1 o1 Y.2 w'):=fun V hV=>by
     have:=G9 HC.o k (PM.ins d) V (hg1.below HC.o hV) vg.o qp.o K5.o
     rw[<- HY.o] at this
     have hqe:FM.au (St.ps { st with mem:=X3 }) k=q:=HQ.o.symm
     rw[hqe] at this
     exact this
    obtain⟨k0,k1,k2,k3,k4,Yv⟩:=tI q (PM.ins d)
    rw[Yv] at HAS SC
    obtain⟨⟨v,F1,F2⟩,s2⟩:=Y
    unfold FW.di at SC
    simp only at SC nE Ev
    have Cs:Hid (RR=if ¬F1=0 then ((F1,F2),s2) else ((0,0),{ s2 with ps:=fZ (PM.ins d) n (s2.ps.set k (PM.doneN (FM.au s2.ps k) (PM.ins d) v)) })):=by rw[Ev.o,if_neg (fun g=>g trivial)];exact rfl
    clear hg1 hk1 hd1 rZ Yv Ev se Zr
    have g1:=B.cell (v:=r1) Zu.o.head 1 rfl
    obtain⟨a1,YP,hr1,_,_⟩:=aJ Zu.o.procs
    simp only at hr1
    rw[<- HN.o] at hr1
    subst hr1
    have ac9:Hid (wc.heap[xb]?=some (.cells #[I (q.r 0),I (q.r 1),I (q.r 2),I (q.r 3),I (q.r 4),I (q.r 5),I (q.r 6),I (q.r 7),I q.pc,I q.st,I q.cd,I q.fk,I q.fa] 70 (0,0))):=HX
    have p0:=B.cell (v:=I (q.r 0)) HX.o 0 rfl
    have p1:=B.cell (v:=I (q.r 1)) HX.o 1 rfl
    have p2:=B.cell (v:=I (q.r 2)) HX.o 2 rfl
    have p3:=B.cell (v:=I (q.r 3)) HX.o 3 rfl
    have p4:=B.cell (v:=I (q.r 4)) HX.o 4 rfl
    have p5:=B.cell (v:=I (q.r 5)) HX.o 5 rfl
    have p6:=B.cell (v:=I (q.r 6)) HX.o 6 rfl
    have p7:=B.cell (v:=I (q.r 7)) HX.o 7 rfl
    have p8:=B.cell (v:=I q.pc) HX.o 8 rfl
    have p9:=B.cell (v:=I q.st) HX.o 9 rfl
    have TV:=B.cell (v:=I q.cd) HX.o 10 rfl
    have TU:=B.cell (v:=I q.fk) HX.o 11 rfl
    have TS:=B.cell (v:=I q.fa) HX.o 12 rfl
    have fL:Hid (∀V,Calls Tryz.prog 108 #[.agg #[I (q.r 0),I (q.r 1),I (q.r 2),I (q.r 3),I (q.r 4),I (q.r 5),I (q.r 6),I (q.r 7),I q.pc,I q.st,I q.cd,I q.fk,I q.fa],.string d] V fun e w'=>e=.returned (.tuple #[.agg #[I k0,I k1,I k2,I k3,I k4],I 0])/\Below V.heap.size V w'):=HAS
    have hzl:=B.isLt HZ.o
    have hzf:fb≠zb:=by have:=tN.o;omega
    by_cases hF1:F1=0
    · subst hF1
      have HD3:Hid (RR=((0,0),{ s2 with ps:=fZ (PM.ins d) n (s2.ps.set k (PM.doneN (FM.au s2.ps k) (PM.ins d) v)) })):=by rw[Cs.o,if_neg (fun g=>g rfl)];exact rfl
      clear Cs
      go_wp2_with (first
       | (go_at_call 108;refine(fL.o _).mono ?_;rintro e w3 ⟨rfl,hb3⟩;have fK:=ai hb3;have lZ:=ai (hb3.alloc hb3.size (.cells #[I k0,I k1,I k2,I k3,I k4] 101));have BA:=ai (B.new w3 #[I k0,I k1,I k2,I k3,I k4] 101);have g2:(w3.alloc (.cells #[I k0,I k1,I k2,I k3,I k4] 101)).cell? ⟨gb,1,none⟩=some (.slice a1 n YP):=(lZ.o.cell (p:=⟨gb,1,none⟩) (B.isLt Zu.o.head)).trans g1;clear hb3)
       | (go_at_call 109;refine(SC.o _ lZ.o).mono ?_;rintro e w5 ⟨rfl,Pm⟩;have HL5:=ai Pm;have K8:=ai (Pm.keep (B.alloc (B.below HZ.o fK.o (B.isLt HZ.o)) _) (Hk.o zb (.inr (.inr rfl))));have Pf:=ai (Pm.keep (B.alloc (B.below HF.o fK.o (B.isLt HF.o)) _) (Hk.o fb (.inl rfl)));have y0:=B.cell (v:=I 0) K8.o 0 rfl;have y1:=B.cell (v:=I X2) K8.o 1 rfl;have y2:=B.free K8.o 0;have y3:=B.free K8.o 1;have t0:=B.cell (v:=I 0) Pf.o 0 rfl;have t1:=B.cell (v:=I 0) Pf.o 1 rfl;have t2:=B.free Pf.o 0;have t3:=B.free Pf.o 1;clear Pm))
      obtain⟨hplain,abI,hbad⟩:=nE.o.plain rfl
      have hlen:n<=s2.ps.length/\s2.ps.length<=n+1:=by
       have hn:=HN.o
       rcases hplain with⟨e,_⟩ | ⟨_,e,_⟩
       · rw[show s2.ps=st.ps from e];omega
       · rw[show s2.ps=st.ps++[FM.au st.ps k] from e,List.length_append,List.length_singleton];omega
      have Xg:w.heap.size<=zb:=by have:=tN.o;omega
      have hLN:=eZ.step (ys:=(fun b=>b=fb∨b=xb∨b=zb)) (fun b hb=>by have s4:=lZ.o.size;have l1:=B.isLt HF.o;have l2:=B.isLt HX.o;have l3:=B.isLt HZ.o;rcases hb with e | e | e <;> rw[e] <;> omega) (Cn.o.trans (Kp.aF lZ.o) (fun _ _ g=>g)) HDX.o Hk.o HL5.o
      have hL6:=(hLN.set HC.o ⟨zb,0,none⟩ (I 0) (.inr (.inr rfl)) Xg).set HC.o ⟨zb,1,none⟩ (I F2) (.inr (.inr rfl)) Xg
      have BF6:=B.other (B.other Pf.o zb 0 (I 0) hzf) zb 1 (I F2) hzf
      obtain⟨W6,hW6⟩:=ex ((w5.setCell ⟨zb,0,none⟩ (I 0)).setCell ⟨zb,1,none⟩ (I F2))
      rw[<- hW6] at hL6 BF6 ⊢
      obtain⟨D6,r6,o6,hg6,tK,hd6,hn6⟩:=hL6
      have acp:=B.isLt BF6
      refine(DY HC.o k d v W6 hg6 (by omega) (by omega) h8 hbad).mono ?_
      rintro e w7 ⟨rfl,Yc⟩
      have BF7:=Yc.keep BF6 (hn6 fb (.inl rfl))
      have hL7:=eZ.step (ys:=fun b=>b=fb) (fun b e=>by rw[e];exact acp) tK hd6 (fun b e=>hn6 b (.inl e)) Yc
      have HL7:=ai hL7
      have HF7:=ai BF7
      have qR:=ai hbad
      have HHL:=ai hlen
      obtain⟨PS,hPS⟩:=ex (s2.ps.set k (PM.doneN (FM.au s2.ps k) (PM.ins d) v))
      rw[<- hPS] at HL7 HD3
      have QS:PS.length=s2.ps.length:=by rw[hPS,List.length_set]
      obtain⟨m,hm⟩:=ex s2.ps.length
      rw[<- hm] at QS hlen
      have Eo:=ai QS
      clear Yc hL7 BF7 BF6 hn6 hd6 tK hg6 hW6 hLN hbad hPS hm hplain abI HL5 K8 Pf y0 y1 y2 y3 t0 t1 t2 t3 g2 BA fK lZ fL SC HAS ac9 p0 p1 p2 p3 p4 p5 p6 p7 p8 p9 TV TU TS g1 Zu Cn HDX Hk z0 z1 f0 f1 e0 e1 QS
      go_wp2
      go_loopw [12] (fun AA wr=>∃j:Nat,n+j<=m/\AA=I ((n+j:Nat):Int)/\eZ (fun b=>b=fb) Hd lo mb gb w D (.slice (some ⟨pb,0,none⟩) n cap) vo { s2 with ps:=gz (PM.ins d) n PS j } wr/\wr.heap[fb]?=some (.cells #[I 0,I 0] 68 (0,0))) (fun AA _=>m-(intOf AA).toNat)
      case atStart=>exact⟨0,by omega,rfl,HL7.o,HF7.o⟩
      case round =>
       obtain⟨j,hj,rfl,hl,hf⟩:=hrel
       have PE:=ai hf
       obtain⟨Dr,rr,orr,hgr,hkr,hdr,fw⟩:=hl
       have Cq:=ai hgr
       have PA:=ai hkr
       have HDR:=ai hdr
       have Tq:=ai fw
       obtain⟨a7,c7,uG,_,_⟩:=aJ hgr.procs
       have abS:rr=.slice a7 m c7:=by
        rw[uG]
        show Value.slice a7 (gz (PM.ins d) n PS j).length c7=_
        rw[gH,Eo.o]
       subst abS
       have x1:=B.cell (v:=.slice a7 m c7) Cq.o.head 1 rfl
       clear hf hgr hkr hdr fw uG
       by_cases hlt:n+j<m
       · have Jl:Hid (Calls Tryz.prog 110 #[.pointer (some ⟨gb,0,none⟩),I ((n+j:Nat):Int),.string d,I 0] wr fun e w'=>e=.returned (.tuple #[])/\GW.Left Hd lo mb gb wr Dr (.slice a7 m c7) orr { s2 with ps:=gz (PM.ins d) n PS (j+1) } w'):=DY HC.o (n+j) d 0 wr Cq.o (by show(gz (PM.ins d) n PS j).length<=1000;rw[gH,Eo.o];omega) (by show n+j<(gz (PM.ins d) n PS j).length;rw[gH,Eo.o];omega) h8 qR.o
         have Yl:((n+j:Nat):Int)<(m:Int):=by omega
         go_wp2_with (go_at_call 110;refine Jl.o.mono ?_;rintro e w8 ⟨rfl,hl8⟩;have HL8:=ai (eZ.step (ys:=fun b=>b=fb) (fun b e=>(by rw[e];exact B.isLt PE.o)) PA.o HDR.o Tq.o hl8);have VA:=ai (hl8.keep PE.o (Tq.o fb rfl));clear hl8)
         go_roundw
         case rel=>exact⟨j+1,by omega,by go_num,HL8.o,VA.o⟩
         case measure=>simp[intOf];omega
       · have hje:j=PS.length-n:=by have:=Eo.o;omega
         have qB:Hid (eZ (fun b=>b=fb) Hd lo mb gb w D (.slice (some ⟨pb,0,none⟩) n cap) vo { s2 with ps:=fZ (PM.ins d) n PS } wr):=by
          show eZ _ _ _ _ _ _ _ _ _ _ _
          rw[<- D8 (PM.ins d) n PS (by have:=Eo.o;omega),<- hje]
          exact⟨Dr,_,orr,Cq.o,PA.o,HDR.o,Tq.o⟩
         have t0:=B.cell (v:=I 0) PE.o 0 rfl
         have t1:=B.cell (v:=I 0) PE.o 1 rfl
         have t2:=B.free PE.o 0
         have t3:=B.free PE.o 1
         have Yl:¬((n+j:Nat):Int)<(m:Int):=by omega
         clear hje
         go_wp2
         refine bodyPost_ret (v:=.agg #[I 0,I 0]) (by simp[results,Tryz.results81,go_sem,t0,t1]) rfl ?_
         rw[HD3.o]
         exact⟨rfl,((qB.o.set HC.o ⟨fb,0,none⟩ _ rfl hfw).set HC.o ⟨fb,1,none⟩ _ rfl hfw).left⟩
    · have hFi:(F1==0)=false:=by rw[beq_eq_false_iff_ne];exact hF1
      have HD3:Hid (RR=((F1,F2),s2)):=by rw[Cs.o,if_pos hF1];exact rfl
      clear Cs hF1
      go_wp2_with (first
       | (go_at_call 108;refine(fL.o _).mono ?_;rintro e w3 ⟨rfl,hb3⟩;have fK:=ai hb3;have lZ:=ai (hb3.alloc hb3.size (.cells #[I k0,I k1,I k2,I k3,I k4] 101));have BA:=ai (B.new w3 #[I k0,I k1,I k2,I k3,I k4] 101);have g2:(w3.alloc (.cells #[I k0,I k1,I k2,I k3,I k4] 101)).cell? ⟨gb,1,none⟩=some (.slice a1 n YP):=(lZ.o.cell (p:=⟨gb,1,none⟩) (B.isLt Zu.o.head)).trans g1;clear hb3)
       | (go_at_call 109;refine(SC.o _ lZ.o).mono ?_;rintro e w5 ⟨rfl,Pm⟩;have HL5:=ai Pm;have K8:=ai (Pm.keep (B.alloc (B.below HZ.o fK.o (B.isLt HZ.o)) _) (Hk.o zb (.inr (.inr rfl))));have Pf:=ai (Pm.keep (B.alloc (B.below HF.o fK.o (B.isLt HF.o)) _) (Hk.o fb (.inl rfl)));have y0:=B.cell (v:=I 0) K8.o 0 rfl;have y1:=B.cell (v:=I X2) K8.o 1 rfl;have y2:=B.free K8.o 0;have y3:=B.free K8.o 1;have t0:=B.cell (v:=I 0) Pf.o 0 rfl;have t1:=B.cell (v:=I 0) Pf.o 1 rfl;have t2:=B.free Pf.o 0;have t3:=B.free Pf.o 1;clear Pm))
      refine bodyPost_ret (v:=.agg #[I F1,I F2]) (by simp[results,Tryz.results81,go_sem,t0,t1]) rfl ?_
      rw[HD3.o]
      have hLN:=eZ.step (ys:=(fun b=>b=fb∨b=xb∨b=zb)) (fun b hb=>by have s4:=lZ.o.size;have l1:=B.isLt HF.o;have l2:=B.isLt HX.o;have l3:=B.isLt HZ.o;rcases hb with e | e | e <;> rw[e] <;> omega) (Cn.o.trans (Kp.aF lZ.o) (fun _ _ g=>g)) HDX.o Hk.o HL5.o
      have Xg:w.heap.size<=zb:=by have:=tN.o;omega
      exact⟨rfl,((((hLN.set HC.o ⟨zb,0,none⟩ _ (.inr (.inr rfl)) Xg).set HC.o ⟨zb,1,none⟩ _ (.inr (.inr rfl)) Xg).set HC.o ⟨fb,0,none⟩ _ (.inl rfl) hfw).set HC.o ⟨fb,1,none⟩ _ (.inl rfl) hfw).left⟩
  · have hXi:(X1==0)=false:=by rw[beq_eq_false_iff_ne];exact hX1
    have Cs:Hid (RR=((X1,X2),{ st with mem:=X3 })):=by rw[Ev.o,if_pos hX1];exact rfl
    clear Ev hX1
    go_wp2
    refine bodyPost_ret (v:=.agg #[I X1,I X2]) (by simp[results,Tryz.results81,go_sem,f0,f1]) rfl ?_
    rw[Cs.o]
    exact⟨rfl,((HL.o.set HC.o ⟨fb,0,none⟩ _ (.inl rfl) hfw).set HC.o ⟨fb,1,none⟩ _ (.inl rfl) hfw).left⟩
end GW
end Go.Proofs.YtkdigjpejnebkaaGreat
