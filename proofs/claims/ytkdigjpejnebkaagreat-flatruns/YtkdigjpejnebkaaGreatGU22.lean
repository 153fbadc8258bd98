import Derived.Test.YtkdigjpejnebkaaGreatGU00
import Derived.Test.YtkdigjpejnebkaaGreatGU21
import Derived.Test.YtkdigjpejnebkaaGreatGU11
import Derived.Test.YtkdigjpejnebkaaGreatGU19
import Derived.Test.YtkdigjpejnebkaaGreatGU08
set_option maxHeartbeats 20000000
set_option linter.unusedVariables false
set_option maxRecDepth 100000
set_option linter.unusedSimpArgs false
namespace Go.Proofs.YtkdigjpejnebkaaGreat
namespace GW
open Go.RowKit GK GG
open FW (ai aB)
variable {σ:Type} {Hd:World->(Nat->Prop)->σ->Prop} {Ok:σ->List Bool->Prop} {o:vM σ} {lo mb gb:Nat} {D:Nat->Prop} {vr vo:Value} {st:St σ}
theorem Ry (C:gP lo mb Hd Ok o) (k:Nat) (a v:Int) (m:Nat) (w:World) (h:km Hd lo mb gb w D vr vo st) (hok:lZ Ok st) (hk:k<st.ps.length) (h1:(FM.au st.ps k).st=1) (R:(Int×(Int×Int))×St σ) (ha:M.dF a) (z6:1<=m) (K6:m<=8) (hR:R=((0,(o.store st.mem k a (kQ v m)).1),{ st with mem:=(o.store st.mem k a (kQ v m)).2 })) :
  Calls Tryz.prog 109 #[.pointer (some (Ad gb 0)),I (k:Int),.agg #[I 2,I a,I (m:Int),I v,I 0]] w fun e w'=>e=.returned (.tuple #[I R.1.1,.agg (FW.dm R.1.2)])/\Left Hd lo mb gb w D vr vo R.2 w':=by
 have HG:=ai h
 have HC:=ai C
 have tH:=ai hok
 have qA:=ai (ek k hk h1)
 have qp:=ai hk
 have KX:=ai h1
 have HR:=ai hR
 have vH:st.ps.length<=4:=by have:=C.ok.few _ _ hok.mem;unfold running at this;rw[List.length_map] at this;exact this
 have oC:=ai (hok.fit k hk)
 have hgb:=B.isLt h.head
 have g0:w.cell? (Ad gb 0)=some (.iface 144 (.pointer (some (Ad mb 0)))):=B.cell h.head 0 rfl
 have g1:w.cell? (Ad gb 1)=some vr:=B.cell h.head 1 rfl
 have cY:=ai (((Below.refl w.heap.size w).alloc (Nat.le_refl _) (.cells #[I 2,I a,I (m:Int),I v,I 0] 101)).alloc (by simp) (.cells #[I 0,I 0] 68))
 have BX:=ai (B.alloc (B.new w #[I 2,I a,I (m:Int),I v,I 0] 101) (.cells #[I 0,I 0] 68))
 have BY:Hid (((w.alloc (.cells #[I 2,I a,I (m:Int),I v,I 0] 101)).alloc (.cells #[I 0,I 0] 68)).heap[w.heap.size+1]?=some (.cells #[I 0,I 0] 68 (0,0))):=by
  have:=B.new (w.alloc (.cells #[I 2,I a,I (m:Int),I v,I 0] 101)) #[I 0,I 0] 68
  rw[World.size_alloc] at this
  exact this
 clear hR hok
 have zu:Hid (∀V,Calls Tryz.prog 127 #[I v,I (m:Int)] V fun e w'=>e=.returned (.tuple #[.string (kQ v m),I 0])/\Below V.heap.size V w'):=fun V=>by
  have:=CW.PX v m V z6 K6
  unfold kQ
  rw[Int.toNat_natCast]
  exact this
 have hds:(kQ v m).size=m:=by
  unfold kQ
  rw[Int.toNat_natCast]
  show(Lib.leBytes m (CM.low v)).toArray.size=m
  simp[Lib.leBytes_length]
 have HST:Hid (∀V,Below w.heap.size w V->Calls Tryz.prog 195 #[.pointer (some (Ad mb 0)),I (k:Int),I a,.string (kQ v m)] V (Out Hd V D (.agg (FW.dm (o.store st.mem k a (kQ v m)).1)) (o.store st.mem k a (kQ v m)).2)):=fun V hV=>C.store V D st.mem _ k a (kQ v m) (h.below C hV).mem tH.o.mem qA.o ha (by omega) (by omega)
 obtain⟨X,hX⟩:=ex (o.store st.mem k a (kQ v m))
 rw[<- hX] at HST HR
 obtain⟨d,hd⟩:=ex (kQ v m)
 rw[<- hd] at zu HST
 obtain⟨⟨X1,X2⟩,X3⟩:=X
 unfold FW.dm at HST
 simp only at HST HR
 have hm:=De (Ad mb 0)
 have hah:=G3 (Ad mb 0)
 clear h C hX h1 hd hds
 go_enter Tryz.func109,Tryz.ntmps109
 go_wp2_with (go_at_call 127;refine(zu.o _).mono ?_;rintro e w1 ⟨rfl,hb1⟩;have bj:=ai (cY.o.trans (hb1.mono cY.o.size));have SF:=ai (B.below BX.o hb1 (B.isLt BX.o));have tO:=ai (B.below BY.o hb1 (B.isLt BY.o));clear hb1)
 have ow:=ai (HG.o.below HC.o bj.o)
 obtain⟨xb,nA⟩:=ex w.heap.size
 rw[<- nA] at SF tO ⊢
 have tL:=ai nA
 have HS:Hid (∀V,Kp D w1 V->V.cell? (Ad gb 0)=some (.iface 144 (.pointer (some (Ad mb 0))))/\V.cell? (Ad xb 1)=some (I a)):=fun V hb=>by
  have h1:=hb.keep SF.o (fun g=>by have:=HC.o.dom _ _ _ HG.o.mem _ g;have:=tL.o;omega)
  have h2:=hb.keep ow.o.head ow.o.n1
  exact⟨B.cell h2 0 rfl,B.cell h1 1 rfl⟩
 have cw:=ai (HS.o _ (Kp.drew _ _))
 have I5:Hid (∀V:World,(V.cell? (Ad gb 0)=some (.iface 144 (.pointer (some (Ad mb 0))))/\V.cell? (Ad xb 1)=some (I a))->∀v0 v1,(((V.setCell (Ad (xb+1) 0) v0).setCell (Ad (xb+1) 1) v1).cell? (Ad gb 0)=some (.iface 144 (.pointer (some (Ad mb 0))))/\((V.setCell (Ad (xb+1) 0) v0).setCell (Ad (xb+1) 1) v1).cell? (Ad xb 1)=some (I a))):=fun V ⟨h0,h1⟩ v0 v1=>by
  have hne:xb≠xb+1:=by omega
  have xD:gb≠xb+1:=by have:=tL.o;omega
  rw[bQ _ _ _ _ _ _ hne,bQ _ _ _ _ _ _ hne,bQ _ _ _ _ _ _ xD,bQ _ _ _ _ _ _ xD]
  exact⟨h0,h1⟩
 clear nA zu g0 g1
 go_region_held3 (fun V=>V.cell? (Ad gb 0)=some (.iface 144 (.pointer (some (Ad mb 0))))/\V.cell? (Ad xb 1)=some (I a)) (first | exact tG.o _ _ | exact ql.o | exact cw.o)
  (first | (go_at_call 195;refine(HST.o _ bj.o.drew).mono ?_;rintro e w2 ⟨D2,rfl,hm2,hk2,hd2⟩;have ql:=ai (HS.o _ ((Kp.drew D w1).trans hk2 (fun _ _ g=>g)));have tG:=ai (I5.o w2 ql.o);have oa:=ai (fc.behind HC.o HG.o bj.o.drew (Left.pd HC.o (HG.o.below HC.o bj.o.drew) hm2 hk2 hd2));have EP:=ai (hk2.keep (w:=w1.drew) tO.o (fun g=>(by have:=HC.o.dom _ _ _ HG.o.mem _ g;have:=tL.o;omega)));have y0:=B.cell (v:=I 0) EP.o 0 rfl;have y1:=B.cell (v:=I 0) EP.o 1 rfl;have z0:=B.free EP.o 0;have z1:=B.free EP.o 1;clear hm2 hk2 hd2))
 clear tG I5 HS cw ql
 go_wp2
 refine bodyPost_ret (v:=.tuple #[I 0,.agg #[I X1,I X2]]) (by simp[results,Tryz.results109,go_sem,y0,y1]) rfl ?_
 rw[HR.o]
 have hy:w.heap.size<=xb+1/\xb+1<w1.drew.heap.size:=⟨by have:=tL.o;omega,B.isLt tO.o⟩
 exact⟨rfl,((oa.o.set HC.o (Ad (xb+1) 0) _ hy hy.1).set HC.o (Ad (xb+1) 1) _ hy hy.1).left⟩
variable {σ:Type} {Hd:World->(Nat->Prop)->σ->Prop} {Ok:σ->List Bool->Prop} {o:vM σ} {lo mb gb:Nat} {D:Nat->Prop} {vr vo:Value} {st:St σ}
theorem Rz (C:gP lo mb Hd Ok o) (k:Nat) (a n:Int) (w:World) (h:km Hd lo mb gb w D vr vo st) (hok:lZ Ok st) (hk:k<st.ps.length) (h1:(FM.au st.ps k).st=1) (R:(Int×(Int×Int))×St σ) (ha:M.dF a) (z6:1<=n) (K6:n<=8) (hR:R=((rB (o.load st.mem k a n 0).1.1,(o.load st.mem k a n 0).1.2),{ st with mem:=(o.load st.mem k a n 0).2 })) :
  Calls Tryz.prog 109 #[.pointer (some (Ad gb 0)),I (k:Int),.agg #[I 1,I a,I n,I 0,I 0]] w fun e w'=>e=.returned (.tuple #[I R.1.1,.agg (FW.dm R.1.2)])/\Left Hd lo mb gb w D vr vo R.2 w':=by
 have HG:=ai h
 have HC:=ai C
 have tH:=ai hok
 have qA:=ai (ek k hk h1)
 have qp:=ai hk
 have KX:=ai h1
 have HR:=ai hR
 have vH:st.ps.length<=4:=by have:=C.ok.few _ _ hok.mem;unfold running at this;rw[List.length_map] at this;exact this
 have oC:=ai (hok.fit k hk)
 have hgb:=B.isLt h.head
 have g0:w.cell? (Ad gb 0)=some (.iface 144 (.pointer (some (Ad mb 0)))):=B.cell h.head 0 rfl
 have g1:w.cell? (Ad gb 1)=some vr:=B.cell h.head 1 rfl
 have cY:=ai (((Below.refl w.heap.size w).alloc (Nat.le_refl _) (.cells #[I 1,I a,I n,I 0,I 0] 101)).alloc (by simp) (.cells #[I 0,I 0] 68))
 have BX:=ai (B.alloc (B.new w #[I 1,I a,I n,I 0,I 0] 101) (.cells #[I 0,I 0] 68))
 have BY:Hid (((w.alloc (.cells #[I 1,I a,I n,I 0,I 0] 101)).alloc (.cells #[I 0,I 0] 68)).heap[w.heap.size+1]?=some (.cells #[I 0,I 0] 68 (0,0))):=by
  have:=B.new (w.alloc (.cells #[I 1,I a,I n,I 0,I 0] 101)) #[I 0,I 0] 68
  rw[World.size_alloc] at this
  exact this
 clear hR hok
 have HGT:Hid (∀V,Calls Tryz.prog 126 #[.string (o.load st.mem k a n 0).1.1] V fun e w'=>∃x,e=.returned (.tuple #[I (rB (o.load st.mem k a n 0).1.1),I x])/\V=w'):=fun V=>by
  have h1:=C.ok.size st.mem _ k a n 0 tH.o.mem qA.o z6 K6
  have h2:=C.ok.none st.mem _ k a n 0 tH.o.mem qA.o
  unfold rB
  by_cases c:(o.load st.mem k a n 0).1.2.1=0
  · have:=h1 c
    rw[if_pos (by omega)]
    exact(CW.IE _ V (by omega) (by omega)).mono fun e w' ⟨g1,g2⟩=>⟨0,g1,g2⟩
  · rw[h2 c,if_neg (by decide)]
    exact(CW.UY _ V (by unfold maxLen;decide) (by decide)).mono fun e w' ⟨g1,g2⟩=>⟨3,g1,g2⟩
 have OJ:Hid (∀V,Below w.heap.size w V->Calls Tryz.prog 192 #[.pointer (some (Ad mb 0)),I (k:Int),I a,I n,I 0] V (Out Hd V D (.tuple #[.string (o.load st.mem k a n 0).1.1,.agg (FW.dm (o.load st.mem k a n 0).1.2)]) (o.load st.mem k a n 0).2)):=fun V hV=>C.load V D st.mem _ k a n 0 (h.below C hV).mem tH.o.mem qA.o ha z6 K6 (.inl rfl)
 obtain⟨X,hX⟩:=ex (o.load st.mem k a n 0)
 rw[<- hX] at OJ HR HGT
 obtain⟨⟨d,X1,X2⟩,X3⟩:=X
 unfold FW.dm at OJ
 simp only at OJ HR HGT
 obtain⟨G,hGe⟩:=ex (rB d)
 rw[<- hGe] at HGT HR
 have hm:=xm (Ad mb 0)
 have hah:=Ak (Ad mb 0)
 clear h C hX h1 hGe
 go_enter Tryz.func109,Tryz.ntmps109
 go_wp2_with fail
 obtain⟨WA,gw⟩:=ex ((w.alloc (.cells #[I 1,I a,I n,I 0,I 0] 101)).alloc (.cells #[I 0,I 0] 68))
 rw[<- gw] at cY BX BY ⊢
 obtain⟨xb,nA⟩:=ex w.heap.size
 rw[<- nA] at BX BY ⊢
 have tL:=ai nA
 have ow:=ai (HG.o.below HC.o cY.o)
 have HS:Hid (∀V,Kp D WA V->V.cell? (Ad gb 0)=some (.iface 144 (.pointer (some (Ad mb 0))))/\V.cell? (Ad xb 1)=some (I a)/\V.cell? (Ad xb 2)=some (I n)):=fun V hb=>by
  have h1:=hb.keep BX.o (fun g=>by have:=HC.o.dom _ _ _ HG.o.mem _ g;have:=tL.o;omega)
  have h2:=hb.keep ow.o.head ow.o.n1
  exact⟨B.cell h2 0 rfl,B.cell h1 1 rfl,B.cell h1 2 rfl⟩
 have cw:=ai (HS.o _ (Kp.drew _ _))
 have Cg:=ai (HS.o (WA.alloc (.cells #[I 0,I 0] 68)).drew ((Kp.alloc _ _ _).trans (Kp.drew _ _) (fun _ _ g=>g)))
 have cM:=ai cY.o.drew
 have bj:=ai (cY.o.alloc cY.o.size (.cells #[I 0,I 0] 68)).drew
 have hlx:=B.isLt BY.o
 have HNY:Hid (¬D (xb+1)):=fun g=>by have:=HC.o.dom _ _ _ HG.o.mem _ g;have:=tL.o;omega
 have HNZ:Hid (¬D WA.heap.size):=fun g=>by have:=HC.o.dom _ _ _ HG.o.mem _ g;have:=cY.o.size;omega
 clear nA gw g0 g1
 go_cut [8,9] (fun x8 x9 wx=>∃zb,x8=.string d/\x9=.pointer (some (Ad zb 0))/\wx.heap[zb]?=some (.cells #[I X1,I X2] 68 (0,0))/\wx.heap[xb+1]?=some (.cells #[I 0,I 0] 68 (0,0))/\fc (fun b=>b=xb+1) Hd lo mb gb w D vr vo { st with mem:=X3 } wx)
 case first =>
  have I5:Hid (∀(V:World) (g:Nat),xb+1<g->(V.cell? (Ad gb 0)=some (.iface 144 (.pointer (some (Ad mb 0))))/\V.cell? (Ad xb 1)=some (I a)/\V.cell? (Ad xb 2)=some (I n))->∀v0 v1,((V.setCell (Ad g 0) v0).setCell (Ad g 1) v1).cell? (Ad gb 0)=some (.iface 144 (.pointer (some (Ad mb 0))))/\((V.setCell (Ad g 0) v0).setCell (Ad g 1) v1).cell? (Ad xb 1)=some (I a)/\((V.setCell (Ad g 0) v0).setCell (Ad g 1) v1).cell? (Ad xb 2)=some (I n)):=fun V g hg ⟨h0,h1,h2⟩ v0 v1=>by
   have hne:xb≠g:=by omega
   have xD:gb≠g:=by have:=tL.o;omega
   rw[bQ _ _ _ _ _ _ hne,bQ _ _ _ _ _ _ hne,bQ _ _ _ _ _ _ hne,bQ _ _ _ _ _ _ hne,bQ _ _ _ _ _ _ xD,bQ _ _ _ _ _ _ xD]
   exact⟨h0,h1,h2⟩
  go_region_held3 (fun V=>V.cell? (Ad gb 0)=some (.iface 144 (.pointer (some (Ad mb 0))))/\V.cell? (Ad xb 1)=some (I a)/\V.cell? (Ad xb 2)=some (I n)) (first | exact cw.o | exact Cg.o | exact ql.o | exact yx.o _ | exact tG.o _ _ | exact tM.o _ _ _)
   (first | (go_at_call 192;refine(OJ.o _ (by first | exact cM.o | exact bj.o)).mono ?_;rintro e w2 ⟨D2,rfl,hm2,hk2,hd2⟩;have OO:Hid (Kp D WA w2):=(by first | exact(Kp.drew D WA).trans hk2 (fun _ _ g=>g) | exact((Kp.alloc D WA (.cells #[I 0,I 0] 68)).trans (Kp.drew D _) (fun _ _ g=>g)).trans hk2 (fun _ _ g=>g));have ql:=ai (HS.o _ OO.o);have yx:=ai (fun ob=>HS.o _ (OO.o.trans (Kp.alloc D w2 ob) (fun _ _ g=>g)));have tG:=ai (I5.o w2 WA.heap.size hlx ql.o);have tM:=ai (fun ob=>I5.o (w2.alloc ob) w2.heap.size (Nat.lt_of_lt_of_le hlx OO.o.size) (yx.o ob));have oa:=ai (fc.behind HC.o HG.o (by first | exact cM.o | exact bj.o) (Left.pd HC.o (HG.o.below HC.o (by first | exact cM.o | exact bj.o)) hm2 hk2 hd2));have EP:Hid (w2.heap[xb+1]?=some (.cells #[I 0,I 0] 68 (0,0))):=OO.o.keep BY.o HNY.o;(try (have mQ:=ai (hk2.keep (w:=(WA.alloc (.cells #[I 0,I 0] 68)).drew) (B.new WA #[I 0,I 0] 68) HNZ.o);have z0:=B.cell (v:=I 0) mQ.o 0 rfl;have z1:=B.cell (v:=I 0) mQ.o 1 rfl;have z2:=B.free mQ.o 0;have z3:=B.free mQ.o 1));clear hm2 hk2 hd2))
  all_goals
   go_wp2_with fail
   go_meet
   case rel =>
    first
    | exact⟨_,rfl,rfl,B.new w2 _ _,B.alloc EP.o _,(oa.o.more HC.o ((Below.refl _ _).alloc (Nat.le_refl _) _)).sub (fun b e=>by subst e;exact⟨by have:=tL.o;omega,hlx⟩)⟩
    | exact⟨_,rfl,rfl,B.set (B.set mQ.o 0 _) 1 _,B.other (B.other EP.o WA.heap.size 0 _ (by omega)) WA.heap.size 1 _ (by omega),((oa.o.set HC.o (Ad WA.heap.size 0) _ ⟨cY.o.size,by show WA.heap.size<(WA.alloc _).heap.size;rw[World.size_alloc];omega⟩ cY.o.size).set HC.o (Ad WA.heap.size 1) _ ⟨cY.o.size,by show WA.heap.size<(WA.alloc _).heap.size;rw[World.size_alloc];omega⟩ cY.o.size).sub (fun b e=>by subst e;exact⟨by have:=tL.o;omega,by show _<(WA.alloc _).heap.size;rw[World.size_alloc];omega⟩)⟩
 case rest =>
  obtain⟨zb,rfl,rfl,hz,hy,hl⟩:=hcut
  have HZ:=ai hz
  have HY:=ai hy
  have HL:=ai hl
  have z0:=B.cell (v:=I X1) hz 0 rfl
  have z1:=B.cell (v:=I X2) hz 1 rfl
  have y0:=B.cell (v:=I 0) hy 0 rfl
  have y1:=B.cell (v:=I 0) hy 1 rfl
  have f0:=B.free hy 0
  have f1:=B.free hy 1
  clear hz hy hl HS cw Cg cM bj
  go_wp2_with (go_at_call 126;refine(HGT.o _).mono ?_;rintro e w3 ⟨x,rfl,rfl⟩)
  go_region
  all_goals
   go_wp2
   refine bodyPost_ret (v:=.tuple #[I G,.agg #[I X1,I X2]]) (by simp[results,Tryz.results109,go_sem,y0,y1]) rfl ?_
   rw[HR.o]
   exact⟨rfl,(((HL.o.more HC.o (Below.refl _ _).drew).set HC.o (Ad (xb+1) 0) _ rfl (by show w.heap.size<=xb+1;have:=tL.o;omega)).set HC.o (Ad (xb+1) 1) _ rfl (by show w.heap.size<=xb+1;have:=tL.o;omega)).left⟩
theorem pJ {i:PM.ey} (hb:i.bad=false) (h:i.op=9∨i.op=10):1<=i.c/\i.c<=8:=by
 unfold PM.ey.bad at hb
 rw[if_neg (by omega),if_neg (by omega),if_neg (by omega),if_neg (by omega),if_neg (by omega),if_pos h] at hb
 unfold PM.dL at hb
 simp at hb
 omega
theorem Og {i:PM.ey} (hb:i.bad=false) (h:i.op=16):1<=i.m/\i.m<=6:=by
 unfold PM.ey.bad at hb
 rw[if_neg (by omega),if_pos h] at hb
 simpa using hb
theorem G0 (C:gP lo mb Hd Ok o) (k:Nat) (i:PM.ey) (w:World) (h:km Hd lo mb gb w D vr vo st) (hok:lZ Ok st) (hk:k<st.ps.length) (h1:(FM.au st.ps k).st=1) :
  Calls Tryz.prog 109 #[.pointer (some (Ad gb 0)),I (k:Int),.agg (PM.j6 (FM.au st.ps k) i)] w fun e w'=>e=.returned (.tuple #[I (bJ o st k i).1.1,.agg (FW.dm (bJ o st k i).1.2)])/\Left Hd lo mb gb w D vr vo (bJ o st k i).2 w':=by
 by_cases hb:i.bad=true
 · have e1:PM.j6 (FM.au st.ps k) i=#[I 4,I 0,I 0,I 0,I 0]:=by unfold PM.j6;rw[if_pos hb]
   rw[e1]
   exact Rw C k w h hok hk h1 _ (by unfold bJ;rw[if_pos hb])
 · have hb':i.bad=false:=by simpa using hb
   by_cases c9:i.op=9
   · have hsz:=pJ hb' (.inl c9)
     have e1:PM.j6 (FM.au st.ps k) i=#[I 1,I (wrap64 ((FM.au st.ps k).r i.b.toNat+i.m)),I i.c,I 0,I 0]:=by unfold PM.j6;rw[if_neg hb,if_pos c9]
     rw[e1]
     exact Rz C k _ _ w h hok hk h1 _ (fR _) hsz.1 hsz.2 (by unfold bJ;rw[if_neg hb,if_pos c9])
   · by_cases c10:i.op=10
     · have hsz:=pJ hb' (.inr c10)
       obtain⟨m,hm⟩:∃m:Nat,i.c=(m:Int):=⟨i.c.toNat,by omega⟩
       have e1:PM.j6 (FM.au st.ps k) i=#[I 2,I (wrap64 ((FM.au st.ps k).r i.b.toNat+i.m)),I (m:Int),I ((FM.au st.ps k).r i.a.toNat),I 0]:=by unfold PM.j6;rw[if_neg hb,if_neg c9,if_pos c10,hm]
       rw[e1]
       exact Ry C k _ _ m w h hok hk h1 _ (fR _) (by omega) (by omega) (by unfold bJ;rw[if_neg hb,if_neg c9,if_pos c10,hm])
     · by_cases c16:i.op=16
       · have e1:PM.j6 (FM.au st.ps k) i=#[I 3,I 0,I 0,I 0,I i.m]:=by unfold PM.j6;rw[if_neg hb,if_neg c9,if_neg c10,if_pos c16]
         rw[e1]
         exact Rx C k i.m w h hok hk h1 _ (Og hb' c16) (by unfold bJ;rw[if_neg hb,if_neg c9,if_neg c10,if_pos c16])
       · have e1:PM.j6 (FM.au st.ps k) i=#[I 0,I 0,I 0,I 0,I 0]:=by unfold PM.j6;rw[if_neg hb,if_neg c9,if_neg c10,if_neg c16]
         rw[e1]
         exact RA C k w h hok hk h1 _ (by unfold bJ;rw[if_neg hb,if_neg c9,if_neg c10,if_neg c16])
variable {σ:Type} {Hd:World->(Nat->Prop)->σ->Prop} {Ok:σ->List Bool->Prop} {o:vM σ} {lo mb gb:Nat} {D:Nat->Prop} {vr vo:Value} {st:St σ}
theorem DU (C:gP lo mb Hd Ok o) (k:Nat) (s:ByteArray) (v:Int) (w:World) (h:km Hd lo mb gb w D vr vo st) (vH:st.ps.length<=1000) (hk:k<st.ps.length) (h8:s.size=8) (hbad:(PM.ins s).bad=false) :
  Calls Tryz.prog 110 #[.pointer (some (Ad gb 0)),I (k:Int),.string s,I v] w fun e w'=>e=.returned (.tuple #[])/\Left Hd lo mb gb w D vr vo { st with ps:=st.ps.set k (PM.doneN (FM.au st.ps k) (PM.ins s) v) } w':=by
 have HG:=ai h
 have HC:=ai C
 obtain⟨pb,cap,nu,hpb,hpc,uN⟩:=h.proc k hk
 have dI:=ai hpc
 have Vn:=ai uN
 have Jb:=ai (fun V=>PW.NQ (FM.au st.ps k) s v V h8 hbad)
 obtain⟨q,hq⟩:=ex (FM.au st.ps k)
 rw[<- hq] at dI Jb ⊢
 obtain⟨N,hN⟩:=ex (PM.doneN q (PM.ins s) v)
 rw[<- hN] at Jb ⊢
 obtain⟨n,hn⟩:=ex st.ps.length
 rw[<- hn] at nu hk vH
 have HN:=ai hn
 subst nu
 have jd:(k:Int)<(n:Int):=by omega
 have Cq:Hid (∀V,Calls Tryz.prog 129 #[.agg #[I (q.r 0),I (q.r 1),I (q.r 2),I (q.r 3),I (q.r 4),I (q.r 5),I (q.r 6),I (q.r 7),I q.pc,I q.st,I q.cd,I q.fk,I q.fa],.string s,I v] V fun e w'=>e=.returned (.tuple #[.agg #[I (N.r 0),I (N.r 1),I (N.r 2),I (N.r 3),I (N.r 4),I (N.r 5),I (N.r 6),I (N.r 7),I N.pc,I N.st,I N.cd,I N.fk,I N.fa],I 0])/\Below V.heap.size V w'):=Jb
 have g1:w.cell? (Ad gb 1)=some (.slice (some (Ad pb 0)) n cap):=B.cell HG.o.head 1 rfl
 have hgb:=B.isLt HG.o.head
 have c0:w.cell? (Ad pb (k*13))=some (I (q.r 0)):=dI.o 0 (by omega)
 have c1:w.cell? (Ad pb (k*13+1))=some (I (q.r 1)):=dI.o 1 (by omega)
 have c2:w.cell? (Ad pb (k*13+2))=some (I (q.r 2)):=dI.o 2 (by omega)
 have c3:w.cell? (Ad pb (k*13+3))=some (I (q.r 3)):=dI.o 3 (by omega)
 have c4:w.cell? (Ad pb (k*13+4))=some (I (q.r 4)):=dI.o 4 (by omega)
 have c5:w.cell? (Ad pb (k*13+5))=some (I (q.r 5)):=dI.o 5 (by omega)
 have c6:w.cell? (Ad pb (k*13+6))=some (I (q.r 6)):=dI.o 6 (by omega)
 have c7:w.cell? (Ad pb (k*13+7))=some (I (q.r 7)):=dI.o 7 (by omega)
 have c8:w.cell? (Ad pb (k*13+8))=some (I q.pc):=dI.o 8 (by omega)
 have c9:w.cell? (Ad pb (k*13+9))=some (I q.st):=dI.o 9 (by omega)
 have c10:w.cell? (Ad pb (k*13+10))=some (I q.cd):=dI.o 10 (by omega)
 have c11:w.cell? (Ad pb (k*13+11))=some (I q.fk):=dI.o 11 (by omega)
 have c12:w.cell? (Ad pb (k*13+12))=some (I q.fa):=dI.o 12 (by omega)
 have jI:=ai (Below.refl w.heap.size w).drew
 clear hq hN hn hpc uN h C Jb dI h8 hbad
 go_enter Tryz.func110,Tryz.ntmps110
 go_wp2_with fail
 go_region_law (go_simp;go_at_call 129;refine(Cq.o _).mono ?_;rintro e w1 ⟨rfl,Yz⟩;have hb1:=jI.o.trans Yz;have bj:=ai hb1;have d0:w1.cell? (Ad pb (k*13))=some (I (q.r 0)):=(hb1.cell (p:=(Ad pb (k*13))) hpb).trans c0;have d1:w1.cell? (Ad pb (k*13+1))=some (I (q.r 1)):=(hb1.cell (p:=(Ad pb (k*13+1))) hpb).trans c1;have d2:w1.cell? (Ad pb (k*13+2))=some (I (q.r 2)):=(hb1.cell (p:=(Ad pb (k*13+2))) hpb).trans c2;have d3:w1.cell? (Ad pb (k*13+3))=some (I (q.r 3)):=(hb1.cell (p:=(Ad pb (k*13+3))) hpb).trans c3;have d4:w1.cell? (Ad pb (k*13+4))=some (I (q.r 4)):=(hb1.cell (p:=(Ad pb (k*13+4))) hpb).trans c4;have d5:w1.cell? (Ad pb (k*13+5))=some (I (q.r 5)):=(hb1.cell (p:=(Ad pb (k*13+5))) hpb).trans c5;have d6:w1.cell? (Ad pb (k*13+6))=some (I (q.r 6)):=(hb1.cell (p:=(Ad pb (k*13+6))) hpb).trans c6;have d7:w1.cell? (Ad pb (k*13+7))=some (I (q.r 7)):=(hb1.cell (p:=(Ad pb (k*13+7))) hpb).trans c7;have d8:w1.cell? (Ad pb (k*13+8))=some (I q.pc):=(hb1.cell (p:=(Ad pb (k*13+8))) hpb).trans c8;have d9:w1.cell? (Ad pb (k*13+9))=some (I q.st):=(hb1.cell (p:=(Ad pb (k*13+9))) hpb).trans c9;have d10:w1.cell? (Ad pb (k*13+10))=some (I q.cd):=(hb1.cell (p:=(Ad pb (k*13+10))) hpb).trans c10;have d11:w1.cell? (Ad pb (k*13+11))=some (I q.fk):=(hb1.cell (p:=(Ad pb (k*13+11))) hpb).trans c11;have d12:w1.cell? (Ad pb (k*13+12))=some (I q.fa):=(hb1.cell (p:=(Ad pb (k*13+12))) hpb).trans c12;have f1:∀j,w1.frozen? (Ad pb j)=false:=(fun j=>(hb1.frozen (p:=(Ad pb j)) hpb).trans (Vn.o j));have x1:w1.cell? (Ad gb 1)=some (.slice (some (Ad pb 0)) n cap):=(hb1.cell (p:=(Ad gb 1)) hgb).trans g1;clear hb1 Yz;go_simp)
 all_goals
  clear Cq Vn
  go_wp2
  go_end0
  exact⟨rfl,Left.after bj.o ((HG.o.below HC.o bj.o).E5 HC.o k (by rw[<- HN.o];exact hk) HN.o N)⟩
end GW
namespace GG
open Go.RowKit
def gy (i:PM.ey) (n:Nat) (ps:List PM.Pr):Nat->List PM.Pr
 | 0=>ps
 | j+1=>(gy i n ps j).set (n+j) (PM.doneN (FM.au (gy i n ps j) (n+j)) i 0)
theorem gI (i:PM.ey) (n:Nat) (ps:List PM.Pr):∀j,(gy i n ps j).length=ps.length
 | 0=>rfl
 | j+1=>by show((gy i n ps j).set _ _).length=_;rw[List.length_set];exact gI i n ps j
theorem u7 (i:PM.ey) (n:Nat) (ps:List PM.Pr):∀j m,n+j<=ps.length->(gy i n ps j)[m]?=if n<=m/\m<n+j then ps[m]?.map (fun p=>PM.doneN p i 0) else ps[m]?
 | 0,m,_=>by rw[if_neg (by omega)];rfl
 | j+1,m,h=>by
  show((gy i n ps j).set (n+j) (PM.doneN (FM.au (gy i n ps j) (n+j)) i 0))[m]?=_
  have ih:=u7 i n ps j
  have hl:=gI i n ps j
  rw[List.getElem?_set]
  by_cases e:n+j=m
  · subst e
    have hlt:n+j<ps.length:=by omega
    rw[if_pos rfl,if_pos (by omega),if_pos (by omega),List.getElem?_eq_getElem hlt]
    have hq:FM.au (gy i n ps j) (n+j)=ps[n+j]:=by
     unfold FM.au
     rw[List.getD_eq_getElem?_getD,ih (n+j) (by omega),if_neg (by omega),List.getElem?_eq_getElem hlt]
     rfl
    rw[hq]
    rfl
  · rw[if_neg e,ih m (by omega)]
    by_cases c:n<=m/\m<n+j
    · rw[if_pos c,if_pos (by omega)]
    · rw[if_neg c,if_neg (by omega)]
theorem D3 (i:PM.ey) (n:Nat) (ps:List PM.Pr) (h:n<=ps.length):gy i n ps (ps.length-n)=fX i n ps:=by
 apply List.ext_getElem?
 intro m
 rw[u7 i n ps _ m (by omega)]
 unfold fX
 by_cases c:m<n
 · rw[if_neg (by omega),List.getElem?_append_left (by rw[List.length_take];omega),List.getElem?_take_of_lt c]
 · rw[List.getElem?_append_right (by rw[List.length_take];omega),List.length_take,Nat.min_eq_left h,List.getElem?_map,List.getElem?_drop,show n+(m-n)=m by omega]
   by_cases c2:m<ps.length
   · rw[if_pos (by omega)]
   · rw[if_neg (by omega),List.getElem?_eq_none (by omega)];rfl
end GG
namespace GW
open Go.RowKit GK GG
open FW (ai aB)
variable {σ:Type} {Hd:World->(Nat->Prop)->σ->Prop} {Ok:σ->List Bool->Prop} {o:vM σ} {lo mb gb:Nat} {D:Nat->Prop} {vr vo:Value} {st:St σ}
theorem tF (p:PM.Pr) (i:PM.ey):∃k0 k1 k2 k3 k4,PM.j6 p i=#[I k0,I k1,I k2,I k3,I k4]:=by
 unfold PM.j6
 repeat' split
 all_goals exact⟨_,_,_,_,_,rfl⟩
theorem U7 (C:gP lo mb Hd Ok o) (k:Nat) (w:World) (h:km Hd lo mb gb w D vr vo st) (hok:lZ Ok st) (hk:k<st.ps.length) (h1:(FM.au st.ps k).st=1) :
  Calls Tryz.prog 81 #[.pointer (some ⟨gb,0,none⟩),I (k:Int)] w fun e w'=>e=.returned (.agg (FW.dm (oM o st k).1))/\GW.Left Hd lo mb gb w D vr vo (oM o st k).2 w':=by
 have HG:=ai h
 have HC:=ai C
 have tH:=ai hok
 have hlv:=ek k hk h1
 have qA:=ai hlv
 have qp:=ai hk
 have KX:=ai h1
 have vH:st.ps.length<=4:=by have:=C.ok.few _ _ hok.mem;unfold running at this;rw[List.length_map] at this;exact this
 have oC:=ai (hok.fit k hk)
 have hgb:=B.isLt h.head
 obtain⟨pb,cap,nu,hpb,hpc,uN⟩:=h.proc k hk
 have dI:=ai hpc
 have OJ:Hid (∀V,Below w.heap.size w V->Calls Tryz.prog 192 #[.pointer (some ⟨mb,0,none⟩),I (k:Int),I (FM.au st.ps k).pc,I 8,I 2] V (Out Hd V D (.tuple #[.string (o.load st.mem k (FM.au st.ps k).pc 8 2).1.1,.agg (FW.dm (o.load st.mem k (FM.au st.ps k).pc 8 2).1.2)]) (o.load st.mem k (FM.au st.ps k).pc 8 2).2)):=fun V hV=>C.load V D st.mem _ k _ 8 2 (h.below C hV).mem hok.mem hlv (hok.fit k hk).2 (by omega) (by omega) (.inr rfl)
 have tM:=ai (C.ok.size st.mem _ k (FM.au st.ps k).pc 8 2 hok.mem hlv (by omega) (by omega))
 have Vy:=ai (C.ok.load st.mem _ k (FM.au st.ps k).pc 8 2 hok.mem hlv)
 have Eo:Hid (oM o st k=(if ¬(o.load st.mem k (FM.au st.ps k).pc 8 2).1.2.1=0 then ((o.load st.mem k (FM.au st.ps k).pc 8 2).1.2,{ st with mem:=(o.load st.mem k (FM.au st.ps k).pc 8 2).2 }) else if ¬(bJ o { st with mem:=(o.load st.mem k (FM.au st.ps k).pc 8 2).2 } k (PM.ins (o.load st.mem k (FM.au st.ps k).pc 8 2).1.1)).1.2.1=0 then ((bJ o { st with mem:=(o.load st.mem k (FM.au st.ps k).pc 8 2).2 } k (PM.ins (o.load st.mem k (FM.au st.ps k).pc 8 2).1.1)).1.2,(bJ o { st with mem:=(o.load st.mem k (FM.au st.ps k).pc 8 2).2 } k (PM.ins (o.load st.mem k (FM.au st.ps k).pc 8 2).1.1)).2) else ((0,0),{ (bJ o { st with mem:=(o.load st.mem k (FM.au st.ps k).pc 8 2).2 } k (PM.ins (o.load st.mem k (FM.au st.ps k).pc 8 2).1.1)).2 with ps:=fX (PM.ins (o.load st.mem k (FM.au st.ps k).pc 8 2).1.1) st.ps.length ((bJ o { st with mem:=(o.load st.mem k (FM.au st.ps k).pc 8 2).2 } k (PM.ins (o.load st.mem k (FM.au st.ps k).pc 8 2).1.1)).2.ps.set k (PM.doneN (FM.au (bJ o { st with mem:=(o.load st.mem k (FM.au st.ps k).pc 8 2).2 } k (PM.ins (o.load st.mem k (FM.au st.ps k).pc 8 2).1.1)).2.ps k) (PM.ins (o.load st.mem k (FM.au st.ps k).pc 8 2).1.1) (bJ o { st with mem:=(o.load st.mem k (FM.au st.ps k).pc 8 2).2 } k (PM.ins (o.load st.mem k (FM.au st.ps k).pc 8 2).1.1)).1.1)) }))):=rfl
 obtain⟨q,hq⟩:=ex (FM.au st.ps k)
 rw[<- hq] at dI OJ tM Vy Eo
 have HQ:=ai hq
 obtain⟨X,hX⟩:=ex (o.load st.mem k q.pc 8 2)
 rw[<- hX] at OJ tM Vy Eo
 obtain⟨⟨d,X1,X2⟩,X3⟩:=X
 unfold FW.dm at OJ
 simp only at OJ tM Vy Eo
 obtain⟨Y,hY⟩:=ex (bJ o { st with mem:=X3 } k (PM.ins d))
 have HY:=ai hY
 rw[<- hY] at Eo
 obtain⟨RR,uS⟩:=ex (oM o st k)
 rw[<- uS] at Eo ⊢
 obtain⟨n,hn⟩:=ex st.ps.length
 rw[<- hn] at nu hk vH Eo
 subst nu
 have HN:=ai hn
 have jd:(k:Int)<(n:Int):=by omega
 have g0:w.cell? ⟨gb,0,none⟩=some (.iface 144 (.pointer (some ⟨mb,0,none⟩))):=B.cell h.head 0 rfl
 have g1:w.cell? ⟨gb,1,none⟩=some (.slice (some ⟨pb,0,none⟩) n cap):=B.cell h.head 1 rfl
 have c0:w.cell? ⟨pb,k*13,none⟩=some (I (q.r 0)):=dI.o 0 (by omega)
 have c1:w.cell? ⟨pb,k*13+1,none⟩=some (I (q.r 1)):=dI.o 1 (by omega)
 have c2:w.cell? ⟨pb,k*13+2,none⟩=some (I (q.r 2)):=dI.o 2 (by omega)
 have c3:w.cell? ⟨pb,k*13+3,none⟩=some (I (q.r 3)):=dI.o 3 (by omega)
 have c4:w.cell? ⟨pb,k*13+4,none⟩=some (I (q.r 4)):=dI.o 4 (by omega)
 have c5:w.cell? ⟨pb,k*13+5,none⟩=some (I (q.r 5)):=dI.o 5 (by omega)
 have c6:w.cell? ⟨pb,k*13+6,none⟩=some (I (q.r 6)):=dI.o 6 (by omega)
 have c7:w.cell? ⟨pb,k*13+7,none⟩=some (I (q.r 7)):=dI.o 7 (by omega)
 have c8:w.cell? ⟨pb,k*13+8,none⟩=some (I q.pc):=dI.o 8 (by omega)
 have c9:w.cell? ⟨pb,k*13+9,none⟩=some (I q.st):=dI.o 9 (by omega)
 have c10:w.cell? ⟨pb,k*13+10,none⟩=some (I q.cd):=dI.o 10 (by omega)
 have c11:w.cell? ⟨pb,k*13+11,none⟩=some (I q.fk):=dI.o 11 (by omega)
 have c12:w.cell? ⟨pb,k*13+12,none⟩=some (I q.fa):=dI.o 12 (by omega)
 have cY:=ai (((Below.refl w.heap.size w).alloc (Nat.le_refl _) (.cells #[I 0,I 0] 68)).alloc (by simp) (.cells #[I (q.r 0),I (q.r 1),I (q.r 2),I (q.r 3),I (q.r 4),I (q.r 5),I (q.r 6),I (q.r 7),I q.pc,I q.st,I q.cd,I q.fk,I q.fa] 70))
 have BF:=ai (B.alloc (B.new w #[I 0,I 0] 68) (.cells #[I (q.r 0),I (q.r 1),I (q.r 2),I (q.r 3),I (q.r 4),I (q.r 5),I (q.r 6),I (q.r 7),I q.pc,I q.st,I q.cd,I q.fk,I q.fa] 70))
 have BX:Hid (((w.alloc (.cells #[I 0,I 0] 68)).alloc (.cells #[I (q.r 0),I (q.r 1),I (q.r 2),I (q.r 3),I (q.r 4),I (q.r 5),I (q.r 6),I (q.r 7),I q.pc,I q.st,I q.cd,I q.fk,I q.fa] 70)).heap[w.heap.size+1]?=some (.cells #[I (q.r 0),I (q.r 1),I (q.r 2),I (q.r 3),I (q.r 4),I (q.r 5),I (q.r 6),I (q.r 7),I q.pc,I q.st,I q.cd,I q.fk,I q.fa] 70 (0,0))):=by
  have:=B.new (w.alloc (.cells #[I 0,I 0] 68)) #[I (q.r 0),I (q.r 1),I (q.r 2),I (q.r 3),I (q.r 4),I (q.r 5),I (q.r 6),I (q.r 7),I q.pc,I q.st,I q.cd,I q.fk,I q.fa] 70
  rw[World.size_alloc] at this
  exact this
 have Uu:¬pb=w.heap.size:=by omega
 have Yj:¬gb=w.heap.size:=by omega
 have hm:=xm ⟨mb,0,none⟩
 have hah:=Ak ⟨mb,0,none⟩
 clear h C hX hY uS hn hq hpc uN hok hlv h1 dI
 go_enter Tryz.func81,Tryz.ntmps81
 go_wp2_with fail
 obtain⟨WA,gw⟩:=ex ((w.alloc (.cells #[I 0,I 0] 68)).alloc (.cells #[I (q.r 0),I (q.r 1),I (q.r 2),I (q.r 3),I (q.r 4),I (q.r 5),I (q.r 6),I (q.r 7),I q.pc,I q.st,I q.cd,I q.fk,I q.fa] 70))
 rw[<- gw] at cY BF BX ⊢
 obtain⟨xb,nA⟩:=ex (w.heap.size+1)
 rw[<- nA] at BX ⊢
 obtain⟨fb,UG⟩:=ex w.heap.size
 rw[<- UG] at BF nA ⊢
 have tL:=ai nA
 have Pq:=ai UG
 have ow:=ai (HG.o.below HC.o cY.o)
 have kG:Hid (¬D xb):=fun g=>by have:=HC.o.dom _ _ _ HG.o.mem _ g;have:=tL.o;have:=Pq.o;omega
 have Vv:Hid (¬D fb):=fun g=>by have:=HC.o.dom _ _ _ HG.o.mem _ g;have:=Pq.o;omega
 have HNZ:Hid (¬D WA.heap.size):=fun g=>by have:=HC.o.dom _ _ _ HG.o.mem _ g;have:=cY.o.size;omega
 have HS:Hid (∀V,Kp D WA V->V.cell? ⟨gb,0,none⟩=some (.iface 144 (.pointer (some ⟨mb,0,none⟩)))/\V.cell? ⟨xb,8,none⟩=some (I q.pc)):=fun V hb=>by
  have h1:=hb.keep BX.o kG.o
  have h2:=hb.keep ow.o.head ow.o.n1
  exact⟨B.cell h2 0 rfl,B.cell h1 8 rfl⟩
 have cw:=ai (HS.o _ (Kp.drew _ _))
 have Cg:=ai (HS.o (WA.alloc (.cells #[I 0,I 0] 68)).drew ((Kp.alloc _ _ _).trans (Kp.drew _ _) (fun _ _ g=>g)))
 have cM:=ai cY.o.drew
 have bj:=ai (cY.o.alloc cY.o.size (.cells #[I 0,I 0] 68)).drew
 have hlx:=B.isLt BX.o
 clear nA UG gw g0 g1 c0 c1 c2 c3 c4 c5 c6 c7 c8 c9 c10 c11 c12 Uu Yj
 go_cut [6,7] (fun x6 x7 wx=>∃zb,x6=.string d/\x7=.pointer (some ⟨zb,0,none⟩)/\xb<zb/\wx.heap[zb]?=some (.cells #[I X1,I X2] 68 (0,0))/\wx.heap[fb]?=some (.cells #[I 0,I 0] 68 (0,0))/\wx.heap[xb]?=some (.cells #[I (q.r 0),I (q.r 1),I (q.r 2),I (q.r 3),I (q.r 4),I (q.r 5),I (q.r 6),I (q.r 7),I q.pc,I q.st,I q.cd,I q.fk,I q.fa] 70 (0,0))/\fc (fun b=>b=fb∨b=xb∨b=zb) Hd lo mb gb w D (.slice (some ⟨pb,0,none⟩) n cap) vo { st with mem:=X3 } wx)
 case first =>
  have I5:Hid (∀(V:World) (g:Nat),xb<g->(V.cell? ⟨gb,0,none⟩=some (.iface 144 (.pointer (some ⟨mb,0,none⟩)))/\V.cell? ⟨xb,8,none⟩=some (I q.pc))->∀v0 v1,((V.setCell ⟨g,0,none⟩ v0).setCell ⟨g,1,none⟩ v1).cell? ⟨gb,0,none⟩=some (.iface 144 (.pointer (some ⟨mb,0,none⟩)))/\((V.setCell ⟨g,0,none⟩ v0).setCell ⟨g,1,none⟩ v1).cell? ⟨xb,8,none⟩=some (I q.pc)):=fun V g hg ⟨h0,h1⟩ v0 v1=>by
   have hne:xb≠g:=by omega
   have xD:gb≠g:=by have:=tL.o;have:=Pq.o;omega
   rw[bQ _ _ _ _ _ _ hne,bQ _ _ _ _ _ _ hne,bQ _ _ _ _ _ _ xD,bQ _ _ _ _ _ _ xD]
   exact⟨h0,h1⟩
  go_region_held3 (fun V=>V.cell? ⟨gb,0,none⟩=some (.iface 144 (.pointer (some ⟨mb,0,none⟩)))/\V.cell? ⟨xb,8,none⟩=some (I q.pc)) (first | exact cw.o | exact Cg.o | exact ql.o | exact yx.o _ | exact tG.o _ _ | exact adq.o _ _ _)
   (first | (go_at_call 192;refine(OJ.o _ (by first | exact cM.o | exact bj.o)).mono ?_;rintro e w2 ⟨D2,rfl,hm2,hk2,hd2⟩;have OO:Hid (Kp D WA w2):=(by first | exact(Kp.drew D WA).trans hk2 (fun _ _ g=>g) | exact((Kp.alloc D WA (.cells #[I 0,I 0] 68)).trans (Kp.drew D _) (fun _ _ g=>g)).trans hk2 (fun _ _ g=>g));have ql:=ai (HS.o _ OO.o);have yx:=ai (fun ob=>HS.o _ (OO.o.trans (Kp.alloc D w2 ob) (fun _ _ g=>g)));have tG:=ai (I5.o w2 WA.heap.size hlx ql.o);have adq:=ai (fun ob=>I5.o (w2.alloc ob) w2.heap.size (Nat.lt_of_lt_of_le hlx OO.o.size) (yx.o ob));have oa:=ai (fc.behind HC.o HG.o (by first | exact cM.o | exact bj.o) (Left.pd HC.o (HG.o.below HC.o (by first | exact cM.o | exact bj.o)) hm2 hk2 hd2));have BF2:=ai (OO.o.keep BF.o Vv.o);have Eu:=ai (OO.o.keep BX.o kG.o);(try (have mQ:=ai (hk2.keep (w:=(WA.alloc (.cells #[I 0,I 0] 68)).drew) (B.new WA #[I 0,I 0] 68) HNZ.o);have z0:=B.cell (v:=I 0) mQ.o 0 rfl;have z1:=B.cell (v:=I 0) mQ.o 1 rfl;have z2:=B.free mQ.o 0;have z3:=B.free mQ.o 1));clear hm2 hk2 hd2))
  all_goals
   go_wp2_with fail
   go_meet
   case rel =>
    have e1:=tL.o
    have e2:=Pq.o
    have e3:=OO.o.size
    first
    | exact⟨_,rfl,rfl,by omega,B.new w2 _ _,B.alloc BF2.o _,B.alloc Eu.o _,(oa.o.alloc HC.o _).sub (fun b e=>by rcases e with rfl | rfl | rfl;exact .inl ⟨by omega,by show _<WA.heap.size;omega⟩;exact .inl ⟨by omega,by show _<WA.heap.size;omega⟩;exact .inr rfl)⟩
    | exact⟨_,rfl,rfl,hlx,B.set (B.set mQ.o 0 _) 1 _,B.other (B.other BF2.o WA.heap.size 0 _ (by omega)) WA.heap.size 1 _ (by omega),B.other (B.other Eu.o WA.heap.size 0 _ (by omega)) WA.heap.size 1 _ (by omega),((oa.o.set HC.o ⟨WA.heap.size,0,none⟩ _ ⟨cY.o.size,by show WA.heap.size<(WA.alloc _).heap.size;rw[World.size_alloc];omega⟩ cY.o.size).set HC.o ⟨WA.heap.size,1,none⟩ _ ⟨cY.o.size,by show WA.heap.size<(WA.alloc _).heap.size;rw[World.size_alloc];omega⟩ cY.o.size).sub (fun b e=>by rcases e with rfl | rfl | rfl <;> exact⟨by omega,by show _<(WA.alloc _).heap.size;rw[World.size_alloc];omega⟩)⟩
 case rest =>
  obtain⟨zb,rfl,rfl,hxz,hz,hf,hx,hl⟩:=hcut
  have HZ:=ai hz
  have HF:=ai hf
  have HX:=ai hx
  have HL:=ai hl
  have z0:=B.cell (v:=I X1) hz 0 rfl
  have z1:=B.cell (v:=I X2) hz 1 rfl
  have f0:=B.cell (v:=I 0) hf 0 rfl
  have f1:=B.cell (v:=I 0) hf 1 rfl
  have e0:=B.free hf 0
  have e1:=B.free hf 1
  have hfw:w.heap.size<=fb:=by have:=Pq.o;omega
  clear HS cw Cg cM bj OJ hz hf hx hl ow HNZ cY BF BX hlx
  by_cases hX1:X1=0
  · subst hX1
    have h8:d.size=8:=by have:=tM.o rfl;omega
    have vk:Hid (lZ Ok { st with mem:=X3 }):=sL tH.o Vy.o
    have HAS:=ai (fun V=>PW.Rq q d V h8)
    have nD:=ai (GG.vd HC.o.ok vk.o k qp.o KX.o (PM.ins d) (PM.pj d h8))
    rw[<- HY.o] at nD
    obtain⟨D1,r1,o1,hg1,hk1,hd1,pZ⟩:=HL.o
    have ZF:=ai hg1
    have Cl:=ai hk1
    have HDX:=ai hd1
    have He:=ai pZ
    have Sz:Hid (∀V,Below wc.heap.size wc V->Calls Tryz.prog 109 #[.pointer (some ⟨gb,0,none⟩),I (k:Int),.agg (PM.j6 q (PM.ins d))] V fun e w'=>e=.returned (.tuple #[I Y.1.1,.agg (FW.dm Y.1.2)])/\GW.Left Hd lo mb gb V D1 r1 o1 Y.2 w'):=fun V hV=>by
     have:=G0 HC.o k (PM.ins d) V (hg1.below HC.o hV) vk.o qp.o KX.o
     rw[<- HY.o] at this
     have hqe:FM.au (St.ps { st with mem:=X3 }) k=q:=HQ.o.symm
     rw[hqe] at this
     exact this
    obtain⟨k0,k1,k2,k3,k4,YB⟩:=tF q (PM.ins d)
    rw[YB] at HAS Sz
    obtain⟨⟨v,F1,F2⟩,s2⟩:=Y
    unfold FW.dm at Sz
    simp only at Sz nD Eo
    have Cq:Hid (RR=if ¬F1=0 then ((F1,F2),s2) else ((0,0),{ s2 with ps:=fX (PM.ins d) n (s2.ps.set k (PM.doneN (FM.au s2.ps k) (PM.ins d) v)) })):=by rw[Eo.o,if_neg (fun g=>g trivial)];exact rfl
    clear hg1 hk1 hd1 pZ YB Eo tM Vy
    have g1:=B.cell (v:=r1) ZF.o.head 1 rfl
    obtain⟨a1,YV,hr1,_,_⟩:=aL ZF.o.procs
    simp only at hr1
    rw[<- HN.o] at hr1
    subst hr1
    have adn:Hid (wc.heap[xb]?=some (.cells #[I (q.r 0),I (q.r 1),I (q.r 2),I (q.r 3),I (q.r 4),I (q.r 5),I (q.r 6),I (q.r 7),I q.pc,I q.st,I q.cd,I q.fk,I q.fa] 70 (0,0))):=HX
    have p0:=B.cell (v:=I (q.r 0)) HX.o 0 rfl
    have p1:=B.cell (v:=I (q.r 1)) HX.o 1 rfl
    have p2:=B.cell (v:=I (q.r 2)) HX.o 2 rfl
    have p3:=B.cell (v:=I (q.r 3)) HX.o 3 rfl
    have p4:=B.cell (v:=I (q.r 4)) HX.o 4 rfl
    have p5:=B.cell (v:=I (q.r 5)) HX.o 5 rfl
    have p6:=B.cell (v:=I (q.r 6)) HX.o 6 rfl
    have p7:=B.cell (v:=I (q.r 7)) HX.o 7 rfl
    have p8:=B.cell (v:=I q.pc) HX.o 8 rfl
    have p9:=B.cell (v:=I q.st) HX.o 9 rfl
    have TX:=B.cell (v:=I q.cd) HX.o 10 rfl
    have TW:=B.cell (v:=I q.fk) HX.o 11 rfl
    have TV:=B.cell (v:=I q.fa) HX.o 12 rfl
    have fL:Hid (∀V,Calls Tryz.prog 108 #[.agg #[I (q.r 0),I (q.r 1),I (q.r 2),I (q.r 3),I (q.r 4),I (q.r 5),I (q.r 6),I (q.r 7),I q.pc,I q.st,I q.cd,I q.fk,I q.fa],.string d] V fun e w'=>e=.returned (.tuple #[.agg #[I k0,I k1,I k2,I k3,I k4],I 0])/\Below V.heap.size V w'):=HAS
    have hzl:=B.isLt HZ.o
    have hzf:fb≠zb:=by have:=tL.o;omega
    by_cases hF1:F1=0
    · subst hF1
      have HD3:Hid (RR=((0,0),{ s2 with ps:=fX (PM.ins d) n (s2.ps.set k (PM.doneN (FM.au s2.ps k) (PM.ins d) v)) })):=by rw[Cq.o,if_neg (fun g=>g rfl)];exact rfl
      clear Cq
      go_wp2_with (first
       | (go_at_call 108;refine(fL.o _).mono ?_;rintro e w3 ⟨rfl,hb3⟩;have fH:=ai hb3;have mU:=ai (hb3.alloc hb3.size (.cells #[I k0,I k1,I k2,I k3,I k4] 101));have BA:=ai (B.new w3 #[I k0,I k1,I k2,I k3,I k4] 101);have g2:(w3.alloc (.cells #[I k0,I k1,I k2,I k3,I k4] 101)).cell? ⟨gb,1,none⟩=some (.slice a1 n YV):=(mU.o.cell (p:=⟨gb,1,none⟩) (B.isLt ZF.o.head)).trans g1;clear hb3)
       | (go_at_call 109;refine(Sz.o _ mU.o).mono ?_;rintro e w5 ⟨rfl,O8⟩;have HL5:=ai O8;have K1:=ai (O8.keep (B.alloc (B.below HZ.o fH.o (B.isLt HZ.o)) _) (He.o zb (.inr (.inr rfl))));have O5:=ai (O8.keep (B.alloc (B.below HF.o fH.o (B.isLt HF.o)) _) (He.o fb (.inl rfl)));have y0:=B.cell (v:=I 0) K1.o 0 rfl;have y1:=B.cell (v:=I X2) K1.o 1 rfl;have y2:=B.free K1.o 0;have y3:=B.free K1.o 1;have t0:=B.cell (v:=I 0) O5.o 0 rfl;have t1:=B.cell (v:=I 0) O5.o 1 rfl;have t2:=B.free O5.o 0;have t3:=B.free O5.o 1;clear O8))
      obtain⟨hplain,abS,hbad⟩:=nD.o.plain rfl
      have hlen:n<=s2.ps.length/\s2.ps.length<=n+1:=by
       have hn:=HN.o
       rcases hplain with⟨e,_⟩ | ⟨_,e,_⟩
       · rw[show s2.ps=st.ps from e];omega
       · rw[show s2.ps=st.ps++[FM.au st.ps k] from e,List.length_append,List.length_singleton];omega
      have Xp:w.heap.size<=zb:=by have:=tL.o;omega
      have hLN:=fc.step (ys:=(fun b=>b=fb∨b=xb∨b=zb)) (fun b hb=>by have s4:=mU.o.size;have l1:=B.isLt HF.o;have l2:=B.isLt HX.o;have l3:=B.isLt HZ.o;rcases hb with e | e | e <;> rw[e] <;> omega) (Cl.o.trans (Kp.aF mU.o) (fun _ _ g=>g)) HDX.o He.o HL5.o
      have hL6:=(hLN.set HC.o ⟨zb,0,none⟩ (I 0) (.inr (.inr rfl)) Xp).set HC.o ⟨zb,1,none⟩ (I F2) (.inr (.inr rfl)) Xp
      have BF6:=B.other (B.other O5.o zb 0 (I 0) hzf) zb 1 (I F2) hzf
      obtain⟨W6,hW6⟩:=ex ((w5.setCell ⟨zb,0,none⟩ (I 0)).setCell ⟨zb,1,none⟩ (I F2))
      rw[<- hW6] at hL6 BF6 ⊢
      obtain⟨D6,r6,o6,hg6,tJ,hd6,hn6⟩:=hL6
      have acC:=B.isLt BF6
      refine(DU HC.o k d v W6 hg6 (by omega) (by omega) h8 hbad).mono ?_
      rintro e w7 ⟨rfl,Yi⟩
      have BF7:=Yi.keep BF6 (hn6 fb (.inl rfl))
      have hL7:=fc.step (ys:=fun b=>b=fb) (fun b e=>by rw[e];exact acC) tJ hd6 (fun b e=>hn6 b (.inl e)) Yi
      have HL7:=ai hL7
      have HF7:=ai BF7
      have qQ:=ai hbad
      have HHL:=ai hlen
      obtain⟨PS,hPS⟩:=ex (s2.ps.set k (PM.doneN (FM.au s2.ps k) (PM.ins d) v))
      rw[<- hPS] at HL7 HD3
      have QJ:PS.length=s2.ps.length:=by rw[hPS,List.length_set]
      obtain⟨m,hm⟩:=ex s2.ps.length
      rw[<- hm] at QJ hlen
      have Ek:=ai QJ
      clear Yi hL7 BF7 BF6 hn6 hd6 tJ hg6 hW6 hLN hbad hPS hm hplain abS HL5 K1 O5 y0 y1 y2 y3 t0 t1 t2 t3 g2 BA fH mU fL Sz HAS adn p0 p1 p2 p3 p4 p5 p6 p7 p8 p9 TX TW TV g1 ZF Cl HDX He z0 z1 f0 f1 e0 e1 QJ
      go_wp2
      go_loopw [12] (fun Az wr=>∃j:Nat,n+j<=m/\Az=I ((n+j:Nat):Int)/\fc (fun b=>b=fb) Hd lo mb gb w D (.slice (some ⟨pb,0,none⟩) n cap) vo { s2 with ps:=gy (PM.ins d) n PS j } wr/\wr.heap[fb]?=some (.cells #[I 0,I 0] 68 (0,0))) (fun Az _=>m-(intOf Az).toNat)
      case atStart=>exact⟨0,by omega,rfl,HL7.o,HF7.o⟩
      case round =>
       obtain⟨j,hj,rfl,hl,hf⟩:=hrel
       have Pp:=ai hf
       obtain⟨Dr,rr,orr,hgr,hkr,hdr,fh⟩:=hl
       have Cn:=ai hgr
       have Pk:=ai hkr
       have HDR:=ai hdr
       have Tp:=ai fh
       obtain⟨a7,c7,uJ,_,_⟩:=aL hgr.procs
       have ab2:rr=.slice a7 m c7:=by
        rw[uJ]
        show Value.slice a7 (gy (PM.ins d) n PS j).length c7=_
        rw[gI,Ek.o]
       subst ab2
       have x1:=B.cell (v:=.slice a7 m c7) Cn.o.head 1 rfl
       clear hf hgr hkr hdr fh uJ
       by_cases hlt:n+j<m
       · have Jb:Hid (Calls Tryz.prog 110 #[.pointer (some ⟨gb,0,none⟩),I ((n+j:Nat):Int),.string d,I 0] wr fun e w'=>e=.returned (.tuple #[])/\GW.Left Hd lo mb gb wr Dr (.slice a7 m c7) orr { s2 with ps:=gy (PM.ins d) n PS (j+1) } w'):=DU HC.o (n+j) d 0 wr Cn.o (by show(gy (PM.ins d) n PS j).length<=1000;rw[gI,Ek.o];omega) (by show n+j<(gy (PM.ins d) n PS j).length;rw[gI,Ek.o];omega) h8 qQ.o
         have Yr:((n+j:Nat):Int)<(m:Int):=by omega
         go_wp2_with (go_at_call 110;refine Jb.o.mono ?_;rintro e w8 ⟨rfl,hl8⟩;have HL8:=ai (fc.step (ys:=fun b=>b=fb) (fun b e=>(by rw[e];exact B.isLt Pp.o)) Pk.o HDR.o Tp.o hl8);have VH:=ai (hl8.keep Pp.o (Tp.o fb rfl));clear hl8)
         go_roundw
         case rel=>exact⟨j+1,by omega,by go_num,HL8.o,VH.o⟩
         case measure=>simp[intOf];omega
       · have hje:j=PS.length-n:=by have:=Ek.o;omega
         have qB:Hid (fc (fun b=>b=fb) Hd lo mb gb w D (.slice (some ⟨pb,0,none⟩) n cap) vo { s2 with ps:=fX (PM.ins d) n PS } wr):=by
          show fc _ _ _ _ _ _ _ _ _ _ _
          rw[<- D3 (PM.ins d) n PS (by have:=Ek.o;omega),<- hje]
          exact⟨Dr,_,orr,Cn.o,Pk.o,HDR.o,Tp.o⟩
         have t0:=B.cell (v:=I 0) Pp.o 0 rfl
         have t1:=B.cell (v:=I 0) Pp.o 1 rfl
         have t2:=B.free Pp.o 0
         have t3:=B.free Pp.o 1
         have Yr:¬((n+j:Nat):Int)<(m:Int):=by omega
         clear hje
         go_wp2
         refine bodyPost_ret (v:=.agg #[I 0,I 0]) (by simp[results,Tryz.results81,go_sem,t0,t1]) rfl ?_
         rw[HD3.o]
         exact⟨rfl,((qB.o.set HC.o ⟨fb,0,none⟩ _ rfl hfw).set HC.o ⟨fb,1,none⟩ _ rfl hfw).left⟩
    · have hFi:(F1==0)=false:=by rw[beq_eq_false_iff_ne];exact hF1
      have HD3:Hid (RR=((F1,F2),s2)):=by rw[Cq.o,if_pos hF1];exact rfl
      clear Cq hF1
      go_wp2_with (first
       | (go_at_call 108;refine(fL.o _).mono ?_;rintro e w3 ⟨rfl,hb3⟩;have fH:=ai hb3;have mU:=ai (hb3.alloc hb3.size (.cells #[I k0,I k1,I k2,I k3,I k4] 101));have BA:=ai (B.new w3 #[I k0,I k1,I k2,I k3,I k4] 101);have g2:(w3.alloc (.cells #[I k0,I k1,I k2,I k3,I k4] 101)).cell? ⟨gb,1,none⟩=some (.slice a1 n YV):=(mU.o.cell (p:=⟨gb,1,none⟩) (B.isLt ZF.o.head)).trans g1;clear hb3)
       | (go_at_call 109;refine(Sz.o _ mU.o).mono ?_;rintro e w5 ⟨rfl,O8⟩;have HL5:=ai O8;have K1:=ai (O8.keep (B.alloc (B.below HZ.o fH.o (B.isLt HZ.o)) _) (He.o zb (.inr (.inr rfl))));have O5:=ai (O8.keep (B.alloc (B.below HF.o fH.o (B.isLt HF.o)) _) (He.o fb (.inl rfl)));have y0:=B.cell (v:=I 0) K1.o 0 rfl;have y1:=B.cell (v:=I X2) K1.o 1 rfl;have y2:=B.free K1.o 0;have y3:=B.free K1.o 1;have t0:=B.cell (v:=I 0) O5.o 0 rfl;have t1:=B.cell (v:=I 0) O5.o 1 rfl;have t2:=B.free O5.o 0;have t3:=B.free O5.o 1;clear O8))
      refine bodyPost_ret (v:=.agg #[I F1,I F2]) (by simp[results,Tryz.results81,go_sem,t0,t1]) rfl ?_
      rw[HD3.o]
      have hLN:=fc.step (ys:=(fun b=>b=fb∨b=xb∨b=zb)) (fun b hb=>by have s4:=mU.o.size;have l1:=B.isLt HF.o;have l2:=B.isLt HX.o;have l3:=B.isLt HZ.o;rcases hb with e | e | e <;> rw[e] <;> omega) (Cl.o.trans (Kp.aF mU.o) (fun _ _ g=>g)) HDX.o He.o HL5.o
      have Xp:w.heap.size<=zb:=by have:=tL.o;omega
      exact⟨rfl,((((hLN.set HC.o ⟨zb,0,none⟩ _ (.inr (.inr rfl)) Xp).set HC.o ⟨zb,1,none⟩ _ (.inr (.inr rfl)) Xp).set HC.o ⟨fb,0,none⟩ _ (.inl rfl) hfw).set HC.o ⟨fb,1,none⟩ _ (.inl rfl) hfw).left⟩
  · have hXi:(X1==0)=false:=by rw[beq_eq_false_iff_ne];exact hX1
    have Cq:Hid (RR=((X1,X2),{ st with mem:=X3 })):=by rw[Eo.o,if_pos hX1];exact rfl
    clear Eo hX1
    go_wp2
    refine bodyPost_ret (v:=.agg #[I X1,I X2]) (by simp[results,Tryz.results81,go_sem,f0,f1]) rfl ?_
    rw[Cq.o]
    exact⟨rfl,((HL.o.set HC.o ⟨fb,0,none⟩ _ (.inl rfl) hfw).set HC.o ⟨fb,1,none⟩ _ (.inl rfl) hfw).left⟩
end GW
end Go.Proofs.YtkdigjpejnebkaaGreat
