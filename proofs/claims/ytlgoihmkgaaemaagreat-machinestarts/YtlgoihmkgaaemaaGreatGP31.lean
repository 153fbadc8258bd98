import Derived.Test.YtlgoihmkgaaemaaGreatGP30
import Derived.Test.YtlgoihmkgaaemaaGreatGP27
set_option maxHeartbeats 20000000
set_option linter.unusedVariables false
set_option maxRecDepth 100000
set_option linter.unusedSimpArgs false
namespace Go.Proofs.YtlgoihmkgaaemaaGreat
open Go.RowKit Tryz
variable {σ:Type} {Hd:World->(Nat->Prop)->σ->Prop} {Ok:σ->List Bool->Prop} {o:iZ σ} {lo mb gb:Nat} {D:Nat->Prop} {vr vo:Value} {st:dC σ}
theorem abj (p:bQ) (i:eJ):∃k0 k1 k2 k3 k4,pZ p i=#[I k0,I k1,I k2,I k3,I k4]:=by
 unfold pZ
 repeat' split
 all_goals exact⟨_,_,_,_,_,rfl⟩
theorem agv (C:jc lo mb Hd Ok o) (k:Nat) (w:World) (h:gD Hd lo mb gb w D vr vo st) (hok:fZ Ok st) (hk:k<st.ps.length) (h1:(aR st.ps k).st=1) :
  Calls prog 96 #[.pointer (some ⟨gb,0,none⟩),I (k:Int)] w λe w'=>e=.returned (.agg (il (mO o st k).1))/\cY Hd lo mb gb w D vr vo (mO o st k).2 w':=by
 have HG:=ai h;have HC:=ai C;have QB:=ai hok;have a2:=jn k hk h1;have YI:=ai a2;have Dg:=ai hk;have b8:=ai h1;have Ho:st.ps.length<=4:=by have:=C.ok.few _ _ hok.mem;unfold cI at this;rw[jw] at this;exact this
 have OI:=ai (hok.fit k hk);have ck:=aM h.head;obtain⟨pb,cap,Jt,cg,b4,Wu⟩:=h.proc k hk;have pK:=ai b4;have L:Hid (∀V,Below w.heap.size w V->Calls prog 254 #[.pointer (some ⟨mb,0,none⟩),I (k:Int),I (aR st.ps k).pc,I 8,I 2] V (qA Hd V D (.tuple #[.string (o.load st.mem k (aR st.ps k).pc 8 2).1.1,.agg (il (o.load st.mem k (aR st.ps k).pc 8 2).1.2)]) (o.load st.mem k (aR st.ps k).pc 8 2).2)):=λV hV=>C.load V D st.mem _ k _ 8 2 (h.below C hV).mem hok.mem a2 (hok.fit k hk).2 ω ω (.inr rfl)
 have T:=ai (C.ok.size st.mem _ k (aR st.ps k).pc 8 2 hok.mem a2 ω ω);have Z:=ai (C.ok.load st.mem _ k (aR st.ps k).pc 8 2 hok.mem a2);have y:Hid (mO o st k=(if ¬(o.load st.mem k (aR st.ps k).pc 8 2).1.2.1=0 then ((o.load st.mem k (aR st.ps k).pc 8 2).1.2,{ st with mem:=(o.load st.mem k (aR st.ps k).pc 8 2).2 }) else if ¬(gF o { st with mem:=(o.load st.mem k (aR st.ps k).pc 8 2).2 } k (iq (o.load st.mem k (aR st.ps k).pc 8 2).1.1)).1.2.1=0 then ((gF o { st with mem:=(o.load st.mem k (aR st.ps k).pc 8 2).2 } k (iq (o.load st.mem k (aR st.ps k).pc 8 2).1.1)).1.2,(gF o { st with mem:=(o.load st.mem k (aR st.ps k).pc 8 2).2 } k (iq (o.load st.mem k (aR st.ps k).pc 8 2).1.1)).2) else ((0,0),{ (gF o { st with mem:=(o.load st.mem k (aR st.ps k).pc 8 2).2 } k (iq (o.load st.mem k (aR st.ps k).pc 8 2).1.1)).2 with ps:=pV (iq (o.load st.mem k (aR st.ps k).pc 8 2).1.1) st.ps.length ((gF o { st with mem:=(o.load st.mem k (aR st.ps k).pc 8 2).2 } k (iq (o.load st.mem k (aR st.ps k).pc 8 2).1.1)).2.ps.set k (di (aR (gF o { st with mem:=(o.load st.mem k (aR st.ps k).pc 8 2).2 } k (iq (o.load st.mem k (aR st.ps k).pc 8 2).1.1)).2.ps k) (iq (o.load st.mem k (aR st.ps k).pc 8 2).1.1) (gF o { st with mem:=(o.load st.mem k (aR st.ps k).pc 8 2).2 } k (iq (o.load st.mem k (aR st.ps k).pc 8 2).1.1)).1.1)) }))):=rfl;obtain⟨q,hq⟩:=ex (aR st.ps k);rw[<- hq] at pK L T Z y;have HQ:=ai hq;generalize o.load st.mem k q.pc 8 2=X at L T Z y;obtain⟨⟨d,X1,X2⟩,X3⟩:=X;unfold il at L;simp only at L T Z y;obtain⟨Y,hY⟩:=ex (gF o { st with mem:=X3 } k (iq d));have HY:=ai hY;rw[<- hY] at y;generalize mO o st k=RR at y ⊢;obtain⟨n,hn⟩:=ex st.ps.length;rw[<- hn] at Jt hk Ho y;subst Jt;have HN:=ai hn;have Il:(k:Int)<(n:Int):=by omega
 have g0:w.cell? ⟨gb,0,none⟩=some (.iface 183 (.pointer (some ⟨mb,0,none⟩))):=aA h.head 0 rfl;have g1:w.cell? ⟨gb,1,none⟩=some (.slice (some ⟨pb,0,none⟩) n cap):=aA h.head 1 rfl;have c0:w.cell? ⟨pb,k*13,none⟩=some (I (q.r 0)):=pK.o 0 ω;have c1:w.cell? ⟨pb,k*13+1,none⟩=some (I (q.r 1)):=pK.o 1 ω;have c2:w.cell? ⟨pb,k*13+2,none⟩=some (I (q.r 2)):=pK.o 2 ω;have c3:w.cell? ⟨pb,k*13+3,none⟩=some (I (q.r 3)):=pK.o 3 ω;have c4:w.cell? ⟨pb,k*13+4,none⟩=some (I (q.r 4)):=pK.o 4 ω;have c5:w.cell? ⟨pb,k*13+5,none⟩=some (I (q.r 5)):=pK.o 5 ω;have c6:w.cell? ⟨pb,k*13+6,none⟩=some (I (q.r 6)):=pK.o 6 ω;have c7:w.cell? ⟨pb,k*13+7,none⟩=some (I (q.r 7)):=pK.o 7 ω;have c8:w.cell? ⟨pb,k*13+8,none⟩=some (I q.pc):=pK.o 8 ω;have c9:w.cell? ⟨pb,k*13+9,none⟩=some (I q.st):=pK.o 9 ω;have bE:w.cell? ⟨pb,k*13+10,none⟩=some (I q.cd):=pK.o 10 ω;have bt:w.cell? ⟨pb,k*13+11,none⟩=some (I q.fk):=pK.o 11 ω;have bs:w.cell? ⟨pb,k*13+12,none⟩=some (I q.fa):=pK.o 12 ω;have mh:=ai (((aN w.heap.size w).alloc (aJ _) (.cells #[I 0,I 0] 75)).alloc ξ (.cells #[I (q.r 0),I (q.r 1),I (q.r 2),I (q.r 3),I (q.r 4),I (q.r 5),I (q.r 6),I (q.r 7),I q.pc,I q.st,I q.cd,I q.fk,I q.fa] 77));have BF:=ai (bB (bG w #[I 0,I 0] 75) (.cells #[I (q.r 0),I (q.r 1),I (q.r 2),I (q.r 3),I (q.r 4),I (q.r 5),I (q.r 6),I (q.r 7),I q.pc,I q.st,I q.cd,I q.fk,I q.fa] 77));have BX:Hid (((w.alloc (.cells #[I 0,I 0] 75)).alloc (.cells #[I (q.r 0),I (q.r 1),I (q.r 2),I (q.r 3),I (q.r 4),I (q.r 5),I (q.r 6),I (q.r 7),I q.pc,I q.st,I q.cd,I q.fk,I q.fa] 77)).heap[w.heap.size+1]?=some (.cells #[I (q.r 0),I (q.r 1),I (q.r 2),I (q.r 3),I (q.r 4),I (q.r 5),I (q.r 6),I (q.r 7),I q.pc,I q.st,I q.cd,I q.fk,I q.fa] 77 (0,0))):=by
  have:=bG (w.alloc (.cells #[I 0,I 0] 75)) #[I (q.r 0),I (q.r 1),I (q.r 2),I (q.r 3),I (q.r 4),I (q.r 5),I (q.r 6),I (q.r 7),I q.pc,I q.st,I q.cd,I q.fk,I q.fa] 77;rw[fp] at this;exact this
 have bL:¬pb=w.heap.size:=by omega
 have ca:¬gb=w.heap.size:=by omega
 have hm:=I6 ⟨mb,0,none⟩;have cb:=Mb ⟨mb,0,none⟩;clear h C hY hn hq b4 Wu hok a2 h1 pK;go_enter func96,ntmps96;go_wp2_with fail;generalize (w.alloc (.cells #[I 0,I 0] 75)).alloc (.cells #[I (q.r 0),I (q.r 1),I (q.r 2),I (q.r 3),I (q.r 4),I (q.r 5),I (q.r 6),I (q.r 7),I q.pc,I q.st,I q.cd,I q.fk,I q.fa] 77)=WA at mh BF BX ⊢;obtain⟨xb,O7⟩:=ex (w.heap.size+1);rw[<- O7] at BX ⊢;obtain⟨fb,Zu⟩:=ex w.heap.size;rw[<- Zu] at BF O7 ⊢;have H0:=ai O7;have U:=ai Zu;have Kg:=ai (HG.o.below HC.o mh.o);have uy:Hid (¬D xb):=λg=>by have:=HC.o.dom _ _ _ HG.o.mem _ g;have:=H0.o;have:=U.o;omega
 have bn:Hid (¬D fb):=λg=>by have:=HC.o.dom _ _ _ HG.o.mem _ g;have:=U.o;omega
 have aD:Hid (¬D WA.heap.size):=λg=>by have:=HC.o.dom _ _ _ HG.o.mem _ g;have:=mh.o.size;omega
 have HS:Hid (∀V,aI D WA V->V.cell? ⟨gb,0,none⟩=some (.iface 183 (.pointer (some ⟨mb,0,none⟩)))/\V.cell? ⟨xb,8,none⟩=some (I q.pc)):=λV hb=>by
  have h1:=hb.keep BX.o uy.o;have h2:=hb.keep Kg.o.head Kg.o.n1;exact⟨aA h2 0 rfl,aA h1 8 rfl⟩
 have o5:=ai (HS.o _ (aI.drew _ _));have ZE:=ai (HS.o (WA.alloc (.cells #[I 0,I 0] 75)).drew ((aI.alloc _ _ _).trans (aI.drew _ _) (λ_ _ g=>g)));have eB:=ai mh.o.drew;have dz:=ai (mh.o.alloc mh.o.size (.cells #[I 0,I 0] 75)).drew;have a9:=aM BX.o;clear O7 Zu g0 g1 c0 c1 c2 c3 c4 c5 c6 c7 c8 c9 bE bt bs bL ca;go_cut [6,7] (λx6 x7 wx=>∃zb,x6=.string d/\x7=.pointer (some ⟨zb,0,none⟩)/\xb<zb/\wx.heap[zb]?=some (.cells #[I X1,I X2] 75 (0,0))/\wx.heap[fb]?=some (.cells #[I 0,I 0] 75 (0,0))/\wx.heap[xb]?=some (.cells #[I (q.r 0),I (q.r 1),I (q.r 2),I (q.r 3),I (q.r 4),I (q.r 5),I (q.r 6),I (q.r 7),I q.pc,I q.st,I q.cd,I q.fk,I q.fa] 77 (0,0))/\ia (λb=>b=fb\/b=xb\/b=zb) Hd lo mb gb w D (.slice (some ⟨pb,0,none⟩) n cap) vo { st with mem:=X3 } wx)
 case first =>
  have aY:Hid (∀(V:World) (g:Nat),xb<g->(V.cell? ⟨gb,0,none⟩=some (.iface 183 (.pointer (some ⟨mb,0,none⟩)))/\V.cell? ⟨xb,8,none⟩=some (I q.pc))->∀v0 v1,((V.setCell ⟨g,0,none⟩ v0).setCell ⟨g,1,none⟩ v1).cell? ⟨gb,0,none⟩=some (.iface 183 (.pointer (some ⟨mb,0,none⟩)))/\((V.setCell ⟨g,0,none⟩ v0).setCell ⟨g,1,none⟩ v1).cell? ⟨xb,8,none⟩=some (I q.pc)):=λV g hg ⟨h0,h1⟩ v0 v1=>by
   have b3:xb≠g:=by omega
   have QI:gb≠g:=by have:=H0.o;have:=U.o;omega
   rw[cN _ _ _ _ _ _ b3,cN _ _ _ _ _ _ b3,cN _ _ _ _ _ _ QI,cN _ _ _ _ _ _ QI];exact⟨h0,h1⟩
  go_region_held3 (λV=>V.cell? ⟨gb,0,none⟩=some (.iface 183 (.pointer (some ⟨mb,0,none⟩)))/\V.cell? ⟨xb,8,none⟩=some (I q.pc)) (first | exact o5.o | exact ZE.o | exact Cu.o | exact Fq.o _ | exact Uq.o _ _ | exact bP.o _ _ _)
   (first | (go_at_call 254;refine(L.o _ (by first | exact eB.o | exact dz.o)).mono ?_;rintro e w2 ⟨D2,rfl,au,a0,b0⟩;have O:Hid (aI D WA w2):=(by first | exact(aI.drew D WA).trans a0 (λ_ _ g=>g) | exact((aI.alloc D WA (.cells #[I 0,I 0] 75)).trans (aI.drew D _) (λ_ _ g=>g)).trans a0 (λ_ _ g=>g));have Cu:=ai (HS.o _ O.o);have Fq:=ai (λob=>HS.o _ (O.o.trans (aI.alloc D w2 ob) (λ_ _ g=>g)));have Uq:=ai (aY.o w2 WA.heap.size a9 Cu.o);have bP:=ai (λob=>aY.o (w2.alloc ob) w2.heap.size (gm a9 O.o.size) (Fq.o ob));have Cw:=ai (ia.behind HC.o HG.o (by first | exact eB.o | exact dz.o) (cY.ML HC.o (HG.o.below HC.o (by first | exact eB.o | exact dz.o)) au a0 b0));have aX:=ai (O.o.keep BF.o bn.o);have aE:=ai (O.o.keep BX.o uy.o);(try (have Ih:=ai (a0.keep (w:=(WA.alloc (.cells #[I 0,I 0] 75)).drew) (bG WA #[I 0,I 0] 75) aD.o);have z0:=aA (v:=I 0) Ih.o 0 rfl;have z1:=aA (v:=I 0) Ih.o 1 rfl;have z2:=br Ih.o 0;have z3:=br Ih.o 1));clear au a0 b0))
  all_goals
   go_wp2_with fail
   go_meet
   case rel =>
    have e1:=H0.o;have e2:=U.o;have e3:=O.o.size
    first
    | exact⟨_,rfl,rfl,ω,bG w2 _ _,bB aX.o _,bB aE.o _,(Cw.o.alloc HC.o _).sub (λb e=>by rcases e with rfl | rfl | rfl;exact .inl ⟨ω,by show _<WA.heap.size;omega⟩;exact .inl ⟨ω,by show _<WA.heap.size;omega⟩;exact .inr rfl)⟩
    | exact⟨_,rfl,rfl,a9,dm (dm Ih.o 0 _) 1 _,jy (jy aX.o WA.heap.size 0 _ ω) WA.heap.size 1 _ ω,jy (jy aE.o WA.heap.size 0 _ ω) WA.heap.size 1 _ ω,((Cw.o.set HC.o ⟨WA.heap.size,0,none⟩ _ ⟨mh.o.size,by show WA.heap.size<(WA.alloc _).heap.size;rw[fp];omega⟩ mh.o.size).set HC.o ⟨WA.heap.size,1,none⟩ _ ⟨mh.o.size,by show WA.heap.size<(WA.alloc _).heap.size;rw[fp];omega⟩ mh.o.size).sub (λb e=>by rcases e with rfl | rfl | rfl <;> exact⟨ω,by show _<(WA.alloc _).heap.size;rw[fp];omega⟩)⟩
 case rest =>
  obtain⟨zb,rfl,rfl,cc,hz,hf,hx,hl⟩:=hcut;have HZ:=ai hz;have HF:=ai hf;have HX:=ai hx;have HL:=ai hl;have z0:=aA (v:=I X1) hz 0 rfl;have z1:=aA (v:=I X2) hz 1 rfl;have f0:=aA (v:=I 0) hf 0 rfl;have f1:=aA (v:=I 0) hf 1 rfl;have e0:=br hf 0;have e1:=br hf 1;have M:w.heap.size<=fb:=by have:=U.o;omega
  clear HS o5 ZE eB dz L hz hf hx hl Kg aD mh BF BX a9;by_cases hX1:X1=0
  . subst hX1;have h8:d.size=8:=by have:=T.o rfl;omega
    have ZF:Hid (fZ Ok { st with mem:=X3 }):=CA QB.o Z.o;have ah:=ai (λV=>acN q d V h8);have UG:=ai (GX HC.o.ok ZF.o k Dg.o b8.o (iq d) (BV d h8));rw[<- HY.o] at UG;obtain⟨D1,r1,o1,am,aF,az,MO⟩:=HL.o;have R:=ai am;have af:=ai aF;have aj:=ai az;have J:=ai MO;have YS:Hid (∀V,Below wc.heap.size wc V->Calls prog 150 #[.pointer (some ⟨gb,0,none⟩),I (k:Int),.agg (pZ q (iq d))] V λe w'=>e=.returned (.tuple #[I Y.1.1,.agg (il Y.1.2)])/\cY Hd lo mb gb V D1 r1 o1 Y.2 w'):=λV hV=>by
     have:=Um HC.o k (iq d) V (am.below HC.o hV) ZF.o Dg.o b8.o;rw[<- HY.o] at this;have bS:aR (dC.ps { st with mem:=X3 }) k=q:=HQ.o.symm;rw[bS] at this;exact this
    obtain⟨k0,k1,k2,k3,k4,av⟩:=abj q (iq d);rw[av] at ah YS;obtain⟨⟨v,F1,F2⟩,s2⟩:=Y;unfold il at YS;simp only at YS UG y;have N:Hid (RR=if ¬F1=0 then ((F1,F2),s2) else ((0,0),{ s2 with ps:=pV (iq d) n (s2.ps.set k (di (aR s2.ps k) (iq d) v)) })):=by rw[y.o,aH (λg=>g trivial)];exact rfl
    clear am aF az MO av y T Z;have g1:=aA (v:=r1) R.o.head 1 rfl;obtain⟨a1,ay,ab,_,_⟩:=bh R.o.procs;simp only at ab;rw[<- HN.o] at ab;subst ab;have bx:Hid (wc.heap[xb]?=some (.cells #[I (q.r 0),I (q.r 1),I (q.r 2),I (q.r 3),I (q.r 4),I (q.r 5),I (q.r 6),I (q.r 7),I q.pc,I q.st,I q.cd,I q.fk,I q.fa] 77 (0,0))):=HX;have p0:=aA (v:=I (q.r 0)) HX.o 0 rfl;have p1:=aA (v:=I (q.r 1)) HX.o 1 rfl;have p2:=aA (v:=I (q.r 2)) HX.o 2 rfl;have p3:=aA (v:=I (q.r 3)) HX.o 3 rfl;have p4:=aA (v:=I (q.r 4)) HX.o 4 rfl;have p5:=aA (v:=I (q.r 5)) HX.o 5 rfl;have p6:=aA (v:=I (q.r 6)) HX.o 6 rfl;have p7:=aA (v:=I (q.r 7)) HX.o 7 rfl;have p8:=aA (v:=I q.pc) HX.o 8 rfl;have p9:=aA (v:=I q.st) HX.o 9 rfl;have bz:=aA (v:=I q.cd) HX.o 10 rfl;have bX:=aA (v:=I q.fk) HX.o 11 rfl;have bi:=aA (v:=I q.fa) HX.o 12 rfl;have vv:Hid (∀V,Calls prog 149 #[.agg #[I (q.r 0),I (q.r 1),I (q.r 2),I (q.r 3),I (q.r 4),I (q.r 5),I (q.r 6),I (q.r 7),I q.pc,I q.st,I q.cd,I q.fk,I q.fa],.string d] V λe w'=>e=.returned (.tuple #[.agg #[I k0,I k1,I k2,I k3,I k4],I 0])/\Below V.heap.size V w'):=ah;have cl:=aM HZ.o;have aw:fb≠zb:=by have:=H0.o;omega
    by_cases hF1:F1=0
    . subst hF1;have a4:Hid (RR=((0,0),{ s2 with ps:=pV (iq d) n (s2.ps.set k (di (aR s2.ps k) (iq d) v)) })):=by rw[N.o,aH (λg=>g rfl)];exact rfl
      clear N;go_wp2_with (first
       | (go_at_call 149;refine(vv.o _).mono ?_;rintro e w3 ⟨rfl,F⟩;have kE:=ai F;have vX:=ai (F.alloc F.size (.cells #[I k0,I k1,I k2,I k3,I k4] 110));have BA:=ai (bG w3 #[I k0,I k1,I k2,I k3,I k4] 110);have g2:(w3.alloc (.cells #[I k0,I k1,I k2,I k3,I k4] 110)).cell? ⟨gb,1,none⟩=some (.slice a1 n ay):=(vX.o.cell (p:=⟨gb,1,none⟩) (aM R.o.head)).trans g1;clear F)
       | (go_at_call 150;refine(YS.o _ vX.o).mono ?_;rintro e w5 ⟨rfl,G⟩;have a6:=ai G;have B:=ai (G.keep (bB (aO HZ.o kE.o (aM HZ.o)) _) (J.o zb (.inr (.inr rfl))));have A:=ai (G.keep (bB (aO HF.o kE.o (aM HF.o)) _) (J.o fb (.inl rfl)));have y0:=aA (v:=I 0) B.o 0 rfl;have y1:=aA (v:=I X2) B.o 1 rfl;have y2:=br B.o 0;have y3:=br B.o 1;have t0:=aA (v:=I 0) A.o 0 rfl;have t1:=aA (v:=I 0) A.o 1 rfl;have t2:=br A.o 0;have t3:=br A.o 1;clear G))
      obtain⟨K,bp,Q⟩:=UG.o.plain rfl;have aa:n<=s2.ps.length/\s2.ps.length<=n+1:=by
       have hn:=HN.o;rcases K with⟨e,_⟩ | ⟨_,e,_⟩
       . rw[show s2.ps=st.ps from e];omega
       rw[show s2.ps=st.ps++[aR st.ps k] from e,gM,zI];omega
      have W:w.heap.size<=zb:=by have:=H0.o;omega
      have a5:=ia.step (ys:=(λb=>b=fb\/b=xb\/b=zb)) (λb hb=>by have s4:=vX.o.size;have l1:=aM HF.o;have l2:=aM HX.o;have l3:=aM HZ.o;rcases hb with e | e | e <;> rw[e] <;> omega) (af.o.trans (aI.cA vX.o) (λ_ _ g=>g)) aj.o J.o a6.o;have b5:=(a5.set HC.o ⟨zb,0,none⟩ (I 0) (.inr (.inr rfl)) W).set HC.o ⟨zb,1,none⟩ (I F2) (.inr (.inr rfl)) W;have a8:=jy (jy A.o zb 0 (I 0) aw) zb 1 (I F2) aw;generalize (w5.setCell ⟨zb,0,none⟩ (I 0)).setCell ⟨zb,1,none⟩ (I F2)=W6 at b5 a8 ⊢;obtain⟨D6,r6,o6,b1,aq,aP,ae⟩:=b5;have bo:=aM a8;refine(OC HC.o k d v W6 b1 ω ω h8 Q).mono ?_;rintro e w7 ⟨rfl,ag⟩;have b2:=ag.keep a8 (ae fb (.inl rfl));have b6:=ia.step (ys:=λb=>b=fb) (λb e=>by rw[e];exact bo) aq aP (λb e=>ae b (.inl e)) ag;have aS:=ai b6;have bA:=ai b2;have Tk:=ai Q;have cf:=ai aa;obtain⟨PS,ap⟩:=ex (s2.ps.set k (di (aR s2.ps k) (iq d) v));rw[<- ap] at aS a4;have al:PS.length=s2.ps.length:=by rw[ap,gX]
      generalize s2.ps.length=m at al aa;have a3:=ai al;clear ag b6 b2 a8 ae aP aq b1 a5 Q ap K bp a6 B A y0 y1 y2 y3 t0 t1 t2 t3 g2 BA kE vX vv YS ah bx p0 p1 p2 p3 p4 p5 p6 p7 p8 p9 bz bX bi g1 R af aj J z0 z1 f0 f1 e0 e1 al;go_wp2;go_loopw [12] (λx12 wr=>∃j:Nat,n+j<=m/\x12=I ((n+j:Nat):Int)/\ia (λb=>b=fb) Hd lo mb gb w D (.slice (some ⟨pb,0,none⟩) n cap) vo { s2 with ps:=mC (iq d) n PS j } wr/\wr.heap[fb]?=some (.cells #[I 0,I 0] 75 (0,0))) (λx12 _=>m-(intOf x12).toNat)
      case atStart=>exact⟨0,ω,rfl,aS.o,bA.o⟩
      case round =>
       obtain⟨j,hj,rfl,hl,hf⟩:=hrel;have VL:=ai hf;obtain⟨Dr,rr,ba,ac,b9,aC,ZQ⟩:=hl;have ao:=ai ac;have ar:=ai b9;have aG:=ai aC;have ad:=ai ZQ;obtain⟨a7,c7,bb,_,_⟩:=bh ac.procs;have bd:rr=.slice a7 m c7:=by
        rw[bb];show Value.slice a7 (mC (iq d) n PS j).length c7=_;rw[qp,a3.o]
       subst bd;have x1:=aA (v:=.slice a7 m c7) ao.o.head 1 rfl;clear hf ac b9 aC ZQ bb;by_cases hlt:n+j<m
       . have bm:Hid (Calls prog 151 #[.pointer (some ⟨gb,0,none⟩),I ((n+j:Nat):Int),.string d,I 0] wr λe w'=>e=.returned (.tuple #[])/\cY Hd lo mb gb wr Dr (.slice a7 m c7) ba { s2 with ps:=mC (iq d) n PS (j+1) } w'):=OC HC.o (n+j) d 0 wr ao.o (by show(mC (iq d) n PS j).length<=1000;rw[qp,a3.o];omega) (by show n+j<(mC (iq d) n PS j).length;rw[qp,a3.o];omega) h8 Tk.o;have bv:((n+j:Nat):Int)<(m:Int):=by omega
         go_wp2_with (go_at_call 151;refine bm.o.mono ?_;rintro e w8 ⟨rfl,an⟩;have bF:=ai (ia.step (ys:=λb=>b=fb) (λb e=>(by rw[e];exact aM VL.o)) ar.o aG.o ad.o an);have bq:=ai (an.keep VL.o (ad.o fb rfl));clear an)
         go_roundw
         case rel=>exact⟨j+1,ω,by go_num,bF.o,bq.o⟩
         case measure=>simp[intOf];omega
       have aL:j=PS.length-n:=by have:=a3.o;omega
       have Mk:Hid (ia (λb=>b=fb) Hd lo mb gb w D (.slice (some ⟨pb,0,none⟩) n cap) vo { s2 with ps:=pV (iq d) n PS } wr):=by
        show ia _ _ _ _ _ _ _ _ _ _ _;rw[<- SD (iq d) n PS (by have:=a3.o;omega),<- aL];exact⟨Dr,_,ba,ao.o,ar.o,aG.o,ad.o⟩
       have t0:=aA (v:=I 0) VL.o 0 rfl;have t1:=aA (v:=I 0) VL.o 1 rfl;have t2:=br VL.o 0;have t3:=br VL.o 1;have bv:¬((n+j:Nat):Int)<(m:Int):=by omega
       clear aL;go_wp2;refine bW (v:=.agg #[I 0,I 0]) (by simp[results,results96,go_sem,t0,t1]) rfl ?_;rw[a4.o];exact⟨rfl,((Mk.o.set HC.o ⟨fb,0,none⟩ _ rfl M).set HC.o ⟨fb,1,none⟩ _ rfl M).left⟩
    have ce:(F1==0)=false:=by rw[jx];exact hF1
    have a4:Hid (RR=((F1,F2),s2)):=by rw[N.o,aQ hF1];exact rfl
    clear N hF1;go_wp2_with (first
     | (go_at_call 149;refine(vv.o _).mono ?_;rintro e w3 ⟨rfl,F⟩;have kE:=ai F;have vX:=ai (F.alloc F.size (.cells #[I k0,I k1,I k2,I k3,I k4] 110));have BA:=ai (bG w3 #[I k0,I k1,I k2,I k3,I k4] 110);have g2:(w3.alloc (.cells #[I k0,I k1,I k2,I k3,I k4] 110)).cell? ⟨gb,1,none⟩=some (.slice a1 n ay):=(vX.o.cell (p:=⟨gb,1,none⟩) (aM R.o.head)).trans g1;clear F)
     | (go_at_call 150;refine(YS.o _ vX.o).mono ?_;rintro e w5 ⟨rfl,G⟩;have a6:=ai G;have B:=ai (G.keep (bB (aO HZ.o kE.o (aM HZ.o)) _) (J.o zb (.inr (.inr rfl))));have A:=ai (G.keep (bB (aO HF.o kE.o (aM HF.o)) _) (J.o fb (.inl rfl)));have y0:=aA (v:=I 0) B.o 0 rfl;have y1:=aA (v:=I X2) B.o 1 rfl;have y2:=br B.o 0;have y3:=br B.o 1;have t0:=aA (v:=I 0) A.o 0 rfl;have t1:=aA (v:=I 0) A.o 1 rfl;have t2:=br A.o 0;have t3:=br A.o 1;clear G))
    refine bW (v:=.agg #[I F1,I F2]) (by simp[results,results96,go_sem,t0,t1]) rfl ?_;rw[a4.o];have a5:=ia.step (ys:=(λb=>b=fb\/b=xb\/b=zb)) (λb hb=>by have s4:=vX.o.size;have l1:=aM HF.o;have l2:=aM HX.o;have l3:=aM HZ.o;rcases hb with e | e | e <;> rw[e] <;> omega) (af.o.trans (aI.cA vX.o) (λ_ _ g=>g)) aj.o J.o a6.o;have W:w.heap.size<=zb:=by have:=H0.o;omega
    exact⟨rfl,((((a5.set HC.o ⟨zb,0,none⟩ _ (.inr (.inr rfl)) W).set HC.o ⟨zb,1,none⟩ _ (.inr (.inr rfl)) W).set HC.o ⟨fb,0,none⟩ _ (.inl rfl) M).set HC.o ⟨fb,1,none⟩ _ (.inl rfl) M).left⟩
  have ci:(X1==0)=false:=by rw[jx];exact hX1
  have N:Hid (RR=((X1,X2),{ st with mem:=X3 })):=by rw[y.o,aQ hX1];exact rfl
  clear y hX1;go_wp2;refine bW (v:=.agg #[I X1,I X2]) (by simp[results,results96,go_sem,f0,f1]) rfl ?_;rw[N.o];exact⟨rfl,((HL.o.set HC.o ⟨fb,0,none⟩ _ (.inl rfl) M).set HC.o ⟨fb,1,none⟩ _ (.inl rfl) M).left⟩
open Go.RowKit Tryz
section
variable {σ:Type} {Hd:World->(Nat->Prop)->σ->Prop} {Ok:σ->List Bool->Prop} {o:iZ σ} {lo mb gb:Nat} {w w':World} {D:Nat->Prop} {vo:Value} {st:dC σ}
theorem gD.asM (C:jc lo mb Hd Ok o) {pb n cap:Nat} (h:gD Hd lo mb gb w D (.slice (some ⟨pb,0,none⟩) n cap) vo st) (k:Nat) (hk:k<st.ps.length) (hn:n=st.ps.length) (x:Int×Int) :
  cY Hd lo mb gb w D (.slice (some ⟨pb,0,none⟩) n cap) vo { st with ps:=st.ps.set k (za (aR st.ps k) x) } (((w.setCell ⟨pb,k*13+9,none⟩ (I 3)).setCell ⟨pb,k*13+11,none⟩ (I x.1)).setCell ⟨pb,k*13+12,none⟩ (I x.2)):=by
 have hb:qz (.slice (some ⟨pb,0,none⟩) n cap) pb:=rfl;have kS:aI (λb=>b=pb) w (((w.setCell ⟨pb,k*13+9,none⟩ (I 3)).setCell ⟨pb,k*13+11,none⟩ (I x.1)).setCell ⟨pb,k*13+12,none⟩ (I x.2)):=vw w pb _ _ _ _ _ _ rfl;refine⟨D,.slice (some ⟨pb,0,none⟩) n cap,vo,⟨kS.keep h.head (λe=>h.n2 (e ▸ hb)),C.kp _ _ _ _ _ h.mem kS (λb hd e=>h.n4 pb hb (e ▸ hd)),?_,kS.row h.outs (λg hg e=>h.n6 pb hb (e ▸ hg)),h.base,h.n1,h.n2,h.n3,h.n4,h.n5,h.n6⟩,kS.mono (λb _ e=>.inr (.inr (.inl (e ▸ hb)))),λb hb=>.inl hb⟩;have hp:=h.procs;rw[<- hn] at hp;show World.ownsRow _ lo _ 13 _ (st.ps.set k _).length _;rw[gX,<- hn];obtain⟨q,hq⟩:=ex (aR st.ps k);rw[<- hq];have h0:(st.ps.set k q).flatMap bV=st.ps.flatMap bV:=zZ bV C5 st.ps k q hk (by rw[hq];rfl);rw[<- h0] at hp;have r1:=fI hp (k*13+9) (I 3);rw[<- iQ st.ps k hk q { q with st:=3 } 9 ω _ rfl] at r1;have r2:=fI r1 (k*13+11) (I x.1);rw[<- iQ st.ps k hk { q with st:=3 } { q with st:=3,fk:=x.1 } 11 ω _ rfl] at r2;have r3:=fI r2 (k*13+12) (I x.2);rw[<- iQ st.ps k hk { q with st:=3,fk:=x.1 } { q with st:=3,fk:=x.1,fa:=x.2 } 12 ω _ rfl] at r3;exact r3
end
variable {σ:Type} {Hd:World->(Nat->Prop)->σ->Prop} {Ok:σ->List Bool->Prop} {o:iZ σ} {lo mb gb:Nat} {D:Nat->Prop} {vr vo:Value} {st:dC σ}
theorem abd (C:jc lo mb Hd Ok o) (pick:Int) (w:World) (h:gD Hd lo mb gb w D vr vo st) (hok:fZ Ok st) :
  Calls prog 47 #[.pointer (some ⟨gb,0,none⟩),I pick] w λe w'=>e=.returned (I (fJ o st pick).1)/\cY Hd lo mb gb w D vr vo (fJ o st pick).2 w':=by
 have HG:=ai h;have HC:=ai C;have QB:=ai hok;have Ho:st.ps.length<=4:=by have:=C.ok.few _ _ hok.mem;unfold cI at this;rw[jw] at this;exact this
 obtain⟨ar,cr,Jt,_,_⟩:=bh h.procs;obtain⟨ao,co,Y,_,_⟩:=bh h.outs;have af:=ai Jt;have aa:=ai Y;have q:Hid (fJ o st pick=if ¬(0<=pick/\pick<(st.ps.length:Int)) then (6,st) else if ¬(aR st.ps pick.toNat).st=1 then (0,st) else if 2000<=st.out.length then (2,st) else if (mO o st pick.toNat).1.1=0 then (0,(mO o st pick.toNat).2) else (0,{ (mO o st pick.toNat).2 with mem:=o.drop (mO o st pick.toNat).2.mem pick.toNat,ps:=(mO o st pick.toNat).2.ps.set pick.toNat (za (aR (mO o st pick.toNat).2.ps pick.toNat) (mO o st pick.toNat).1) })):=rfl;generalize fJ o st pick=RR at q ⊢;obtain⟨n,hn⟩:=ex st.ps.length;obtain⟨no,J⟩:=ex st.out.length;rw[<- hn] at Jt Ho q;rw[<- J] at Y q;have HN:=ai hn;have sS:=ai J;have QH:no<=2000:=by rw[J];exact hok.out
 subst Jt Y;obtain⟨g0,g1,g2⟩:=uo h.head;clear hn J af aa;by_cases hp0:pick<0
 . have HR:Hid (RR=(6,st)):=by rw[q.o,aQ ω];exact rfl
   clear q h C hok;go_enter func47,ntmps47;go_wp2;go_ret;rw[HR.o];exact⟨rfl,cY.refl HG.o⟩
 by_cases hp1:(n:Int)<=pick
 . have HR:Hid (RR=(6,st)):=by rw[q.o,aQ ω];exact rfl
   clear q h C hok;go_enter func47,ntmps47;go_wp2;go_ret;rw[HR.o];exact⟨rfl,cY.refl HG.o⟩
 obtain⟨k,rfl⟩:∃k:Nat,pick=(k:Int):=⟨pick.toNat,ω⟩;have hk:k<n:=by omega
 have y:k<st.ps.length:=by rw[<- HN.o];exact hk
 obtain⟨pb,cap,Jt,av,U,Wu⟩:=h.proc k y;injection Jt with e1 e2 e3;subst e1 e3;clear e2;have pK:=ai U;have aj:=ai Wu;have Il:(k:Int)<(n:Int):=by omega
 have Z:=q.o;rw[aH ω,kq] at Z;have Fq:=ai Z;obtain⟨s9,K⟩:=ex ((aR st.ps k).st);have c9:w.cell? ⟨pb,k*13+9,none⟩=some (I s9):=by rw[K];exact U 9 ω
 rw[<- K] at Fq;have ad:=ai K;clear q Z U Wu K;by_cases hs1:s9=1
 . subst hs1;have h1:(aR st.ps k).st=1:=ad.o.symm;by_cases ho2:2000<=no
   . have HR:Hid (RR=(2,st)):=by rw[Fq.o,aH (λg=>g rfl),aQ ho2];exact rfl
     have ae:(2000:Int)<=(no:Int):=by omega
     clear Fq h C hok ho2;go_enter func47,ntmps47;go_wp2;go_ret;rw[HR.o];exact⟨rfl,cY.refl HG.o⟩
   have ae:¬(2000:Int)<=(no:Int):=by omega
   have G:=ai (agv C k w h hok y h1);have F:=ai (J2 C.ok hok (by rw[<- sS.o];omega) k y h1);have A:Hid (RR=if (mO o st k).1.1=0 then (0,(mO o st k).2) else (0,{ (mO o st k).2 with mem:=o.drop (mO o st k).2.mem k,ps:=(mO o st k).2.ps.set k (za (aR (mO o st k).2.ps k) (mO o st k).1) })):=by rw[Fq.o,aH (λg=>g rfl),aH ho2];exact rfl
   generalize mO o st k=X at G F A;obtain⟨⟨X1,X2⟩,s2⟩:=X;unfold il at G;simp only at G F A;clear Fq h C hok ho2;by_cases hX1:X1=0
   . subst hX1;have HR:Hid (RR=(0,s2)):=by rw[A.o,aQ rfl];exact rfl
     clear A;go_enter func47,ntmps47;go_wp2_with (go_at_call 96;refine G.o.mono ?_;rintro e w1 ⟨rfl,Te⟩;have a8:=ai Te;clear Te);go_ret;rw[HR.o];exact⟨rfl,a8.o.more HC.o ((aN _ _).alloc (aJ _) _)⟩
   have HR:Hid (RR=(0,{ s2 with mem:=o.drop s2.mem k,ps:=s2.ps.set k (za (aR s2.ps k) (X1,X2)) })):=by rw[A.o,aH hX1];exact rfl
   have al:(X1==0)=false:=by rw[jx];exact hX1
   have r:s2.ps=st.ps:=F.o.same hX1;have a6:fZ Ok s2:=F.o.ok;have a5:(cI s2.ps).getD k false=true:=by rw[r];exact jn k y h1
   have ab:=ai a6;have a9:=ai a5;have W:=ai r;have hm:=I7 ⟨mb,0,none⟩;have ha:=Mc ⟨mb,0,none⟩;clear A r a6 a5 hX1 F;go_enter func47,ntmps47;go_wp2_with (first
    | (go_at_call 96;refine G.o.mono ?_;rintro e w1 ⟨rfl,Te⟩;obtain⟨D1,r1,o1,L,a4,a2⟩:=Te;have ZF:=ai L;have Dg:=ai a4;have ac:=ai a2;have a0:=ai ((aN w1.heap.size w1).alloc (aJ _) (.cells #[I X1,I X2] 75));have x0:=aA (v:=.iface 183 (.pointer (some ⟨mb,0,none⟩))) L.head 0 rfl;have aw:(w1.alloc (.cells #[I X1,I X2] 75)).cell? ⟨gb,0,none⟩=some (.iface 183 (.pointer (some ⟨mb,0,none⟩))):=aA (bB L.head _) 0 rfl;clear L a4 a2)
    | (go_at_call 252;refine(HC.o.drop _ D1 s2.mem _ k (ZF.o.below HC.o a0.o).mem ab.o.mem a9.o).mono ?_;rintro e w2 ⟨D2,rfl,a3,N,a1⟩;have T:=ai ((ZF.o.below HC.o a0.o).turn HC.o a3 N a1);have Aa:=ai N;have ag:=ai a1;have Ih:=ai (N.keep (bG w1 #[I X1,I X2] 75) (λg=>(by have:=HC.o.dom _ _ _ ZF.o.mem _ g;omega)));clear a3 N a1))
   obtain⟨B,Q,a7,an,O,M⟩:=T.o.proc k (by show k<s2.ps.length;rw[W.o];exact y);have R:s2.ps.length=n:=by rw[W.o];exact HN.o.symm
   have ah:r1=.slice (some ⟨B,0,none⟩) n Q:=by rw[a7];show Value.slice _ s2.ps.length _=_;rw[R]
   subst ah;have x1:w2.cell? ⟨gb,1,none⟩=some (.slice (some ⟨B,0,none⟩) n Q):=aA T.o.head 1 rfl;have z0:=aA (v:=I X1) Ih.o 0 rfl;have z1:=aA (v:=I X2) Ih.o 1 rfl;have d9:w2.cell? ⟨B,k*13+9,none⟩=some (I (aR s2.ps k).st):=O 9 ω;have au:w2.cell? ⟨B,k*13+11,none⟩=some (I (aR s2.ps k).fk):=O 11 ω;have am:w2.cell? ⟨B,k*13+12,none⟩=some (I (aR s2.ps k).fa):=O 12 ω;have f9:=M (k*13+9);have ay:=M (k*13+11);have aq:=M (k*13+12);have Cw:=ai R;clear a7 O M R;go_region
   all_goals
    go_wp2;go_ret;rw[HR.o];have hs:=(T.o.asM HC.o k (by show k<s2.ps.length;rw[W.o];exact y) (by show n=s2.ps.length;rw[Cw.o]) (X1,X2)).more HC.o (aN _ _).drew;refine⟨rfl,cY.trans Dg.o ac.o (cY.after a0.o (cY.trans (Aa.o.mono (λb _ g=>.inr (.inl g))) (λb hb=>?_) hs))⟩;rcases hb with g | g | g | g
    . exact .inl (.inl g)
    . rcases ag.o b g with x | x
      . exact .inl (.inr (.inl x))
      exact .inr x
    . exact .inl (.inr (.inr (.inl g)))
    exact .inl (.inr (.inr (.inr g)))
 have HR:Hid (RR=(0,st)):=by rw[Fq.o,aQ hs1];exact rfl
 have ap:(s9==1)=false:=by rw[jx];exact hs1
 clear Fq h C hok hs1;go_enter func47,ntmps47;go_wp2;go_ret;rw[HR.o];exact⟨rfl,cY.refl HG.o⟩
def yE (w:World) (ao:Option Addr) (l:List Int):Prop:=0<l.length->∃b off,ao=some ⟨b,off,none⟩/\b<w.heap.size/\∀i,i<l.length->w.cell? ⟨b,off+i,none⟩=some (I (l.getD i 0))
def Ak (Hd:World->(Nat->Prop)->σ->Prop) (lo mb gb:Nat) (w:World) (D:Nat->Prop) (vr vo:Value) (r:Int×Option (dC σ)) (e:Ending) (w':World):Prop:=e=.returned (I r.1)/\aI (kV gb D vr vo) w w'/\∀s,r.2=some s->cY Hd lo mb gb w D vr vo s w'
theorem adT (C:jc lo mb Hd Ok o) (picks:List Int) (ap:Option Addr) (cp:Nat) (w:World) (h:gD Hd lo mb gb w D vr vo st) (hok:fZ Ok st) (hp:yE w ap picks) (hps:0<picks.length->∀b,ap=some b->¬kV gb D vr vo b.block) (hpn:picks.length<=140737488351232) :
  Calls prog 62 #[.pointer (some ⟨gb,0,none⟩),.slice ap picks.length cp] w (Ak Hd lo mb gb w D vr vo (xc o st picks)):=by
 have HG:=ai h;have HC:=ai C;have QB:=ai hok;have HP:=ai hp;have W:=ai hps;have r:Hid (xc o st picks=if 2000<picks.length then ((2:Int),none) else match gK o picks picks.length (some st) with | none=>(2,none) | some s=>(0,some s)):=rfl;have Me:Hid (∀n s,gK o picks n (some st)=some s->gK o picks (n+1) (some st)=if (fJ o s (picks.getD n 0)).1=2 then none else some (fJ o s (picks.getD n 0)).2):=λn s e=>by
  show(match gK o picks n (some st) with | none=>none | some s=>if (fJ o s (picks.getD n 0)).1=2 then none else some (fJ o s (picks.getD n 0)).2)=_;rw[e]
 have Q:Hid (∀n,gK o picks n (some st)=none->∀m,n<=m->gK o picks m (some st)=none):=λn e m hm=>by
  induction m with
  | zero => obtain rfl:n=0 := by omega
            exact e
  | succ m ih =>
   by_cases c:n=m+1
   . subst c;exact e
   show(match gK o picks m (some st) with | none=>none | some s=>if (fJ o s (picks.getD m 0)).1=2 then none else some (fJ o s (picks.getD m 0)).2)=_;rw[ih ω]
 have L:=ai (Cy C.ok hok picks);have Bu:Hid (gK o picks 0 (some st)=some st):=rfl;generalize xc o st picks=RR at r ⊢;obtain⟨np,FC⟩:=ex picks.length;rw[<- FC] at r hpn ⊢;have G:=ai FC;have eW:Hid (∀e w',Ak Hd lo mb gb w D vr vo RR e w'↔(e=.returned (I RR.1)/\aI (kV gb D vr vo) w w'/\∀s,RR.2=some s->cY Hd lo mb gb w D vr vo s w')):=λe w'=>Iff.rfl
 generalize Ak Hd lo mb gb w D vr vo RR=P at eW ⊢;clear FC h C hok hp hps;by_cases hbig:2000<np
 . have HR:Hid (RR=(2,none)):=by rw[r.o,aQ hbig];exact rfl
   have Y:(2000:Int)<(np:Int):=by omega
   clear r Me Q L Bu hbig;go_enter func62,ntmps62;go_wp2;refine(eW.o _ _).2 ?_;rw[HR.o];exact⟨rfl,aI.refl _ _,λs e=>by cases e⟩
 have Y:¬(2000:Int)<(np:Int):=by omega
 have Ii:Hid (RR=match gK o picks np (some st) with | none=>((2:Int),none) | some s=>(0,some s)):=by have:=r.o;rw[aH hbig] at this;exact this
 clear r;go_enter func62,ntmps62;go_wp2;go_loopw [12] (λiv wr=>∃(j:Nat) (s:dC σ),j<=np/\iv=I (j:Int)/\gK o picks j (some st)=some s/\cY Hd lo mb gb w D vr vo s wr) (λiv _=>np-(intOf iv).toNat)
 case atStart=>exact⟨0,st,ω,rfl,Bu.o,cY.refl HG.o⟩
 case round =>
  obtain⟨j,s,hj,rfl,B,hl⟩:=hrel;have R:=ai B;have HL:=ai hl;have Z:=ai (L.o j s B);obtain⟨D1,r1,o1,K,N,M⟩:=hl;have ZF:=ai K;have Dg:=ai N;have O:=ai M;clear B K N M;by_cases hlt:j<np
  . obtain⟨b,off,T,a2,A⟩:=HP.o (by rw[<- G.o];omega);subst T;have U:wr.cell? ⟨b,off+j,none⟩=some (I (picks.getD j 0)):=Dg.o.cell (A j (by rw[<- G.o];exact hlt)) (W.o (by rw[<- G.o];omega) ⟨b,off,none⟩ rfl);have q:=ai (Me.o j s R.o);generalize picks.getD j 0=pk at U q;have F:=ai (abd HC.o pk wr ZF.o Z.o);generalize fJ o s pk=X at q F;obtain⟨x1,s2⟩:=X;simp only at q F;have a0:(j:Int)<(np:Int):=by omega
    clear A;by_cases hx:x1=2
    . subst hx;have sS:=ai (Q.o (j+1) (by rw[q.o,aQ rfl]) np ω);have HR:Hid (RR=(2,none)):=by have:=Ii.o;rw[sS.o] at this;exact this
      clear q Ii sS;go_wp2_with (go_at_call 47;refine F.o.mono ?_;rintro e w2 ⟨rfl,y⟩;have Cw:=ai (cY.trans Dg.o O.o y);clear y);refine(eW.o _ _).2 ?_;rw[HR.o];obtain⟨_,_,_,_,J,_⟩:=Cw.o;exact⟨rfl,J,λs e=>by cases e⟩
    have a1:(x1==2)=false:=by rw[jx];exact hx
    have uy:Hid (gK o picks (j+1) (some st)=some s2):=by rw[q.o,aH hx];exact rfl
    clear q hx;go_wp2_with (go_at_call 47;refine F.o.mono ?_;rintro e w2 ⟨rfl,y⟩;have Cw:=ai (cY.trans Dg.o O.o y);clear y);go_roundw
    case rel=>exact⟨j+1,s2,ω,by go_num,uy.o,Cw.o⟩
    case measure=>simp[intOf];omega
  obtain rfl:j=np:=by omega
  have HR:Hid (RR=(0,some s)):=by have:=Ii.o;rw[R.o] at this;exact this
  clear Ii;go_wp2;refine(eW.o _ _).2 ?_;rw[HR.o];obtain⟨_,_,_,_,J,_⟩:=HL.o;exact⟨rfl,J,λs' e=>by injection e with e;rw[<- e];exact HL.o⟩
open Go.RowKit Tryz
def nN (m:iM):dC aT:=⟨m.fA,m.procs,m.out⟩
def A4 (s:dC aT):iM:=⟨s.mem,s.ps,s.out⟩
def wY:iM:=⟨gU,[],[]⟩
def m8 (m:iM) (hs:List bD):iM:=⟨aV m.fA hs,m.procs,m.out⟩
def A5 (m:iM) (r:Int×Option (dC aT)):iM×Int :=
 if ¬eu m=0 then (wY,eu m) else if ¬r.1=0 then (wY,r.1) else match r.2 with
  | none=>(wY,r.1)
  | some s=>(A4 s,0)
def yC (m:iM) (picks:List Int):iM×Int:=A5 m (xc dN (nN m) picks)
def L6 (ps:List bQ):Prop:=∀k,k<ps.length->qN (aR ps k)
theorem Cs {m:iM} (h:eu m=0):bg m.fA/\m.out.length<=2000/\m.procs.length=m.fA.aj.length/\iK m.procs m.out (λk=>(ak m.fA.aj k).live)=true:=by
 unfold eu at h;by_cases c:dD m.fA=0
 . rw[aH (λg=>g c)] at h;by_cases c2:2000<m.out.length
   . rw[aQ c2] at h;cases h
   rw[aH c2] at h;by_cases c3:m.procs.length=m.fA.aj.length/\iK m.procs m.out (λk=>(ak m.fA.aj k).live)=true
   . exact⟨(wV _).1 c,ω,c3.1,c3.2⟩
   rw[aH c3] at h;cases h
 rw[aQ c] at h;exact absurd h c
theorem aa3 {m:iM} (h1:bg m.fA) (h2:m.out.length<=2000) (h3:m.procs.length=m.fA.aj.length) (h4:iK m.procs m.out (λk=>(ak m.fA.aj k).live)=true):eu m=0:=by
 unfold eu;rw[aH (λg=>g ((wV _).2 h1)),aH ω,aQ ⟨h3,h4⟩]
theorem agr {m:iM} (h:eu m=0) (hf:L6 m.procs):fZ gQ (nN m):=by
 obtain⟨h1,h2,h3,h4⟩:=Cs h;unfold iK at h4;rw[<- ET,<- Mq,cV,sV,sV] at h4;obtain⟨h5,h6⟩:=h4;have h5:∀k,k<m.procs.length->eX (aR m.procs k)=true/\(ak m.fA.aj k).live=decide ((aR m.procs k).st=1):=λk hk=>by
  have:=h5 k (uO.2 hk);unfold vV at this;rw[cV] at this;exact⟨this.1,eq_of_beq this.2⟩
 refine⟨⟨h1,?_⟩,hf,λk hk=>(h5 k hk).1,λx hx=>?_,h2⟩
 . show cI m.procs=m.fA.aj.map (·.live);unfold cI;apply List.ext_getElem
   . rw[jw,jw,h3]
   intro k b q;rw[jw] at b q;rw[List.getElem_map,List.getElem_map];have:=(h5 k b).2;unfold ak aR at this;rw[jI,pX q,jI,pX b] at this;exact this.symm
 have:=h6 x hx;unfold xg at this;exact kr this
theorem Pw {s:dC aT} (h:fZ gQ s):eu (A4 s)=0:=by
 have q:=h.mem.flags;have b:s.ps.length=s.mem.aj.length:=by
  have:=dO List.length q;simpa [cI] using this
 refine aa3 h.mem.right h.out b ?_;show iK s.ps s.out _=true;unfold iK;rw[<- ET,<- Mq,cV,sV,sV];refine⟨λk hk=>?_,λx hx=>?_⟩
 . have hk:=uO.1 hk;unfold vV;rw[cV];refine⟨h.right k hk,?_⟩;rw[Hg];have e:=Jd s.ps k;rw[q,dW hk,ju] at e;rw[<- e];have r:k<s.mem.aj.length:=by omega
   show(ak s.mem.aj k).live=_;unfold ak;rw[jI,jI,Ks,pX r];rfl
 have:=h.words x hx;simpa [xg] using this
theorem adQ {w:World} {ao:Option Addr} {l:List bQ} (h:sZ w ao l):oh w ao l.length (l.flatMap bV):=λhm=>by
 obtain⟨b,off,rfl,hb,hl⟩:=h hm;refine⟨_,rfl,λj u hu=>?_⟩;have hlen:=eV bV 13 sL l;have hj:j<l.length*13:=by rw[<- hlen];exact(Ws.1 hu).1
 have hi:j/13<l.length:=by omega
 have hr:j%13<13:=Nat.mod_lt _ ω;have he:j=j/13*13+j%13:=by omega
 obtain⟨r,ZN⟩:=ex (j%13);generalize j/13=i at he hi;rw[<- ZN] at he;rw[<- ZN] at hr;subst he;rw[y9 bV 13 sL C5 l i r hi hr] at hu;obtain⟨c0,c1,c2,c3,c4,c5,c6,lD,c8,c9,B,y,A⟩:=hl i hi;rw[rG];have hx:∀n v,(bV (aR l i))[r]?=some u->r=n->(bV (aR l i))[n]?=some v->w.cell? (Ad b (off+i*13+n))=some v->w.cell? (Ad b (off+(i*13+r)))=some u:=λn v h1 h2 h3 h4=>by
  subst h2;rw[h1] at h3;injection h3 with h3;subst h3;rw[<- zC];exact h4
 have q:(bV (aR l i))[r]?=some u:=hu;rcases(ω:r=0\/r=1\/r=2\/r=3\/r=4\/r=5\/r=6\/r=7\/r=8\/r=9\/r=10\/r=11\/r=12) with e | e | e | e | e | e | e | e | e | e | e | e | e
 . exact hx 0 _ q e rfl c0
 . exact hx 1 _ q e rfl c1
 . exact hx 2 _ q e rfl c2
 . exact hx 3 _ q e rfl c3
 . exact hx 4 _ q e rfl c4
 . exact hx 5 _ q e rfl c5
 . exact hx 6 _ q e rfl c6
 . exact hx 7 _ q e rfl lD
 . exact hx 8 _ q e rfl c8
 . exact hx 9 _ q e rfl c9
 . exact hx 10 _ q e rfl B
 . exact hx 11 _ q e rfl y
 exact hx 12 _ q e rfl A
theorem adO {w:World} {ao:Option Addr} {l:List ra} (h:um w ao l):oh w ao l.length (l.flatMap jP):=λhm=>by
 obtain⟨b,off,rfl,hb,hl⟩:=h hm;refine⟨_,rfl,λj u hu=>?_⟩;have hlen:=eV jP 2 yD l;have hj:j<l.length*2:=by rw[<- hlen];exact(Ws.1 hu).1
 have hi:j/2<l.length:=by omega
 have hr:j%2<2:=Nat.mod_lt _ ω;have he:j=j/2*2+j%2:=by omega
 obtain⟨r,ZN⟩:=ex (j%2);generalize j/2=i at he hi;rw[<- ZN] at he;rw[<- ZN] at hr;subst he;rw[y9 jP 2 yD Ze l i r hi hr] at hu;obtain⟨c0,c1⟩:=hl i hi;rw[rG];have q:(jP (mD l i))[r]?=some u:=hu;rcases(ω:r=0\/r=1) with e | e
 . subst e;have h3:some (I (mD l i).proc)=some u:=q;rw[<- h3];exact c0
 subst e;have h3:some (I (mD l i).value)=some u:=q;rw[<- h3,<- zC];exact c1
theorem agq {w:World} {lo:Nat} {ao:Option Addr} {cap:Nat} {l:List bQ} (h:w.ownsRow lo 77 13 (.slice ao l.length cap) l.length (l.flatMap bV)):sZ w ao l:=λhm=>by
 obtain⟨Zz,cap',e,_,hg⟩:=bh h;injection e with ea _ _;subst ea;obtain⟨g,rfl,_,hlt⟩:=hg hm;refine⟨g,0,rfl,hlt,λi hi=>?_⟩;have hc:∀j,j<13->w.cell? (Ad g (i*13+j))=(bV (aR l i))[j]?:=λj hj=>kF bV sL C5 h i j hi hj
 rw[mi];exact⟨hc 0 ω,hc 1 ω,hc 2 ω,hc 3 ω,hc 4 ω,hc 5 ω,hc 6 ω,hc 7 ω,hc 8 ω,hc 9 ω,hc 10 ω,hc 11 ω,hc 12 ω⟩
theorem ago {w:World} {lo:Nat} {ao:Option Addr} {cap:Nat} {l:List ra} (h:w.ownsRow lo 91 2 (.slice ao l.length cap) l.length (l.flatMap jP)):um w ao l:=λhm=>by
 obtain⟨Zz,cap',e,_,hg⟩:=bh h;injection e with ea _ _;subst ea;obtain⟨g,rfl,_,hlt⟩:=hg hm;refine⟨g,0,rfl,hlt,λi hi=>?_⟩;have hc:∀j,j<2->w.cell? (Ad g (i*2+j))=(jP (mD l i))[j]?:=λj hj=>kF jP yD Ze h i j hi hj
 rw[mi];exact⟨hc 0 ω,hc 1 ω⟩
theorem agp (l:List bQ):∀u∈l.flatMap bV,u.oneCell'=true:=λu hu=>by
 obtain⟨p,_,h⟩:=uP.1 hu;simp only[bV,rC,zF,Hf] at h;rcases h with rfl | rfl | rfl | rfl | rfl | rfl | rfl | rfl | rfl | rfl | rfl | rfl | rfl <;> rfl
theorem agn (l:List ra):∀u∈l.flatMap jP,u.oneCell'=true:=λu hu=>by
 obtain⟨p,_,h⟩:=uP.1 hu;simp only[jP,rC,zF,Hf] at h;rcases h with rfl | rfl <;> rfl
open Go.RowKit Tryz
variable {k k':aT} {fl:List Bool} {j:Nat}
open Go.RowKit Tryz
variable {m:arn} {fl:List Bool} {j:Nat}
open Go.RowKit Tryz
variable {σ τ υ:Type}
open Go.RowKit Tryz
structure afw (l:List aU) (hs:List bD):Prop where
 check:bf l=0
 plain:∀p,(bc l p).2=true->(bc l p).1.zero=false
 aY:hs.map (·.page)=gG l
 m9:dR hs=true
 fine:∀s∈hs,cK s=true
 few:hs.length<=255
variable {l:List aU} {hs:List bD} {nf ns:Int}
theorem Uy (p:Int) (hs:List bD):(dB hs p).isSome=true↔p∈hs.map (·.page):=by
 unfold dB;rw[List.find?_isSome];simp
theorem afw.ahc (h:afw l hs) {p:Int} (hp:(bc l p).2=true):(dB hs p).isSome=true:=by
 rw[Uy,h.aY];exact(Bb h.check).2 hp
theorem Mj (l:List aU) (kd a:Int):bY [⟨true,l,[]⟩] kd a=[]:=rfl
theorem Uz (h:afw l hs) (h3:3<=nf) (h64:nf<=64) (h0:0<=ns) (h5:ns<=512) (ht:bR l<=ns):bg (lK l hs nf ns):=by
 have ef:(lK l hs nf ns).frames.length=nf.toNat:=qL;have es:(lK l hs nf ns).slots.length=ns.toNat:=qL;refine⟨?_,h.m9,⟨by show(0:Int)<=0;omega,by rw[ef];show(0:Int)<_;omega⟩,λs hs'=>?_,?_,λi hi=>?_,λi hi=>?_⟩
 . unfold lh;rw[ef,es];exact dW ⟨ω,ω,⟨aJ 1,by show 1<=4;omega⟩,h.few⟩
 . have e:s=⟨true,l,[]⟩:=by simpa [lK] using hs'
   subst e;exact⟨λx=>(by cases x),h.check,List.Pairwise.nil,λe he=>(by cases he),λp hp _=>h.ahc hp⟩
 . rw[es];show(0:Int)+bR l<=_;omega
 . show lB _ (bY [⟨true,l,[]⟩] 1 i) (aK (List.replicate nf.toNat eG) i);rw[Mj,show aK (List.replicate nf.toNat eG) i=eG by unfold aK;grind];exact⟨rfl,λ_=>rfl,λx hx=>(by cases hx),λx=>absurd rfl x,λ_ x hx=>(by cases hx)⟩
 show mN (bY [⟨true,l,[]⟩] 2 i) (bI (List.replicate ns.toNat gP) i);rw[Mj,show bI (List.replicate ns.toNat gP) i=gP by unfold bI;grind];exact⟨rfl,λ_=>rfl,λx hx=>(by cases hx),λx=>absurd rfl x⟩
end Go.Proofs.YtlgoihmkgaaemaaGreat
