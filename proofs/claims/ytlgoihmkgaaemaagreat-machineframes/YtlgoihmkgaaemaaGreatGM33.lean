import Derived.Test.YtlgoihmkgaaemaaGreatGM32
set_option maxHeartbeats 20000000
set_option linter.unusedVariables false
set_option maxRecDepth 100000
set_option linter.unusedSimpArgs false
namespace Go.Proofs.YtlgoihmkgaaemaaGreat
open Go.RowKit
variable {σ:Type} {Hd:World->(Nat->Prop)->σ->Prop} {Ok:σ->List Bool->Prop} {o:gN σ} {lo mb gb:Nat} {D:Nat->Prop} {vr vo:Value} {st:dA σ}
theorem Zc (p:bO) (i:dR):∃k0 k1 k2 k3 k4,oX p i=#[I k0,I k1,I k2,I k3,I k4]:=by
 unfold oX
 repeat' split
 all_goals exact⟨_,_,_,_,_,rfl⟩
theorem adL (C:iu lo mb Hd Ok o) (k:Nat) (w:World) (h:fQ Hd lo mb gb w D vr vo st) (hok:dK Ok st) (hk:k<st.ps.length) (h1:(aK st.ps k).st=1) :
  Calls Tryz.prog 96 #[.pointer (some ⟨gb,0,none⟩),I (k:Int)] w fun e w'=>e=.returned (.agg (gL (mv o st k).1))/\cD Hd lo mb gb w D vr vo (mv o st k).2 w':=by
 have HG:=ai h;have HC:=ai C;have Nw:=ai hok;have hlv:=ij k hk h1;have Th:=ai hlv;have uY:=ai hk;have HH1:=ai h1;have EM:st.ps.length<=4:=by have:=C.ok.few _ _ hok.mem;unfold bX at this;rw[gV] at this;exact this
 have Q3:=ai (hok.fit k hk);have hgb:=aI h.head;obtain⟨pb,cap,EL,hpb,hpc,Pw⟩:=h.proc k hk;have mr:=ai hpc;have HLD:Hid (∀V,Below w.heap.size w V->Calls Tryz.prog 254 #[.pointer (some ⟨mb,0,none⟩),I (k:Int),I (aK st.ps k).pc,I 8,I 2] V (nV Hd V D (.tuple #[.string (o.load st.mem k (aK st.ps k).pc 8 2).1.1,.agg (gL (o.load st.mem k (aK st.ps k).pc 8 2).1.2)]) (o.load st.mem k (aK st.ps k).pc 8 2).2)):=fun V hV=>C.load V D st.mem _ k _ 8 2 (h.below C hV).mem hok.mem hlv (hok.fit k hk).2 (by omega) (by omega) (.inr rfl)
 have HSZ:=ai (C.ok.size st.mem _ k (aK st.ps k).pc 8 2 hok.mem hlv (by omega) (by omega));have RO:=ai (C.ok.load st.mem _ k (aK st.ps k).pc 8 2 hok.mem hlv);have ZE:Hid (mv o st k=(if ¬(o.load st.mem k (aK st.ps k).pc 8 2).1.2.1=0 then ((o.load st.mem k (aK st.ps k).pc 8 2).1.2,{ st with mem:=(o.load st.mem k (aK st.ps k).pc 8 2).2 }) else if ¬(gq o { st with mem:=(o.load st.mem k (aK st.ps k).pc 8 2).2 } k (iB (o.load st.mem k (aK st.ps k).pc 8 2).1.1)).1.2.1=0 then ((gq o { st with mem:=(o.load st.mem k (aK st.ps k).pc 8 2).2 } k (iB (o.load st.mem k (aK st.ps k).pc 8 2).1.1)).1.2,(gq o { st with mem:=(o.load st.mem k (aK st.ps k).pc 8 2).2 } k (iB (o.load st.mem k (aK st.ps k).pc 8 2).1.1)).2) else ((0,0),{ (gq o { st with mem:=(o.load st.mem k (aK st.ps k).pc 8 2).2 } k (iB (o.load st.mem k (aK st.ps k).pc 8 2).1.1)).2 with ps:=oV (iB (o.load st.mem k (aK st.ps k).pc 8 2).1.1) st.ps.length ((gq o { st with mem:=(o.load st.mem k (aK st.ps k).pc 8 2).2 } k (iB (o.load st.mem k (aK st.ps k).pc 8 2).1.1)).2.ps.set k (cX (aK (gq o { st with mem:=(o.load st.mem k (aK st.ps k).pc 8 2).2 } k (iB (o.load st.mem k (aK st.ps k).pc 8 2).1.1)).2.ps k) (iB (o.load st.mem k (aK st.ps k).pc 8 2).1.1) (gq o { st with mem:=(o.load st.mem k (aK st.ps k).pc 8 2).2 } k (iB (o.load st.mem k (aK st.ps k).pc 8 2).1.1)).1.1)) }))):=rfl;obtain⟨q,hq⟩:=ex (aK st.ps k);rw[<- hq] at mr HLD HSZ RO ZE;have HQ:=ai hq;obtain⟨X,hX⟩:=ex (o.load st.mem k q.pc 8 2);rw[<- hX] at HLD HSZ RO ZE;obtain⟨⟨d,X1,X2⟩,X3⟩:=X;unfold gL at HLD;simp only at HLD HSZ RO ZE;obtain⟨Y,hY⟩:=ex (gq o { st with mem:=X3 } k (iB d));have HY:=ai hY;rw[<- hY] at ZE;obtain⟨RR,MK⟩:=ex (mv o st k);rw[<- MK] at ZE ⊢;obtain⟨n,hn⟩:=ex st.ps.length;rw[<- hn] at EL hk EM ZE;subst EL;have HN:=ai hn;have JL:(k:Int)<(n:Int):=by omega
 have g0:w.cell? ⟨gb,0,none⟩=some (.iface 183 (.pointer (some ⟨mb,0,none⟩))):=aq h.head 0 rfl;have g1:w.cell? ⟨gb,1,none⟩=some (.slice (some ⟨pb,0,none⟩) n cap):=aq h.head 1 rfl;have c0:w.cell? ⟨pb,(k*13),none⟩=some (I (q.r 0)):=mr.o 0 (by omega);have c1:w.cell? ⟨pb,(k*13+1),none⟩=some (I (q.r 1)):=mr.o 1 (by omega);have c2:w.cell? ⟨pb,(k*13+2),none⟩=some (I (q.r 2)):=mr.o 2 (by omega);have c3:w.cell? ⟨pb,(k*13+3),none⟩=some (I (q.r 3)):=mr.o 3 (by omega);have c4:w.cell? ⟨pb,(k*13+4),none⟩=some (I (q.r 4)):=mr.o 4 (by omega);have c5:w.cell? ⟨pb,(k*13+5),none⟩=some (I (q.r 5)):=mr.o 5 (by omega);have c6:w.cell? ⟨pb,(k*13+6),none⟩=some (I (q.r 6)):=mr.o 6 (by omega);have c7:w.cell? ⟨pb,(k*13+7),none⟩=some (I (q.r 7)):=mr.o 7 (by omega);have c8:w.cell? ⟨pb,(k*13+8),none⟩=some (I q.pc):=mr.o 8 (by omega);have c9:w.cell? ⟨pb,(k*13+9),none⟩=some (I q.st):=mr.o 9 (by omega);have c10:w.cell? ⟨pb,(k*13+10),none⟩=some (I q.cd):=mr.o 10 (by omega);have c11:w.cell? ⟨pb,(k*13+11),none⟩=some (I q.fk):=mr.o 11 (by omega);have c12:w.cell? ⟨pb,(k*13+12),none⟩=some (I q.fa):=mr.o 12 (by omega);have kX:=ai (((aJ w.heap.size w).alloc (aH _) (.cells #[I 0,I 0] 75)).alloc (by simp) (.cells #[I (q.r 0),I (q.r 1),I (q.r 2),I (q.r 3),I (q.r 4),I (q.r 5),I (q.r 6),I (q.r 7),I q.pc,I q.st,I q.cd,I q.fk,I q.fa] 77));have BF:=ai (bl (bD w #[I 0,I 0] 75) (.cells #[I (q.r 0),I (q.r 1),I (q.r 2),I (q.r 3),I (q.r 4),I (q.r 5),I (q.r 6),I (q.r 7),I q.pc,I q.st,I q.cd,I q.fk,I q.fa] 77));have BX:Hid (((w.alloc (.cells #[I 0,I 0] 75)).alloc (.cells #[I (q.r 0),I (q.r 1),I (q.r 2),I (q.r 3),I (q.r 4),I (q.r 5),I (q.r 6),I (q.r 7),I q.pc,I q.st,I q.cd,I q.fk,I q.fa] 77)).heap[w.heap.size+1]?=some (.cells #[I (q.r 0),I (q.r 1),I (q.r 2),I (q.r 3),I (q.r 4),I (q.r 5),I (q.r 6),I (q.r 7),I q.pc,I q.st,I q.cd,I q.fk,I q.fa] 77 (0,0))):=by
  have:=bD (w.alloc (.cells #[I 0,I 0] 75)) #[I (q.r 0),I (q.r 1),I (q.r 2),I (q.r 3),I (q.r 4),I (q.r 5),I (q.r 6),I (q.r 7),I q.pc,I q.st,I q.cd,I q.fk,I q.fa] 77;rw[fM] at this;exact this
 have aiL:¬pb=w.heap.size:=by omega
 have ak7:¬gb=w.heap.size:=by omega
 have hm:=Iq ⟨mb,0,none⟩;have hah:=Le ⟨mb,0,none⟩;clear h C hX hY MK hn hq hpc Pw hok hlv h1 mr;go_enter Tryz.func96,Tryz.ntmps96;go_wp2_with fail
 obtain⟨WA,mj⟩:=ex ((w.alloc (.cells #[I 0,I 0] 75)).alloc (.cells #[I (q.r 0),I (q.r 1),I (q.r 2),I (q.r 3),I (q.r 4),I (q.r 5),I (q.r 6),I (q.r 7),I q.pc,I q.st,I q.cd,I q.fk,I q.fa] 77));rw[<- mj] at kX BF BX ⊢;obtain⟨xb,LM⟩:=ex (w.heap.size+1);rw[<- LM] at BX ⊢;obtain⟨fb,LU⟩:=ex w.heap.size;rw[<- LU] at BF LM ⊢;have SX:=ai LM;have HFB:=ai LU;have EF:=ai (HG.o.below HC.o kX.o);have wE:Hid (¬D xb):=fun g=>by have:=HC.o.dom _ _ _ HG.o.mem _ g;have:=SX.o;have:=HFB.o;omega
 have HNF:Hid (¬D fb):=fun g=>by have:=HC.o.dom _ _ _ HG.o.mem _ g;have:=HFB.o;omega
 have HNZ:Hid (¬D WA.heap.size):=fun g=>by have:=HC.o.dom _ _ _ HG.o.mem _ g;have:=kX.o.size;omega
 have HS:Hid (∀V,aC D WA V->V.cell? ⟨gb,0,none⟩=some (.iface 183 (.pointer (some ⟨mb,0,none⟩)))/\V.cell? ⟨xb,8,none⟩=some (I q.pc)):=fun V hb=>by
  have h1:=hb.keep BX.o wE.o;have h2:=hb.keep EF.o.head EF.o.n1;exact⟨aq h2 0 rfl,aq h1 8 rfl⟩
 have oh:=ai (HS.o _ (aC.drew _ _));have yr:=ai (HS.o (WA.alloc (.cells #[I 0,I 0] 75)).drew ((aC.alloc _ _ _).trans (aC.drew _ _) (fun _ _ g=>g)));have gG:=ai kX.o.drew;have cM:=ai (kX.o.alloc kX.o.size (.cells #[I 0,I 0] 75)).drew;have hlx:=aI BX.o;clear LM LU mj g0 g1 c0 c1 c2 c3 c4 c5 c6 c7 c8 c9 c10 c11 c12 aiL ak7;go_cut [6,7] (fun x6 x7 wx=>∃zb,x6=.string d/\x7=.pointer (some ⟨zb,0,none⟩)/\xb<zb/\wx.heap[zb]?=some (.cells #[I X1,I X2] 75 (0,0))/\wx.heap[fb]?=some (.cells #[I 0,I 0] 75 (0,0))/\wx.heap[xb]?=some (.cells #[I (q.r 0),I (q.r 1),I (q.r 2),I (q.r 3),I (q.r 4),I (q.r 5),I (q.r 6),I (q.r 7),I q.pc,I q.st,I q.cd,I q.fk,I q.fa] 77 (0,0))/\gH (fun b=>b=fb∨b=xb∨b=zb) Hd lo mb gb w D (.slice (some ⟨pb,0,none⟩) n cap) vo { st with mem:=X3 } wx)
 case first =>
  have Ze:Hid (∀(V:World) (g:Nat),xb<g->(V.cell? ⟨gb,0,none⟩=some (.iface 183 (.pointer (some ⟨mb,0,none⟩)))/\V.cell? ⟨xb,8,none⟩=some (I q.pc))->∀v0 v1,((V.setCell ⟨g,0,none⟩ v0).setCell ⟨g,1,none⟩ v1).cell? ⟨gb,0,none⟩=some (.iface 183 (.pointer (some ⟨mb,0,none⟩)))/\((V.setCell ⟨g,0,none⟩ v0).setCell ⟨g,1,none⟩ v1).cell? ⟨xb,8,none⟩=some (I q.pc)):=fun V g hg ⟨h0,h1⟩ v0 v1=>by
   have hne:xb≠g:=by omega
   have Pz:gb≠g:=by have:=SX.o;have:=HFB.o;omega
   rw[b7 _ _ _ _ _ _ hne,b7 _ _ _ _ _ _ hne,b7 _ _ _ _ _ _ Pz,b7 _ _ _ _ _ _ Pz];exact⟨h0,h1⟩
  go_region_held3 (fun V=>V.cell? ⟨gb,0,none⟩=some (.iface 183 (.pointer (some ⟨mb,0,none⟩)))/\V.cell? ⟨xb,8,none⟩=some (I q.pc)) (first | exact oh.o | exact yr.o | exact rJ.o | exact si.o _ | exact S6.o _ _ | exact apz.o _ _ _)
   (first | (go_at_call 254;refine(HLD.o _ (by first | exact gG.o | exact cM.o)).mono ?_;rintro e w2 ⟨D2,rfl,hm2,hk2,hd2⟩;have HKW:Hid (aC D WA w2):=(by first | exact(aC.drew D WA).trans hk2 (fun _ _ g=>g) | exact((aC.alloc D WA (.cells #[I 0,I 0] 75)).trans (aC.drew D _) (fun _ _ g=>g)).trans hk2 (fun _ _ g=>g));have rJ:=ai (HS.o _ HKW.o);have si:=ai (fun ob=>HS.o _ (HKW.o.trans (aC.alloc D w2 ob) (fun _ _ g=>g)));have S6:=ai (Ze.o w2 WA.heap.size hlx rJ.o);have apz:=ai (fun ob=>Ze.o (w2.alloc ob) w2.heap.size (fV hlx HKW.o.size) (si.o ob));have Bf:=ai (gH.behind HC.o HG.o (by first | exact gG.o | exact cM.o) (cD.EY HC.o (HG.o.below HC.o (by first | exact gG.o | exact cM.o)) hm2 hk2 hd2));have BF2:=ai (HKW.o.keep BF.o HNF.o);have BX2:=ai (HKW.o.keep BX.o wE.o);(try (have yH:=ai (hk2.keep (w:=(WA.alloc (.cells #[I 0,I 0] 75)).drew) (bD WA #[I 0,I 0] 75) HNZ.o);have z0:=aq (v:=I 0) yH.o 0 rfl;have z1:=aq (v:=I 0) yH.o 1 rfl;have z2:=aQ yH.o 0;have z3:=aQ yH.o 1));clear hm2 hk2 hd2))
  all_goals
   go_wp2_with fail
   go_meet
   case rel =>
    have e1:=SX.o;have e2:=HFB.o;have e3:=HKW.o.size
    first
    | exact⟨_,rfl,rfl,by omega,bD w2 _ _,bl BF2.o _,bl BX2.o _,(Bf.o.alloc HC.o _).sub (fun b e=>by rcases e with rfl | rfl | rfl;exact .inl ⟨by omega,by show _<WA.heap.size;omega⟩;exact .inl ⟨by omega,by show _<WA.heap.size;omega⟩;exact .inr rfl)⟩
    | exact⟨_,rfl,rfl,hlx,fF (fF yH.o 0 _) 1 _,mh (mh BF2.o WA.heap.size 0 _ (by omega)) WA.heap.size 1 _ (by omega),mh (mh BX2.o WA.heap.size 0 _ (by omega)) WA.heap.size 1 _ (by omega),((Bf.o.set HC.o ⟨WA.heap.size,0,none⟩ _ ⟨kX.o.size,by show WA.heap.size<(WA.alloc _).heap.size;rw[fM];omega⟩ kX.o.size).set HC.o ⟨WA.heap.size,1,none⟩ _ ⟨kX.o.size,by show WA.heap.size<(WA.alloc _).heap.size;rw[fM];omega⟩ kX.o.size).sub (fun b e=>by rcases e with rfl | rfl | rfl <;> exact⟨by omega,by show _<(WA.alloc _).heap.size;rw[fM];omega⟩)⟩
 case rest =>
  obtain⟨zb,rfl,rfl,hxz,hz,hf,hx,hl⟩:=hcut;have HZ:=ai hz;have HF:=ai hf;have HX:=ai hx;have HL:=ai hl;have z0:=aq (v:=I X1) hz 0 rfl;have z1:=aq (v:=I X2) hz 1 rfl;have f0:=aq (v:=I 0) hf 0 rfl;have f1:=aq (v:=I 0) hf 1 rfl;have e0:=aQ hf 0;have e1:=aQ hf 1;have hfw:w.heap.size<=fb:=by have:=HFB.o;omega
  clear HS oh yr gG cM HLD hz hf hx hl EF HNZ kX BF BX hlx;by_cases hX1:X1=0
  · subst hX1;have h8:d.size=8:=by have:=HSZ.o rfl;omega
    have Xp:Hid (dK Ok { st with mem:=X3 }):=Bj Nw.o RO.o;have HAS:=ai (fun V=>aav q d V h8);have Xr:=ai (Gn HC.o.ok Xp.o k uY.o HH1.o (iB d) (Az d h8));rw[<- HY.o] at Xr;obtain⟨D1,r1,o1,hg1,hk1,hd1,TG⟩:=HL.o;have HGX:=ai hg1;have HKX:=ai hk1;have HDX:=ai hd1;have abu:=ai TG;have HAN:Hid (∀V,Below wc.heap.size wc V->Calls Tryz.prog 150 #[.pointer (some ⟨gb,0,none⟩),I (k:Int),.agg (oX q (iB d))] V fun e w'=>e=.returned (.tuple #[I Y.1.1,.agg (gL Y.1.2)])/\cD Hd lo mb gb V D1 r1 o1 Y.2 w'):=fun V hV=>by
     have:=SZ HC.o k (iB d) V (hg1.below HC.o hV) Xp.o uY.o HH1.o;rw[<- HY.o] at this;have hqe:aK (dA.ps { st with mem:=X3 }) k=q:=HQ.o.symm;rw[hqe] at this;exact this
    obtain⟨k0,k1,k2,k3,k4,alp⟩:=Zc q (iB d);rw[alp] at HAS HAN;obtain⟨⟨v,F1,F2⟩,s2⟩:=Y;unfold gL at HAN;simp only at HAN Xr ZE;have Wv:Hid (RR=if ¬F1=0 then ((F1,F2),s2) else ((0,0),{ s2 with ps:=oV (iB d) n (s2.ps.set k (cX (aK s2.ps k) (iB d) v)) })):=by rw[ZE.o,au (fun g=>g trivial)];exact rfl
    clear hg1 hk1 hd1 TG alp ZE HSZ RO;have g1:=aq (v:=r1) HGX.o.head 1 rfl;obtain⟨a1,alI,hr1,_,_⟩:=bh HGX.o.procs;simp only at hr1;rw[<- HN.o] at hr1;subst hr1;have apt:Hid (wc.heap[xb]?=some (.cells #[I (q.r 0),I (q.r 1),I (q.r 2),I (q.r 3),I (q.r 4),I (q.r 5),I (q.r 6),I (q.r 7),I q.pc,I q.st,I q.cd,I q.fk,I q.fa] 77 (0,0))):=HX;have p0:=aq (v:=I (q.r 0)) HX.o 0 rfl;have p1:=aq (v:=I (q.r 1)) HX.o 1 rfl;have p2:=aq (v:=I (q.r 2)) HX.o 2 rfl;have p3:=aq (v:=I (q.r 3)) HX.o 3 rfl;have p4:=aq (v:=I (q.r 4)) HX.o 4 rfl;have p5:=aq (v:=I (q.r 5)) HX.o 5 rfl;have p6:=aq (v:=I (q.r 6)) HX.o 6 rfl;have p7:=aq (v:=I (q.r 7)) HX.o 7 rfl;have p8:=aq (v:=I q.pc) HX.o 8 rfl;have p9:=aq (v:=I q.st) HX.o 9 rfl;have p10:=aq (v:=I q.cd) HX.o 10 rfl;have p11:=aq (v:=I q.fk) HX.o 11 rfl;have p12:=aq (v:=I q.fa) HX.o 12 rfl;have EG:Hid (∀V,Calls Tryz.prog 149 #[.agg #[I (q.r 0),I (q.r 1),I (q.r 2),I (q.r 3),I (q.r 4),I (q.r 5),I (q.r 6),I (q.r 7),I q.pc,I q.st,I q.cd,I q.fk,I q.fa],.string d] V fun e w'=>e=.returned (.tuple #[.agg #[I k0,I k1,I k2,I k3,I k4],I 0])/\Below V.heap.size V w'):=HAS;have hzl:=aI HZ.o;have hzf:fb≠zb:=by have:=SX.o;omega
    by_cases hF1:F1=0
    · subst hF1;have HD3:Hid (RR=((0,0),{ s2 with ps:=oV (iB d) n (s2.ps.set k (cX (aK s2.ps k) (iB d) v)) })):=by rw[Wv.o,au (fun g=>g rfl)];exact rfl
      clear Wv;go_wp2_with (first
       | (go_at_call 149;refine(EG.o _).mono ?_;rintro e w3 ⟨rfl,hb3⟩;have m7:=ai hb3;have sX:=ai (hb3.alloc hb3.size (.cells #[I k0,I k1,I k2,I k3,I k4] 110));have BA:=ai (bD w3 #[I k0,I k1,I k2,I k3,I k4] 110);have g2:(w3.alloc (.cells #[I k0,I k1,I k2,I k3,I k4] 110)).cell? ⟨gb,1,none⟩=some (.slice a1 n alI):=(sX.o.cell (p:=⟨gb,1,none⟩) (aI HGX.o.head)).trans g1;clear hb3)
       | (go_at_call 150;refine(HAN.o _ sX.o).mono ?_;rintro e w5 ⟨rfl,hl5⟩;have HL5:=ai hl5;have BZ5:=ai (hl5.keep (bl (aN HZ.o m7.o (aI HZ.o)) _) (abu.o zb (.inr (.inr rfl))));have BF5:=ai (hl5.keep (bl (aN HF.o m7.o (aI HF.o)) _) (abu.o fb (.inl rfl)));have y0:=aq (v:=I 0) BZ5.o 0 rfl;have y1:=aq (v:=I X2) BZ5.o 1 rfl;have y2:=aQ BZ5.o 0;have y3:=aQ BZ5.o 1;have t0:=aq (v:=I 0) BF5.o 0 rfl;have t1:=aq (v:=I 0) BF5.o 1 rfl;have t2:=aQ BF5.o 0;have t3:=aQ BF5.o 1;clear hl5))
      obtain⟨hplain,anV,hbad⟩:=Xr.o.plain rfl;have hlen:n<=s2.ps.length/\s2.ps.length<=n+1:=by
       have hn:=HN.o;rcases hplain with⟨e,_⟩ | ⟨_,e,_⟩
       · rw[show s2.ps=st.ps from e];omega
       · rw[show s2.ps=st.ps++[aK st.ps k] from e,fD,Ar];omega
      have hzw:w.heap.size<=zb:=by have:=SX.o;omega
      have hLN:=gH.step (ys:=(fun b=>b=fb∨b=xb∨b=zb)) (fun b hb=>by have s4:=sX.o.size;have l1:=aI HF.o;have l2:=aI HX.o;have l3:=aI HZ.o;rcases hb with e | e | e <;> rw[e] <;> omega) (HKX.o.trans (aC.bY sX.o) (fun _ _ g=>g)) HDX.o abu.o HL5.o;have hL6:=(hLN.set HC.o ⟨zb,0,none⟩ (I 0) (.inr (.inr rfl)) hzw).set HC.o ⟨zb,1,none⟩ (I F2) (.inr (.inr rfl)) hzw;have BF6:=mh (mh BF5.o zb 0 (I 0) hzf) zb 1 (I F2) hzf;obtain⟨W6,hW6⟩:=ex ((w5.setCell ⟨zb,0,none⟩ (I 0)).setCell ⟨zb,1,none⟩ (I F2));rw[<- hW6] at hL6 BF6 ⊢;obtain⟨D6,r6,o6,hg6,hk6,hd6,hn6⟩:=hL6;have aoA:=aI BF6;refine(Nt HC.o k d v W6 hg6 (by omega) (by omega) h8 hbad).mono ?_;rintro e w7 ⟨rfl,hl7⟩;have BF7:=hl7.keep BF6 (hn6 fb (.inl rfl));have hL7:=gH.step (ys:=fun b=>b=fb) (fun b e=>by rw[e];exact aoA) hk6 hd6 (fun b e=>hn6 b (.inl e)) hl7;have HL7:=ai hL7;have HF7:=ai BF7;have HBD:=ai hbad;have HHL:=ai hlen;obtain⟨PS,hPS⟩:=ex (s2.ps.set k (cX (aK s2.ps k) (iB d) v));rw[<- hPS] at HL7 HD3;have hPL:PS.length=s2.ps.length:=by rw[hPS,fC]
      obtain⟨m,hm⟩:=ex s2.ps.length;rw[<- hm] at hPL hlen;have HPL:=ai hPL;clear hl7 hL7 BF7 BF6 hn6 hd6 hk6 hg6 hW6 hLN hbad hPS hm hplain anV HL5 BZ5 BF5 y0 y1 y2 y3 t0 t1 t2 t3 g2 BA m7 sX EG HAN HAS apt p0 p1 p2 p3 p4 p5 p6 p7 p8 p9 p10 p11 p12 g1 HGX HKX HDX abu z0 z1 f0 f1 e0 e1 hPL;go_wp2;go_loopw [12] (fun x12 wr=>∃j:Nat,n+j<=m/\x12=I ((n+j:Nat):Int)/\gH (fun b=>b=fb) Hd lo mb gb w D (.slice (some ⟨pb,0,none⟩) n cap) vo { s2 with ps:=ma (iB d) n PS j } wr/\wr.heap[fb]?=some (.cells #[I 0,I 0] 75 (0,0))) (fun x12 _=>m-(intOf x12).toNat)
      case atStart=>exact⟨0,by omega,rfl,HL7.o,HF7.o⟩
      case round =>
       obtain⟨j,hj,rfl,hl,hf⟩:=hrel;have HFR:=ai hf;obtain⟨Dr,rr,orr,hgr,hkr,hdr,TE⟩:=hl;have Mt:=ai hgr;have HKR:=ai hkr;have HDR:=ai hdr;have HNR:=ai TE;obtain⟨a7,c7,hr7,_,_⟩:=bh hgr.procs;have aoa:rr=.slice a7 m c7:=by
        rw[hr7];show Value.slice a7 (ma (iB d) n PS j).length c7=_;rw[pB,HPL.o]
       subst aoa;have x1:=aq (v:=.slice a7 m c7) Mt.o.head 1 rfl;clear hf hgr hkr hdr TE hr7;by_cases hlt:n+j<m
       · have HDN:Hid (Calls Tryz.prog 151 #[.pointer (some ⟨gb,0,none⟩),I ((n+j:Nat):Int),.string d,I 0] wr fun e w'=>e=.returned (.tuple #[])/\cD Hd lo mb gb wr Dr (.slice a7 m c7) orr { s2 with ps:=ma (iB d) n PS (j+1) } w'):=Nt HC.o (n+j) d 0 wr Mt.o (by show(ma (iB d) n PS j).length<=1000;rw[pB,HPL.o];omega) (by show n+j<(ma (iB d) n PS j).length;rw[pB,HPL.o];omega) h8 HBD.o;have ald:((n+j:Nat):Int)<(m:Int):=by omega
         go_wp2_with (go_at_call 151;refine HDN.o.mono ?_;rintro e w8 ⟨rfl,hl8⟩;have HL8:=ai (gH.step (ys:=fun b=>b=fb) (fun b e=>(by rw[e];exact aI HFR.o)) HKR.o HDR.o HNR.o hl8);have HF8:=ai (hl8.keep HFR.o (HNR.o fb rfl));clear hl8)
         go_roundw
         case rel=>exact⟨j+1,by omega,by go_num,HL8.o,HF8.o⟩
         case measure=>simp[intOf];omega
       · have hje:j=PS.length-n:=by have:=HPL.o;omega
         have Q4:Hid (gH (fun b=>b=fb) Hd lo mb gb w D (.slice (some ⟨pb,0,none⟩) n cap) vo { s2 with ps:=oV (iB d) n PS } wr):=by
          show gH _ _ _ _ _ _ _ _ _ _ _;rw[<- Rc (iB d) n PS (by have:=HPL.o;omega),<- hje];exact⟨Dr,_,orr,Mt.o,HKR.o,HDR.o,HNR.o⟩
         have t0:=aq (v:=I 0) HFR.o 0 rfl;have t1:=aq (v:=I 0) HFR.o 1 rfl;have t2:=aQ HFR.o 0;have t3:=aQ HFR.o 1;have ald:¬((n+j:Nat):Int)<(m:Int):=by omega
         clear hje;go_wp2;refine bK (v:=.agg #[I 0,I 0]) (by simp[results,Tryz.results96,go_sem,t0,t1]) rfl ?_;rw[HD3.o];exact⟨rfl,((Q4.o.set HC.o ⟨fb,0,none⟩ _ rfl hfw).set HC.o ⟨fb,1,none⟩ _ rfl hfw).left⟩
    · have hFi:(F1==0)=false:=by rw[lG];exact hF1
      have HD3:Hid (RR=((F1,F2),s2)):=by rw[Wv.o,aB hF1];exact rfl
      clear Wv hF1;go_wp2_with (first
       | (go_at_call 149;refine(EG.o _).mono ?_;rintro e w3 ⟨rfl,hb3⟩;have m7:=ai hb3;have sX:=ai (hb3.alloc hb3.size (.cells #[I k0,I k1,I k2,I k3,I k4] 110));have BA:=ai (bD w3 #[I k0,I k1,I k2,I k3,I k4] 110);have g2:(w3.alloc (.cells #[I k0,I k1,I k2,I k3,I k4] 110)).cell? ⟨gb,1,none⟩=some (.slice a1 n alI):=(sX.o.cell (p:=⟨gb,1,none⟩) (aI HGX.o.head)).trans g1;clear hb3)
       | (go_at_call 150;refine(HAN.o _ sX.o).mono ?_;rintro e w5 ⟨rfl,hl5⟩;have HL5:=ai hl5;have BZ5:=ai (hl5.keep (bl (aN HZ.o m7.o (aI HZ.o)) _) (abu.o zb (.inr (.inr rfl))));have BF5:=ai (hl5.keep (bl (aN HF.o m7.o (aI HF.o)) _) (abu.o fb (.inl rfl)));have y0:=aq (v:=I 0) BZ5.o 0 rfl;have y1:=aq (v:=I X2) BZ5.o 1 rfl;have y2:=aQ BZ5.o 0;have y3:=aQ BZ5.o 1;have t0:=aq (v:=I 0) BF5.o 0 rfl;have t1:=aq (v:=I 0) BF5.o 1 rfl;have t2:=aQ BF5.o 0;have t3:=aQ BF5.o 1;clear hl5))
      refine bK (v:=.agg #[I F1,I F2]) (by simp[results,Tryz.results96,go_sem,t0,t1]) rfl ?_;rw[HD3.o];have hLN:=gH.step (ys:=(fun b=>b=fb∨b=xb∨b=zb)) (fun b hb=>by have s4:=sX.o.size;have l1:=aI HF.o;have l2:=aI HX.o;have l3:=aI HZ.o;rcases hb with e | e | e <;> rw[e] <;> omega) (HKX.o.trans (aC.bY sX.o) (fun _ _ g=>g)) HDX.o abu.o HL5.o;have hzw:w.heap.size<=zb:=by have:=SX.o;omega
      exact⟨rfl,((((hLN.set HC.o ⟨zb,0,none⟩ _ (.inr (.inr rfl)) hzw).set HC.o ⟨zb,1,none⟩ _ (.inr (.inr rfl)) hzw).set HC.o ⟨fb,0,none⟩ _ (.inl rfl) hfw).set HC.o ⟨fb,1,none⟩ _ (.inl rfl) hfw).left⟩
  · have hXi:(X1==0)=false:=by rw[lG];exact hX1
    have Wv:Hid (RR=((X1,X2),{ st with mem:=X3 })):=by rw[ZE.o,aB hX1];exact rfl
    clear ZE hX1;go_wp2;refine bK (v:=.agg #[I X1,I X2]) (by simp[results,Tryz.results96,go_sem,f0,f1]) rfl ?_;rw[Wv.o];exact⟨rfl,((HL.o.set HC.o ⟨fb,0,none⟩ _ (.inl rfl) hfw).set HC.o ⟨fb,1,none⟩ _ (.inl rfl) hfw).left⟩
open Go.RowKit
section
variable {σ:Type} {Hd:World->(Nat->Prop)->σ->Prop} {Ok:σ->List Bool->Prop} {o:gN σ} {lo mb gb:Nat} {w w':World} {D:Nat->Prop} {vo:Value} {st:dA σ}
theorem fQ.anC (C:iu lo mb Hd Ok o) {pb n cap:Nat} (h:fQ Hd lo mb gb w D (.slice (some ⟨pb,0,none⟩) n cap) vo st) (k:Nat) (hk:k<st.ps.length) (hn:n=st.ps.length) (x:Int×Int) :
  cD Hd lo mb gb w D (.slice (some ⟨pb,0,none⟩) n cap) vo { st with ps:=st.ps.set k (ym (aK st.ps k) x) } (((w.setCell ⟨pb,(k*13+9),none⟩ (I 3)).setCell ⟨pb,(k*13+11),none⟩ (I x.1)).setCell ⟨pb,(k*13+12),none⟩ (I x.2)):=by
 have hb:pI (.slice (some ⟨pb,0,none⟩) n cap) pb:=rfl;have kS:aC (fun b=>b=pb) w (((w.setCell ⟨pb,(k*13+9),none⟩ (I 3)).setCell ⟨pb,(k*13+11),none⟩ (I x.1)).setCell ⟨pb,(k*13+12),none⟩ (I x.2)):=xh w pb _ _ _ _ _ _ rfl;refine⟨D,.slice (some ⟨pb,0,none⟩) n cap,vo,⟨kS.keep h.head (fun e=>h.n2 (e ▸ hb)),C.kp _ _ _ _ _ h.mem kS (fun b hd e=>h.n4 pb hb (e ▸ hd)),?_,kS.row h.outs (fun g hg e=>h.n6 pb hb (e ▸ hg)),h.base,h.n1,h.n2,h.n3,h.n4,h.n5,h.n6⟩,kS.mono (fun b _ e=>.inr (.inr (.inl (e ▸ hb)))),fun b hb=>.inl hb⟩;have hp:=h.procs;rw[<- hn] at hp;show World.ownsRow _ lo _ 13 _ (st.ps.set k _).length _;rw[fC,<- hn];obtain⟨q,hq⟩:=ex (aK st.ps k);rw[<- hq];have h0:(st.ps.set k q).flatMap bQ=st.ps.flatMap bQ:=ze bQ Ci st.ps k q hk (by rw[hq];rfl);rw[<- h0] at hp;have r1:=eZ hp (k*13+9) (I 3);rw[<- iG st.ps k hk q { q with st:=3 } 9 (by omega) _ rfl] at r1;have r2:=eZ r1 (k*13+11) (I x.1);rw[<- iG st.ps k hk { q with st:=3 } { q with st:=3,fk:=x.1 } 11 (by omega) _ rfl] at r2;have r3:=eZ r2 (k*13+12) (I x.2);rw[<- iG st.ps k hk { q with st:=3,fk:=x.1 } { q with st:=3,fk:=x.1,fa:=x.2 } 12 (by omega) _ rfl] at r3;exact r3
end
variable {σ:Type} {Hd:World->(Nat->Prop)->σ->Prop} {Ok:σ->List Bool->Prop} {o:gN σ} {lo mb gb:Nat} {D:Nat->Prop} {vr vo:Value} {st:dA σ}
theorem Y7 (C:iu lo mb Hd Ok o) (pick:Int) (w:World) (h:fQ Hd lo mb gb w D vr vo st) (hok:dK Ok st) :
  Calls Tryz.prog 47 #[.pointer (some ⟨gb,0,none⟩),I pick] w fun e w'=>e=.returned (I (jt o st pick).1)/\cD Hd lo mb gb w D vr vo (jt o st pick).2 w':=by
 have HG:=ai h;have HC:=ai C;have Nw:=ai hok;have EM:st.ps.length<=4:=by have:=C.ok.few _ _ hok.mem;unfold bX at this;rw[gV] at this;exact this
 obtain⟨ar,cr,EL,_,_⟩:=bh h.procs;obtain⟨ao,co,hvo,_,_⟩:=bh h.outs;have HVR:=ai EL;have HVO:=ai hvo;have HSE:Hid (jt o st pick=if ¬(0<=pick/\pick<(st.ps.length:Int)) then (6,st) else if ¬(aK st.ps pick.toNat).st=1 then (0,st) else if 2000<=st.out.length then (2,st) else if (mv o st pick.toNat).1.1=0 then (0,(mv o st pick.toNat).2) else (0,{ (mv o st pick.toNat).2 with mem:=o.drop (mv o st pick.toNat).2.mem pick.toNat,ps:=(mv o st pick.toNat).2.ps.set pick.toNat (ym (aK (mv o st pick.toNat).2.ps pick.toNat) (mv o st pick.toNat).1) })):=rfl;obtain⟨RR,MK⟩:=ex (jt o st pick);rw[<- MK] at HSE ⊢;obtain⟨n,hn⟩:=ex st.ps.length;obtain⟨no,hno⟩:=ex st.out.length;rw[<- hn] at EL EM HSE;rw[<- hno] at hvo HSE;have HN:=ai hn;have uP:=ai hno;have LS:no<=2000:=by rw[hno];exact hok.out
 subst EL hvo;obtain⟨g0,g1,g2⟩:=ET h.head;clear MK hn hno HVR HVO;by_cases hp0:pick<0
 · have HR:Hid (RR=(6,st)):=by rw[HSE.o,aB (by omega)];exact rfl
   clear HSE h C hok;go_enter Tryz.func47,Tryz.ntmps47;go_wp2;go_ret;rw[HR.o];exact⟨rfl,cD.refl HG.o⟩
 · by_cases hp1:(n:Int)<=pick
   · have HR:Hid (RR=(6,st)):=by rw[HSE.o,aB (by omega)];exact rfl
     clear HSE h C hok;go_enter Tryz.func47,Tryz.ntmps47;go_wp2;go_ret;rw[HR.o];exact⟨rfl,cD.refl HG.o⟩
   · obtain⟨k,rfl⟩:∃k:Nat,pick=(k:Int):=⟨pick.toNat,by omega⟩;have hk:k<n:=by omega
     have hks:k<st.ps.length:=by rw[<- HN.o];exact hk
     obtain⟨pb,cap,EL,hpb,hpc,Pw⟩:=h.proc k hks;injection EL with e1 e2 e3;subst e1 e3;clear e2;have mr:=ai hpc;have HPF:=ai Pw;have JL:(k:Int)<(n:Int):=by omega
     have ajC:=HSE.o;rw[au (by omega),lD] at ajC;have si:=ai ajC;obtain⟨s9,hs9⟩:=ex ((aK st.ps k).st);have c9:w.cell? ⟨pb,(k*13+9),none⟩=some (I s9):=by rw[hs9];exact hpc 9 (by omega)
     rw[<- hs9] at si;have HS9:=ai hs9;clear HSE ajC hpc Pw hs9;by_cases hs1:s9=1
     · subst hs1;have h1:(aK st.ps k).st=1:=HS9.o.symm;by_cases E1:2000<=no
       · have HR:Hid (RR=(2,st)):=by rw[si.o,au (fun g=>g rfl),aB E1];exact rfl
         have aog:(2000:Int)<=(no:Int):=by omega
         clear si h C hok E1;go_enter Tryz.func47,Tryz.ntmps47;go_wp2;go_ret;rw[HR.o];exact⟨rfl,cD.refl HG.o⟩
       · have aog:¬(2000:Int)<=(no:Int):=by omega
         have ZE:=ai (adL C k w h hok hks h1);have HDL:=ai (Jn C.ok hok (by rw[<- uP.o];omega) k hks h1);have HS4:Hid (RR=if (mv o st k).1.1=0 then (0,(mv o st k).2) else (0,{ (mv o st k).2 with mem:=o.drop (mv o st k).2.mem k,ps:=(mv o st k).2.ps.set k (ym (aK (mv o st k).2.ps k) (mv o st k).1) })):=by rw[si.o,au (fun g=>g rfl),au E1];exact rfl
         obtain⟨X,hX⟩:=ex (mv o st k);rw[<- hX] at ZE HDL HS4;obtain⟨⟨X1,X2⟩,s2⟩:=X;unfold gL at ZE;simp only at ZE HDL HS4;clear si hX h C hok E1;by_cases hX1:X1=0
         · subst hX1;have HR:Hid (RR=(0,s2)):=by rw[HS4.o,aB rfl];exact rfl
           clear HS4;go_enter Tryz.func47,Tryz.ntmps47;go_wp2_with (go_at_call 96;refine ZE.o.mono ?_;rintro e w1 ⟨rfl,PC⟩;have ZB:=ai PC;clear PC)
           go_ret;rw[HR.o];exact⟨rfl,ZB.o.more HC.o ((aJ _ _).alloc (aH _) _)⟩
         · have HR:Hid (RR=(0,{ s2 with mem:=o.drop s2.mem k,ps:=s2.ps.set k (ym (aK s2.ps k) (X1,X2)) })):=by rw[HS4.o,au hX1];exact rfl
           have hXi:(X1==0)=false:=by rw[lG];exact hX1
           have hsame:s2.ps=st.ps:=HDL.o.same hX1;have akR:dK Ok s2:=HDL.o.ok;have akX:(bX s2.ps).getD k false=true:=by rw[hsame];exact ij k hks h1
           have apG:=ai akR;have apO:=ai akX;have HSM:=ai hsame;have hm:=Ir ⟨mb,0,none⟩;have ha:=Lf ⟨mb,0,none⟩;clear HS4 hsame akR akX hX1 HDL;go_enter Tryz.func47,Tryz.ntmps47;go_wp2_with (first
            | (go_at_call 96;refine ZE.o.mono ?_;rintro e w1 ⟨rfl,PC⟩;obtain⟨D1,r1,o1,hg1,hk1,hd1⟩:=PC;have Xp:=ai hg1;have uY:=ai hk1;have HD1:=ai hd1;have HBF:=ai ((aJ w1.heap.size w1).alloc (aH _) (.cells #[I X1,I X2] 75));have x0:=aq (v:=.iface 183 (.pointer (some ⟨mb,0,none⟩))) hg1.head 0 rfl;have x0a:(w1.alloc (.cells #[I X1,I X2] 75)).cell? ⟨gb,0,none⟩=some (.iface 183 (.pointer (some ⟨mb,0,none⟩))):=aq (bl hg1.head _) 0 rfl;clear hg1 hk1 hd1)
            | (go_at_call 252;refine(HC.o.drop _ D1 s2.mem _ k (Xp.o.below HC.o HBF.o).mem apG.o.mem apO.o).mono ?_;rintro e w2 ⟨D2,rfl,hm2,hk2,hd2⟩;have HG2:=ai ((Xp.o.below HC.o HBF.o).turn HC.o hm2 hk2 hd2);have pM:=ai hk2;have Wv:=ai hd2;have yH:=ai (hk2.keep (bD w1 #[I X1,I X2] 75) (fun g=>(by have:=HC.o.dom _ _ _ Xp.o.mem _ g;omega)));clear hm2 hk2 hd2))
           obtain⟨pb2,cap2,hv2,aiL,agO,agN⟩:=HG2.o.proc k (by show k<s2.ps.length;rw[HSM.o];exact hks);have hl2:s2.ps.length=n:=by rw[HSM.o];exact HN.o.symm
           have anW:r1=.slice (some ⟨pb2,0,none⟩) n cap2:=by rw[hv2];show Value.slice _ s2.ps.length _=_;rw[hl2]
           subst anW;have x1:w2.cell? ⟨gb,1,none⟩=some (.slice (some ⟨pb2,0,none⟩) n cap2):=aq HG2.o.head 1 rfl;have z0:=aq (v:=I X1) yH.o 0 rfl;have z1:=aq (v:=I X2) yH.o 1 rfl;have d9:w2.cell? ⟨pb2,(k*13+9),none⟩=some (I (aK s2.ps k).st):=agO 9 (by omega);have d11:w2.cell? ⟨pb2,(k*13+11),none⟩=some (I (aK s2.ps k).fk):=agO 11 (by omega);have d12:w2.cell? ⟨pb2,(k*13+12),none⟩=some (I (aK s2.ps k).fa):=agO 12 (by omega);have f9:=agN (k*13+9);have f11:=agN (k*13+11);have f12:=agN (k*13+12);have Bf:=ai hl2;clear hv2 agO agN hl2;go_region
           all_goals
            go_wp2;go_ret;rw[HR.o];have hs:=(HG2.o.anC HC.o k (by show k<s2.ps.length;rw[HSM.o];exact hks) (by show n=s2.ps.length;rw[Bf.o]) (X1,X2)).more HC.o (aJ _ _).drew;refine⟨rfl,cD.trans uY.o HD1.o (cD.after HBF.o (cD.trans (pM.o.mono (fun b _ g=>.inr (.inl g))) (fun b hb=>?_) hs))⟩;rcases hb with g | g | g | g
            · exact .inl (.inl g)
            · rcases Wv.o b g with x | x
              · exact .inl (.inr (.inl x))
              · exact .inr x
            · exact .inl (.inr (.inr (.inl g)))
            · exact .inl (.inr (.inr (.inr g)))
     · have HR:Hid (RR=(0,st)):=by rw[si.o,aB hs1];exact rfl
       have hsi:(s9==1)=false:=by rw[lG];exact hs1
       clear si h C hok hs1;go_enter Tryz.func47,Tryz.ntmps47;go_wp2;go_ret;rw[HR.o];exact⟨rfl,cD.refl HG.o⟩
def tL (w:World) (ao:Option Addr) (l:List Int):Prop:=0<l.length->∃b off,ao=some ⟨b,off,none⟩/\b<w.heap.size/\∀i,i<l.length->w.cell? ⟨b,(off+i),none⟩=some (I (l.getD i 0))
def zn (Hd:World->(Nat->Prop)->σ->Prop) (lo mb gb:Nat) (w:World) (D:Nat->Prop) (vr vo:Value) (r:Int×Option (dA σ)) (e:Ending) (w':World):Prop:=e=.returned (I r.1)/\aC (kz gb D vr vo) w w'/\∀s,r.2=some s->cD Hd lo mb gb w D vr vo s w'
theorem abk (C:iu lo mb Hd Ok o) (picks:List Int) (ap:Option Addr) (cp:Nat) (w:World) (h:fQ Hd lo mb gb w D vr vo st) (hok:dK Ok st) (hp:tL w ap picks) (hps:0<picks.length->∀b,ap=some b->¬kz gb D vr vo b.block) (hpn:picks.length<=140737488351232) :
  Calls Tryz.prog 62 #[.pointer (some ⟨gb,0,none⟩),.slice ap picks.length cp] w (zn Hd lo mb gb w D vr vo (vX o st picks)):=by
 have HG:=ai h;have HC:=ai C;have Nw:=ai hok;have HP:=ai hp;have HPS:=ai hps;have HRG:Hid (vX o st picks=if 2000<picks.length then ((2:Int),none) else match fe o picks picks.length (some st) with | none=>(2,none) | some s=>(0,some s)):=rfl;have Zf:Hid (∀n s,fe o picks n (some st)=some s->fe o picks (n+1) (some st)=if (jt o s (picks.getD n 0)).1=2 then none else some (jt o s (picks.getD n 0)).2):=fun n s e=>by
  show(match fe o picks n (some st) with | none=>none | some s=>if (jt o s (picks.getD n 0)).1=2 then none else some (jt o s (picks.getD n 0)).2)=_;rw[e]
 have Xn:Hid (∀n,fe o picks n (some st)=none->∀m,n<=m->fe o picks m (some st)=none):=fun n e m hm=>by
  induction m with
  | zero => obtain rfl:n=0 := by omega
            exact e
  | succ m ih =>
   by_cases c:n=m+1
   · subst c;exact e
   · show(match fe o picks m (some st) with | none=>none | some s=>if (jt o s (picks.getD m 0)).1=2 then none else some (jt o s (picks.getD m 0)).2)=_;rw[ih (by omega)]
 have HRO:=ai (yl C.ok hok picks);have HR0:Hid (fe o picks 0 (some st)=some st):=rfl;obtain⟨RR,MK⟩:=ex (vX o st picks);rw[<- MK] at HRG ⊢;obtain⟨np,Ak⟩:=ex picks.length;rw[<- Ak] at HRG hpn ⊢;have HNP:=ai Ak;have dm:Hid (∀e w',zn Hd lo mb gb w D vr vo RR e w'↔(e=.returned (I RR.1)/\aC (kz gb D vr vo) w w'/\∀s,RR.2=some s->cD Hd lo mb gb w D vr vo s w')):=fun e w'=>Iff.rfl
 obtain⟨P,hP⟩:=ex (zn Hd lo mb gb w D vr vo RR);rw[<- hP] at dm ⊢;clear MK Ak h C hok hp hps hP;by_cases hbig:2000<np
 · have HR:Hid (RR=(2,none)):=by rw[HRG.o,aB hbig];exact rfl
   have hbi:(2000:Int)<(np:Int):=by omega
   clear HRG Zf Xn HRO HR0 hbig;go_enter Tryz.func62,Tryz.ntmps62;go_wp2;refine(dm.o _ _).2 ?_;rw[HR.o];exact⟨rfl,aC.refl _ _,fun s e=>by cases e⟩
 · have hbi:¬(2000:Int)<(np:Int):=by omega
   have CK:Hid (RR=match fe o picks np (some st) with | none=>((2:Int),none) | some s=>(0,some s)):=by have:=HRG.o;rw[au hbig] at this;exact this
   clear HRG;go_enter Tryz.func62,Tryz.ntmps62;go_wp2;go_loopw [12] (fun iv wr=>∃(j:Nat) (s:dA σ),j<=np/\iv=I (j:Int)/\fe o picks j (some st)=some s/\cD Hd lo mb gb w D vr vo s wr) (fun iv _=>np-(intOf iv).toNat)
   case atStart=>exact⟨0,st,by omega,rfl,HR0.o,cD.refl HG.o⟩
   case round =>
    obtain⟨j,s,hj,rfl,hrun,hl⟩:=hrel;have HRU:=ai hrun;have HL:=ai hl;have HOS:=ai (HRO.o j s hrun);obtain⟨D1,r1,o1,hg1,hk1,hd1⟩:=hl;have Xp:=ai hg1;have uY:=ai hk1;have HD1:=ai hd1;clear hrun hg1 hk1 hd1;by_cases hlt:j<np
    · obtain⟨b,off,hao,hbl,hcell⟩:=HP.o (by rw[<- HNP.o];omega);subst hao;have hc0:wr.cell? ⟨b,(off+j),none⟩=some (I (picks.getD j 0)):=uY.o.cell (hcell j (by rw[<- HNP.o];exact hlt)) (HPS.o (by rw[<- HNP.o];omega) ⟨b,off,none⟩ rfl);have HST:=ai (Zf.o j s HRU.o);obtain⟨pk,hpk⟩:=ex (picks.getD j 0);rw[<- hpk] at hc0 HST;have HSA:=ai (Y7 HC.o pk wr Xp.o HOS.o);obtain⟨X,hX⟩:=ex (jt o s pk);rw[<- hX] at HST HSA;obtain⟨x1,s2⟩:=X;simp only at HST HSA;have hji:(j:Int)<(np:Int):=by omega
      clear hpk hX hcell;by_cases hx:x1=2
      · subst hx;have uP:=ai (Xn.o (j+1) (by rw[HST.o,aB rfl]) np (by omega));have HR:Hid (RR=(2,none)):=by have:=CK.o;rw[uP.o] at this;exact this
        clear HST CK uP;go_wp2_with (go_at_call 47;refine HSA.o.mono ?_;rintro e w2 ⟨rfl,hl2⟩;have Bf:=ai (cD.trans uY.o HD1.o hl2);clear hl2)
        refine(dm.o _ _).2 ?_;rw[HR.o];obtain⟨_,_,_,_,hkk,_⟩:=Bf.o;exact⟨rfl,hkk,fun s e=>by cases e⟩
      · have hxi:(x1==2)=false:=by rw[lG];exact hx
        have wE:Hid (fe o picks (j+1) (some st)=some s2):=by rw[HST.o,au hx];exact rfl
        clear HST hx;go_wp2_with (go_at_call 47;refine HSA.o.mono ?_;rintro e w2 ⟨rfl,hl2⟩;have Bf:=ai (cD.trans uY.o HD1.o hl2);clear hl2)
        go_roundw
        case rel=>exact⟨j+1,s2,by omega,by go_num,wE.o,Bf.o⟩
        case measure=>simp[intOf];omega
    · obtain rfl:j=np:=by omega
      have HR:Hid (RR=(0,some s)):=by have:=CK.o;rw[HRU.o] at this;exact this
      clear CK;go_wp2;refine(dm.o _ _).2 ?_;rw[HR.o];obtain⟨_,_,_,_,hkk,_⟩:=HL.o;exact⟨rfl,hkk,fun s' e=>by injection e with e;rw[<- e];exact HL.o⟩
open Go.RowKit
def gZ (m:iM):dA aR:=⟨m.iZ,m.procs,m.out⟩
def yz (s:dA aR):iM:=⟨s.mem,s.ps,s.out⟩
def vV:iM:=⟨ed,[],[]⟩
def mJ (m:iM) (hs:List bG):iM:=⟨aU m.iZ hs,m.procs,m.out⟩
def zS (m:iM) (r:Int×Option (dA aR)):iM×Int :=
 if ¬jy m=0 then (vV,jy m) else if ¬r.1=0 then (vV,r.1) else match r.2 with
  | none=>(vV,r.1)
  | some s=>(yz s,0)
def fX (m:iM) (picks:List Int):iM×Int:=zS m (vX fR (gZ m) picks)
def QO (ps:List bO):Prop:=∀k,k<ps.length->rX (aK ps k)
theorem A8 {m:iM} (h:jy m=0):aY m.iZ/\m.out.length<=2000/\m.procs.length=m.iZ.aj.length/\jB m.procs m.out (fun k=>(ak m.iZ.aj k).live)=true:=by
 unfold jy at h;by_cases c:gh m.iZ=0
 · rw[au (fun g=>g c)] at h;by_cases c2:2000<m.out.length
   · rw[aB c2] at h;cases h
   · rw[au c2] at h;by_cases c3:m.procs.length=m.iZ.aj.length/\jB m.procs m.out (fun k=>(ak m.iZ.aj k).live)=true
     · exact⟨(vU _).1 c,by omega,c3.1,c3.2⟩
     · rw[au c3] at h;cases h
 · rw[aB c] at h;exact absurd h c
theorem YW {m:iM} (h1:aY m.iZ) (h2:m.out.length<=2000) (h3:m.procs.length=m.iZ.aj.length) (h4:jB m.procs m.out (fun k=>(ak m.iZ.aj k).live)=true):jy m=0:=by
 unfold jy;rw[au (fun g=>g ((vU _).2 h1)),au (by omega),aB ⟨h3,h4⟩]
theorem adH {m:iM} (h:jy m=0) (hf:QO m.procs):dK dO (gZ m):=by
 obtain⟨h1,h2,h3,h4⟩:=A8 h;unfold jB at h4;rw[<- Em,<- LA,eG,pS,pS] at h4;obtain⟨h5,h6⟩:=h4;have h5:∀k,k<m.procs.length->fp (aK m.procs k)=true/\(ak m.iZ.aj k).live=decide ((aK m.procs k).st=1):=fun k hk=>by
  have:=h5 k (uy.2 hk);unfold uX at this;rw[eG] at this;exact⟨this.1,eq_of_beq this.2⟩
 refine⟨⟨h1,?_⟩,hf,fun k hk=>(h5 k hk).1,fun x hx=>?_,h2⟩
 · show bX m.procs=m.iZ.aj.map (·.live);unfold bX;apply Uo
   · rw[gV,gV,h3]
   · intro k hk1 hk2;rw[gV] at hk1 hk2;rw[List.getElem_map,List.getElem_map];have:=(h5 k hk1).2;unfold ak aK at this;rw[fy,lR hk2,fy,lR hk1] at this;exact this.symm
 · have:=h6 x hx;unfold zZ at this;exact oI this
theorem Od {s:dA aR} (h:dK dO s):jy (yz s)=0:=by
 have hfl:=h.mem.flags;have hlen:s.ps.length=s.mem.aj.length:=by
  have:=dY List.length hfl;simpa [bX] using this
 refine YW h.mem.right h.out hlen ?_;show jB s.ps s.out _=true;unfold jB;rw[<- Em,<- LA,eG,pS,pS];refine⟨fun k hk=>?_,fun x hx=>?_⟩
 · have hk:=uy.1 hk;unfold uX;rw[eG];refine⟨h.right k hk,?_⟩;rw[beq_iff_eq];have e:=IC s.ps k;rw[hfl,gU hk,tv] at e;rw[<- e];have hk2:k<s.mem.aj.length:=by omega
   show(ak s.mem.aj k).live=_;unfold ak;rw[fy,fy,Aq,lR hk2];rfl
 · have:=h.words x hx;simpa [zZ] using this
theorem abe {w:World} {ao:Option Addr} {l:List bO} (h:uI w ao l):mO w ao l.length (l.flatMap bQ):=fun hm=>by
 obtain⟨b,off,rfl,hb,hl⟩:=h hm;refine⟨_,rfl,fun j u hu=>?_⟩;have hlen:=fT bQ 13 rI l;have hj:j<l.length*13:=by rw[<- hlen];exact(UF.1 hu).1
 have hi:j/13<l.length:=by omega
 have hr:j%13<13:=Nat.mod_lt _ (by omega);have he:j=j/13*13+j%13:=by omega
 obtain⟨i,hi0⟩:=ex (j/13);obtain⟨r,Xy⟩:=ex (j%13);rw[<- hi0,<- Xy] at he;rw[<- hi0] at hi;rw[<- Xy] at hr;subst he;rw[yj bQ 13 rI Ci l i r hi hr] at hu;obtain⟨c0,c1,c2,c3,c4,c5,c6,rV,c8,c9,c10,c11,c12⟩:=hl i hi;rw[tA];have hx:∀n v,(bQ (aK l i))[r]?=some u->r=n->(bQ (aK l i))[n]?=some v->w.cell? ⟨b,(off+i*13+n),none⟩=some v->w.cell? ⟨b,(off+(i*13+r)),none⟩=some u:=fun n v h1 h2 h3 h4=>by
  subst h2;rw[h1] at h3;injection h3 with h3;subst h3;rw[<- yL];exact h4
 have hu':(bQ (aK l i))[r]?=some u:=hu;rcases(show r=0∨r=1∨r=2∨r=3∨r=4∨r=5∨r=6∨r=7∨r=8∨r=9∨r=10∨r=11∨r=12 by omega) with e | e | e | e | e | e | e | e | e | e | e | e | e
 · exact hx 0 _ hu' e rfl c0
 · exact hx 1 _ hu' e rfl c1
 · exact hx 2 _ hu' e rfl c2
 · exact hx 3 _ hu' e rfl c3
 · exact hx 4 _ hu' e rfl c4
 · exact hx 5 _ hu' e rfl c5
 · exact hx 6 _ hu' e rfl c6
 · exact hx 7 _ hu' e rfl rV
 · exact hx 8 _ hu' e rfl c8
 · exact hx 9 _ hu' e rfl c9
 · exact hx 10 _ hu' e rfl c10
 · exact hx 11 _ hu' e rfl c11
 · exact hx 12 _ hu' e rfl c12
theorem abc {w:World} {ao:Option Addr} {l:List rY} (h:wh w ao l):mO w ao l.length (l.flatMap jz):=fun hm=>by
 obtain⟨b,off,rfl,hb,hl⟩:=h hm;refine⟨_,rfl,fun j u hu=>?_⟩;have hlen:=fT jz 2 xL l;have hj:j<l.length*2:=by rw[<- hlen];exact(UF.1 hu).1
 have hi:j/2<l.length:=by omega
 have hr:j%2<2:=Nat.mod_lt _ (by omega);have he:j=j/2*2+j%2:=by omega
 obtain⟨i,hi0⟩:=ex (j/2);obtain⟨r,Xy⟩:=ex (j%2);rw[<- hi0,<- Xy] at he;rw[<- hi0] at hi;rw[<- Xy] at hr;subst he;rw[yj jz 2 xL W8 l i r hi hr] at hu;obtain⟨c0,c1⟩:=hl i hi;rw[tA];have hu':(jz (oL l i))[r]?=some u:=hu;rcases(show r=0∨r=1 by omega) with e | e
 · subst e;have h3:some (I (oL l i).proc)=some u:=hu';rw[<- h3];exact c0
 · subst e;have h3:some (I (oL l i).value)=some u:=hu';rw[<- h3,<- yL];exact c1
theorem adF {w:World} {lo:Nat} {ao:Option Addr} {cap:Nat} {l:List bO} (h:w.ownsRow lo 77 13 (.slice ao l.length cap) l.length (l.flatMap bQ)):uI w ao l:=fun hm=>by
 obtain⟨XK,cap',e,_,hg⟩:=bh h;injection e with ea _ _;subst ea;obtain⟨g,rfl,_,hlt⟩:=hg hm;refine⟨g,0,rfl,hlt,fun i hi=>?_⟩;have hc:∀j,j<13->w.cell? ⟨g,(i*13+j),none⟩=(bQ (aK l i))[j]?:=fun j hj=>jY bQ rI Ci h i j hi hj
 rw[lO];exact⟨hc 0 (by omega),hc 1 (by omega),hc 2 (by omega),hc 3 (by omega),hc 4 (by omega),hc 5 (by omega),hc 6 (by omega),hc 7 (by omega),hc 8 (by omega),hc 9 (by omega),hc 10 (by omega),hc 11 (by omega),hc 12 (by omega)⟩
theorem adD {w:World} {lo:Nat} {ao:Option Addr} {cap:Nat} {l:List rY} (h:w.ownsRow lo 91 2 (.slice ao l.length cap) l.length (l.flatMap jz)):wh w ao l:=fun hm=>by
 obtain⟨XK,cap',e,_,hg⟩:=bh h;injection e with ea _ _;subst ea;obtain⟨g,rfl,_,hlt⟩:=hg hm;refine⟨g,0,rfl,hlt,fun i hi=>?_⟩;have hc:∀j,j<2->w.cell? ⟨g,(i*2+j),none⟩=(jz (oL l i))[j]?:=fun j hj=>jY jz xL W8 h i j hi hj
 rw[lO];exact⟨hc 0 (by omega),hc 1 (by omega)⟩
theorem adE (l:List bO):∀u∈l.flatMap bQ,u.oneCell'=true:=fun u hu=>by
 obtain⟨p,_,h⟩:=vg.1 hu;simp only[bQ,ux,GI,or_false] at h;rcases h with rfl | rfl | rfl | rfl | rfl | rfl | rfl | rfl | rfl | rfl | rfl | rfl | rfl <;> rfl
theorem adC (l:List rY):∀u∈l.flatMap jz,u.oneCell'=true:=fun u hu=>by
 obtain⟨p,_,h⟩:=vg.1 hu;simp only[jz,ux,GI,or_false] at h;rcases h with rfl | rfl <;> rfl
end Go.Proofs.YtlgoihmkgaaemaaGreat
