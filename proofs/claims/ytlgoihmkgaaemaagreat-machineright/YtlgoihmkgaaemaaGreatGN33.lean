import Derived.Test.YtlgoihmkgaaemaaGreatGN32
set_option maxHeartbeats 20000000
set_option linter.unusedVariables false
set_option maxRecDepth 100000
set_option linter.unusedSimpArgs false
namespace Go.Proofs.YtlgoihmkgaaemaaGreat
open Go.RowKit
variable {σ:Type} {Hd:World->(Nat->Prop)->σ->Prop} {Ok:σ->List Bool->Prop} {o:gH σ} {lo mb gb:Nat} {D:Nat->Prop} {vr vo:Value} {st:dE σ}
theorem ZF (p:bT) (i:ed):∃k0 k1 k2 k3 k4,pj p i=#[I k0,I k1,I k2,I k3,I k4]:=by
 unfold pj
 repeat' split
 all_goals exact⟨_,_,_,_,_,rfl⟩
theorem aem (C:iB lo mb Hd Ok o) (k:Nat) (w:World) (h:fW Hd lo mb gb w D vr vo st) (hok:dh Ok st) (hk:k<st.ps.length) (h1:(aN st.ps k).st=1) :
  Calls Tryz.prog 96 #[.pointer (some ⟨gb,0,none⟩),I (k:Int)] w fun e w'=>e=.returned (.agg (gU (mC o st k).1))/\cJ Hd lo mb gb w D vr vo (mC o st k).2 w':=by
 have HG:=ai h;have HC:=ai C;have NM:=ai hok;have hlv:=ir k hk h1;have TE:=ai hlv;have vD:=ai hk;have HH1:=ai h1;have Hc:st.ps.length<=4:=by have:=C.ok.few _ _ hok.mem;unfold b7 at this;rw[ia] at this;exact this
 have Rm:=ai (hok.fit k hk);have hgb:=aJ h.head;obtain⟨pb,cap,E2,hpb,hpc,PN⟩:=h.proc k hk;have mA:=ai hpc;have HLD:Hid (∀V,Below w.heap.size w V->Calls Tryz.prog 254 #[.pointer (some ⟨mb,0,none⟩),I (k:Int),I (aN st.ps k).pc,I 8,I 2] V (od Hd V D (.tuple #[.string (o.load st.mem k (aN st.ps k).pc 8 2).1.1,.agg (gU (o.load st.mem k (aN st.ps k).pc 8 2).1.2)]) (o.load st.mem k (aN st.ps k).pc 8 2).2)):=fun V hV=>C.load V D st.mem _ k _ 8 2 (h.below C hV).mem hok.mem hlv (hok.fit k hk).2 (by omega) (by omega) (.inr rfl)
 have HSZ:=ai (C.ok.size st.mem _ k (aN st.ps k).pc 8 2 hok.mem hlv (by omega) (by omega));have Sg:=ai (C.ok.load st.mem _ k (aN st.ps k).pc 8 2 hok.mem hlv);have HDO:Hid (mC o st k=(if ¬(o.load st.mem k (aN st.ps k).pc 8 2).1.2.1=0 then ((o.load st.mem k (aN st.ps k).pc 8 2).1.2,{ st with mem:=(o.load st.mem k (aN st.ps k).pc 8 2).2 }) else if ¬(gy o { st with mem:=(o.load st.mem k (aN st.ps k).pc 8 2).2 } k (iG (o.load st.mem k (aN st.ps k).pc 8 2).1.1)).1.2.1=0 then ((gy o { st with mem:=(o.load st.mem k (aN st.ps k).pc 8 2).2 } k (iG (o.load st.mem k (aN st.ps k).pc 8 2).1.1)).1.2,(gy o { st with mem:=(o.load st.mem k (aN st.ps k).pc 8 2).2 } k (iG (o.load st.mem k (aN st.ps k).pc 8 2).1.1)).2) else ((0,0),{ (gy o { st with mem:=(o.load st.mem k (aN st.ps k).pc 8 2).2 } k (iG (o.load st.mem k (aN st.ps k).pc 8 2).1.1)).2 with ps:=o9 (iG (o.load st.mem k (aN st.ps k).pc 8 2).1.1) st.ps.length ((gy o { st with mem:=(o.load st.mem k (aN st.ps k).pc 8 2).2 } k (iG (o.load st.mem k (aN st.ps k).pc 8 2).1.1)).2.ps.set k (cZ (aN (gy o { st with mem:=(o.load st.mem k (aN st.ps k).pc 8 2).2 } k (iG (o.load st.mem k (aN st.ps k).pc 8 2).1.1)).2.ps k) (iG (o.load st.mem k (aN st.ps k).pc 8 2).1.1) (gy o { st with mem:=(o.load st.mem k (aN st.ps k).pc 8 2).2 } k (iG (o.load st.mem k (aN st.ps k).pc 8 2).1.1)).1.1)) }))):=rfl;obtain⟨q,hq⟩:=ex (aN st.ps k);rw[<- hq] at mA HLD HSZ Sg HDO;have HQ:=ai hq;obtain⟨X,hX⟩:=ex (o.load st.mem k q.pc 8 2);rw[<- hX] at HLD HSZ Sg HDO;obtain⟨⟨d,X1,X2⟩,X3⟩:=X;unfold gU at HLD;simp only at HLD HSZ Sg HDO;obtain⟨Y,hY⟩:=ex (gy o { st with mem:=X3 } k (iG d));have HY:=ai hY;rw[<- hY] at HDO;obtain⟨RR,M5⟩:=ex (mC o st k);rw[<- M5] at HDO ⊢;obtain⟨n,hn⟩:=ex st.ps.length;rw[<- hn] at E2 hk Hc HDO;subst E2;have HN:=ai hn;have JI:(k:Int)<(n:Int):=by omega
 have g0:w.cell? ⟨gb,0,none⟩=some (.iface 183 (.pointer (some ⟨mb,0,none⟩))):=au h.head 0 rfl;have g1:w.cell? ⟨gb,1,none⟩=some (.slice (some ⟨pb,0,none⟩) n cap):=au h.head 1 rfl;have c0:w.cell? ⟨pb,(k*13),none⟩=some (I (q.r 0)):=mA.o 0 (by omega);have c1:w.cell? ⟨pb,(k*13+1),none⟩=some (I (q.r 1)):=mA.o 1 (by omega);have c2:w.cell? ⟨pb,(k*13+2),none⟩=some (I (q.r 2)):=mA.o 2 (by omega);have c3:w.cell? ⟨pb,(k*13+3),none⟩=some (I (q.r 3)):=mA.o 3 (by omega);have c4:w.cell? ⟨pb,(k*13+4),none⟩=some (I (q.r 4)):=mA.o 4 (by omega);have c5:w.cell? ⟨pb,(k*13+5),none⟩=some (I (q.r 5)):=mA.o 5 (by omega);have c6:w.cell? ⟨pb,(k*13+6),none⟩=some (I (q.r 6)):=mA.o 6 (by omega);have c7:w.cell? ⟨pb,(k*13+7),none⟩=some (I (q.r 7)):=mA.o 7 (by omega);have c8:w.cell? ⟨pb,(k*13+8),none⟩=some (I q.pc):=mA.o 8 (by omega);have c9:w.cell? ⟨pb,(k*13+9),none⟩=some (I q.st):=mA.o 9 (by omega);have c10:w.cell? ⟨pb,(k*13+10),none⟩=some (I q.cd):=mA.o 10 (by omega);have c11:w.cell? ⟨pb,(k*13+11),none⟩=some (I q.fk):=mA.o 11 (by omega);have c12:w.cell? ⟨pb,(k*13+12),none⟩=some (I q.fa):=mA.o 12 (by omega);have lh:=ai (((aK w.heap.size w).alloc (aI _) (.cells #[I 0,I 0] 75)).alloc (by simp) (.cells #[I (q.r 0),I (q.r 1),I (q.r 2),I (q.r 3),I (q.r 4),I (q.r 5),I (q.r 6),I (q.r 7),I q.pc,I q.st,I q.cd,I q.fk,I q.fa] 77));have BF:=ai (br (bE w #[I 0,I 0] 75) (.cells #[I (q.r 0),I (q.r 1),I (q.r 2),I (q.r 3),I (q.r 4),I (q.r 5),I (q.r 6),I (q.r 7),I q.pc,I q.st,I q.cd,I q.fk,I q.fa] 77));have BX:Hid (((w.alloc (.cells #[I 0,I 0] 75)).alloc (.cells #[I (q.r 0),I (q.r 1),I (q.r 2),I (q.r 3),I (q.r 4),I (q.r 5),I (q.r 6),I (q.r 7),I q.pc,I q.st,I q.cd,I q.fk,I q.fa] 77)).heap[w.heap.size+1]?=some (.cells #[I (q.r 0),I (q.r 1),I (q.r 2),I (q.r 3),I (q.r 4),I (q.r 5),I (q.r 6),I (q.r 7),I q.pc,I q.st,I q.cd,I q.fk,I q.fa] 77 (0,0))):=by
  have:=bE (w.alloc (.cells #[I 0,I 0] 75)) #[I (q.r 0),I (q.r 1),I (q.r 2),I (q.r 3),I (q.r 4),I (q.r 5),I (q.r 6),I (q.r 7),I q.pc,I q.st,I q.cd,I q.fk,I q.fa] 77;rw[fF] at this;exact this
 have aj6:¬pb=w.heap.size:=by omega
 have amB:¬gb=w.heap.size:=by omega
 have hm:=IM ⟨mb,0,none⟩;have hah:=Ls ⟨mb,0,none⟩;clear h C hX hY M5 hn hq hpc PN hok hlv h1 mA;go_enter Tryz.func96,Tryz.ntmps96;go_wp2_with fail
 obtain⟨WA,lO⟩:=ex ((w.alloc (.cells #[I 0,I 0] 75)).alloc (.cells #[I (q.r 0),I (q.r 1),I (q.r 2),I (q.r 3),I (q.r 4),I (q.r 5),I (q.r 6),I (q.r 7),I q.pc,I q.st,I q.cd,I q.fk,I q.fa] 77));rw[<- lO] at lh BF BX ⊢;obtain⟨xb,LZ⟩:=ex (w.heap.size+1);rw[<- LZ] at BX ⊢;obtain⟨fb,L4⟩:=ex w.heap.size;rw[<- L4] at BF LZ ⊢;have Tk:=ai LZ;have HFB:=ai L4;have ET:=ai (HG.o.below HC.o lh.o);have wS:Hid (¬D xb):=fun g=>by have:=HC.o.dom _ _ _ HG.o.mem _ g;have:=Tk.o;have:=HFB.o;omega
 have HNF:Hid (¬D fb):=fun g=>by have:=HC.o.dom _ _ _ HG.o.mem _ g;have:=HFB.o;omega
 have HNZ:Hid (¬D WA.heap.size):=fun g=>by have:=HC.o.dom _ _ _ HG.o.mem _ g;have:=lh.o.size;omega
 have HS:Hid (∀V,aD D WA V->V.cell? ⟨gb,0,none⟩=some (.iface 183 (.pointer (some ⟨mb,0,none⟩)))/\V.cell? ⟨xb,8,none⟩=some (I q.pc)):=fun V hb=>by
  have h1:=hb.keep BX.o wS.o;have h2:=hb.keep ET.o.head ET.o.n1;exact⟨au h2 0 rfl,au h1 8 rfl⟩
 have ow:=ai (HS.o _ (aD.drew _ _));have yK:=ai (HS.o (WA.alloc (.cells #[I 0,I 0] 75)).drew ((aD.alloc _ _ _).trans (aD.drew _ _) (fun _ _ g=>g)));have gK:=ai lh.o.drew;have cN:=ai (lh.o.alloc lh.o.size (.cells #[I 0,I 0] 75)).drew;have hlx:=aJ BX.o;clear LZ L4 lO g0 g1 c0 c1 c2 c3 c4 c5 c6 c7 c8 c9 c10 c11 c12 aj6 amB;go_cut [6,7] (fun x6 x7 wx=>∃zb,x6=.string d/\x7=.pointer (some ⟨zb,0,none⟩)/\xb<zb/\wx.heap[zb]?=some (.cells #[I X1,I X2] 75 (0,0))/\wx.heap[fb]?=some (.cells #[I 0,I 0] 75 (0,0))/\wx.heap[xb]?=some (.cells #[I (q.r 0),I (q.r 1),I (q.r 2),I (q.r 3),I (q.r 4),I (q.r 5),I (q.r 6),I (q.r 7),I q.pc,I q.st,I q.cd,I q.fk,I q.fa] 77 (0,0))/\gN (fun b=>b=fb∨b=xb∨b=zb) Hd lo mb gb w D (.slice (some ⟨pb,0,none⟩) n cap) vo { st with mem:=X3 } wx)
 case first =>
  have ZH:Hid (∀(V:World) (g:Nat),xb<g->(V.cell? ⟨gb,0,none⟩=some (.iface 183 (.pointer (some ⟨mb,0,none⟩)))/\V.cell? ⟨xb,8,none⟩=some (I q.pc))->∀v0 v1,((V.setCell ⟨g,0,none⟩ v0).setCell ⟨g,1,none⟩ v1).cell? ⟨gb,0,none⟩=some (.iface 183 (.pointer (some ⟨mb,0,none⟩)))/\((V.setCell ⟨g,0,none⟩ v0).setCell ⟨g,1,none⟩ v1).cell? ⟨xb,8,none⟩=some (I q.pc)):=fun V g hg ⟨h0,h1⟩ v0 v1=>by
   have hne:xb≠g:=by omega
   have PT:gb≠g:=by have:=Tk.o;have:=HFB.o;omega
   rw[cu _ _ _ _ _ _ hne,cu _ _ _ _ _ _ hne,cu _ _ _ _ _ _ PT,cu _ _ _ _ _ _ PT];exact⟨h0,h1⟩
  go_region_held3 (fun V=>V.cell? ⟨gb,0,none⟩=some (.iface 183 (.pointer (some ⟨mb,0,none⟩)))/\V.cell? ⟨xb,8,none⟩=some (I q.pc)) (first | exact ow.o | exact yK.o | exact rX.o | exact sK.o _ | exact Tt.o _ _ | exact arv.o _ _ _)
   (first | (go_at_call 254;refine(HLD.o _ (by first | exact gK.o | exact cN.o)).mono ?_;rintro e w2 ⟨D2,rfl,hm2,hk2,hd2⟩;have HKW:Hid (aD D WA w2):=(by first | exact(aD.drew D WA).trans hk2 (fun _ _ g=>g) | exact((aD.alloc D WA (.cells #[I 0,I 0] 75)).trans (aD.drew D _) (fun _ _ g=>g)).trans hk2 (fun _ _ g=>g));have rX:=ai (HS.o _ HKW.o);have sK:=ai (fun ob=>HS.o _ (HKW.o.trans (aD.alloc D w2 ob) (fun _ _ g=>g)));have Tt:=ai (ZH.o w2 WA.heap.size hlx rX.o);have arv:=ai (fun ob=>ZH.o (w2.alloc ob) w2.heap.size (fL hlx HKW.o.size) (sK.o ob));have Bv:=ai (gN.behind HC.o HG.o (by first | exact gK.o | exact cN.o) (cJ.Fb HC.o (HG.o.below HC.o (by first | exact gK.o | exact cN.o)) hm2 hk2 hd2));have BF2:=ai (HKW.o.keep BF.o HNF.o);have BX2:=ai (HKW.o.keep BX.o wS.o);(try (have yV:=ai (hk2.keep (w:=(WA.alloc (.cells #[I 0,I 0] 75)).drew) (bE WA #[I 0,I 0] 75) HNZ.o);have z0:=au (v:=I 0) yV.o 0 rfl;have z1:=au (v:=I 0) yV.o 1 rfl;have z2:=aR yV.o 0;have z3:=aR yV.o 1));clear hm2 hk2 hd2))
  all_goals
   go_wp2_with fail
   go_meet
   case rel =>
    have e1:=Tk.o;have e2:=HFB.o;have e3:=HKW.o.size
    first
    | exact⟨_,rfl,rfl,by omega,bE w2 _ _,br BF2.o _,br BX2.o _,(Bv.o.alloc HC.o _).sub (fun b e=>by rcases e with rfl | rfl | rfl;exact .inl ⟨by omega,by show _<WA.heap.size;omega⟩;exact .inl ⟨by omega,by show _<WA.heap.size;omega⟩;exact .inr rfl)⟩
    | exact⟨_,rfl,rfl,hlx,fh (fh yV.o 0 _) 1 _,mo (mo BF2.o WA.heap.size 0 _ (by omega)) WA.heap.size 1 _ (by omega),mo (mo BX2.o WA.heap.size 0 _ (by omega)) WA.heap.size 1 _ (by omega),((Bv.o.set HC.o ⟨WA.heap.size,0,none⟩ _ ⟨lh.o.size,by show WA.heap.size<(WA.alloc _).heap.size;rw[fF];omega⟩ lh.o.size).set HC.o ⟨WA.heap.size,1,none⟩ _ ⟨lh.o.size,by show WA.heap.size<(WA.alloc _).heap.size;rw[fF];omega⟩ lh.o.size).sub (fun b e=>by rcases e with rfl | rfl | rfl <;> exact⟨by omega,by show _<(WA.alloc _).heap.size;rw[fF];omega⟩)⟩
 case rest =>
  obtain⟨zb,rfl,rfl,hxz,hz,hf,hx,hl⟩:=hcut;have HZ:=ai hz;have HF:=ai hf;have HX:=ai hx;have HL:=ai hl;have z0:=au (v:=I X1) hz 0 rfl;have z1:=au (v:=I X2) hz 1 rfl;have f0:=au (v:=I 0) hf 0 rfl;have f1:=au (v:=I 0) hf 1 rfl;have e0:=aR hf 0;have e1:=aR hf 1;have hfw:w.heap.size<=fb:=by have:=HFB.o;omega
  clear HS ow yK gK cN HLD hz hf hx hl ET HNZ lh BF BX hlx;by_cases hX1:X1=0
  · subst hX1;have h8:d.size=8:=by have:=HSZ.o rfl;omega
    have XU:Hid (dh Ok { st with mem:=X3 }):=BB NM.o Sg.o;have HAS:=ai (fun V=>aa6 q d V h8);have XX:=ai (GA HC.o.ok XU.o k vD.o HH1.o (iG d) (AZ d h8));rw[<- HY.o] at XX;obtain⟨D1,r1,o1,hg1,hk1,hd1,Sk⟩:=HL.o;have HGX:=ai hg1;have HKX:=ai hk1;have HDX:=ai hd1;have ab2:=ai Sk;have HAN:Hid (∀V,Below wc.heap.size wc V->Calls Tryz.prog 150 #[.pointer (some ⟨gb,0,none⟩),I (k:Int),.agg (pj q (iG d))] V fun e w'=>e=.returned (.tuple #[I Y.1.1,.agg (gU Y.1.2)])/\cJ Hd lo mb gb V D1 r1 o1 Y.2 w'):=fun V hV=>by
     have:=Tn HC.o k (iG d) V (hg1.below HC.o hV) XU.o vD.o HH1.o;rw[<- HY.o] at this;have hqe:aN (dE.ps { st with mem:=X3 }) k=q:=HQ.o.symm;rw[hqe] at this;exact this
    obtain⟨k0,k1,k2,k3,k4,amU⟩:=ZF q (iG d);rw[amU] at HAS HAN;obtain⟨⟨v,F1,F2⟩,s2⟩:=Y;unfold gU at HAN;simp only at HAN XX HDO;have W4:Hid (RR=if ¬F1=0 then ((F1,F2),s2) else ((0,0),{ s2 with ps:=o9 (iG d) n (s2.ps.set k (cZ (aN s2.ps k) (iG d) v)) })):=by rw[HDO.o,aA (fun g=>g trivial)];exact rfl
    clear hg1 hk1 hd1 Sk amU HDO HSZ Sg;have g1:=au (v:=r1) HGX.o.head 1 rfl;obtain⟨a1,ana,hr1,_,_⟩:=bj HGX.o.procs;simp only at hr1;rw[<- HN.o] at hr1;subst hr1;have arl:Hid (wc.heap[xb]?=some (.cells #[I (q.r 0),I (q.r 1),I (q.r 2),I (q.r 3),I (q.r 4),I (q.r 5),I (q.r 6),I (q.r 7),I q.pc,I q.st,I q.cd,I q.fk,I q.fa] 77 (0,0))):=HX;have p0:=au (v:=I (q.r 0)) HX.o 0 rfl;have p1:=au (v:=I (q.r 1)) HX.o 1 rfl;have p2:=au (v:=I (q.r 2)) HX.o 2 rfl;have p3:=au (v:=I (q.r 3)) HX.o 3 rfl;have p4:=au (v:=I (q.r 4)) HX.o 4 rfl;have p5:=au (v:=I (q.r 5)) HX.o 5 rfl;have p6:=au (v:=I (q.r 6)) HX.o 6 rfl;have p7:=au (v:=I (q.r 7)) HX.o 7 rfl;have p8:=au (v:=I q.pc) HX.o 8 rfl;have p9:=au (v:=I q.st) HX.o 9 rfl;have p10:=au (v:=I q.cd) HX.o 10 rfl;have p11:=au (v:=I q.fk) HX.o 11 rfl;have p12:=au (v:=I q.fa) HX.o 12 rfl;have EU:Hid (∀V,Calls Tryz.prog 149 #[.agg #[I (q.r 0),I (q.r 1),I (q.r 2),I (q.r 3),I (q.r 4),I (q.r 5),I (q.r 6),I (q.r 7),I q.pc,I q.st,I q.cd,I q.fk,I q.fa],.string d] V fun e w'=>e=.returned (.tuple #[.agg #[I k0,I k1,I k2,I k3,I k4],I 0])/\Below V.heap.size V w'):=HAS;have hzl:=aJ HZ.o;have hzf:fb≠zb:=by have:=Tk.o;omega
    by_cases hF1:F1=0
    · subst hF1;have HD3:Hid (RR=((0,0),{ s2 with ps:=o9 (iG d) n (s2.ps.set k (cZ (aN s2.ps k) (iG d) v)) })):=by rw[W4.o,aA (fun g=>g rfl)];exact rfl
      clear W4;go_wp2_with (first
       | (go_at_call 149;refine(EU.o _).mono ?_;rintro e w3 ⟨rfl,hb3⟩;have mO:=ai hb3;have tC:=ai (hb3.alloc hb3.size (.cells #[I k0,I k1,I k2,I k3,I k4] 110));have BA:=ai (bE w3 #[I k0,I k1,I k2,I k3,I k4] 110);have g2:(w3.alloc (.cells #[I k0,I k1,I k2,I k3,I k4] 110)).cell? ⟨gb,1,none⟩=some (.slice a1 n ana):=(tC.o.cell (p:=⟨gb,1,none⟩) (aJ HGX.o.head)).trans g1;clear hb3)
       | (go_at_call 150;refine(HAN.o _ tC.o).mono ?_;rintro e w5 ⟨rfl,hl5⟩;have HL5:=ai hl5;have BZ5:=ai (hl5.keep (br (aO HZ.o mO.o (aJ HZ.o)) _) (ab2.o zb (.inr (.inr rfl))));have BF5:=ai (hl5.keep (br (aO HF.o mO.o (aJ HF.o)) _) (ab2.o fb (.inl rfl)));have y0:=au (v:=I 0) BZ5.o 0 rfl;have y1:=au (v:=I X2) BZ5.o 1 rfl;have y2:=aR BZ5.o 0;have y3:=aR BZ5.o 1;have t0:=au (v:=I 0) BF5.o 0 rfl;have t1:=au (v:=I 0) BF5.o 1 rfl;have t2:=aR BF5.o 0;have t3:=aR BF5.o 1;clear hl5))
      obtain⟨hplain,apO,hbad⟩:=XX.o.plain rfl;have hlen:n<=s2.ps.length/\s2.ps.length<=n+1:=by
       have hn:=HN.o;rcases hplain with⟨e,_⟩ | ⟨_,e,_⟩
       · rw[show s2.ps=st.ps from e];omega
       · rw[show s2.ps=st.ps++[aN st.ps k] from e,fK,AK];omega
      have hzw:w.heap.size<=zb:=by have:=Tk.o;omega
      have hLN:=gN.step (ys:=(fun b=>b=fb∨b=xb∨b=zb)) (fun b hb=>by have s4:=tC.o.size;have l1:=aJ HF.o;have l2:=aJ HX.o;have l3:=aJ HZ.o;rcases hb with e | e | e <;> rw[e] <;> omega) (HKX.o.trans (aD.b9 tC.o) (fun _ _ g=>g)) HDX.o ab2.o HL5.o;have hL6:=(hLN.set HC.o ⟨zb,0,none⟩ (I 0) (.inr (.inr rfl)) hzw).set HC.o ⟨zb,1,none⟩ (I F2) (.inr (.inr rfl)) hzw;have BF6:=mo (mo BF5.o zb 0 (I 0) hzf) zb 1 (I F2) hzf;obtain⟨W6,hW6⟩:=ex ((w5.setCell ⟨zb,0,none⟩ (I 0)).setCell ⟨zb,1,none⟩ (I F2));rw[<- hW6] at hL6 BF6 ⊢;obtain⟨D6,r6,o6,hg6,hk6,hd6,hn6⟩:=hL6;have aqu:=aJ BF6;refine(NJ HC.o k d v W6 hg6 (by omega) (by omega) h8 hbad).mono ?_;rintro e w7 ⟨rfl,hl7⟩;have BF7:=hl7.keep BF6 (hn6 fb (.inl rfl));have hL7:=gN.step (ys:=fun b=>b=fb) (fun b e=>by rw[e];exact aqu) hk6 hd6 (fun b e=>hn6 b (.inl e)) hl7;have HL7:=ai hL7;have HF7:=ai BF7;have HBD:=ai hbad;have HHL:=ai hlen;obtain⟨PS,hPS⟩:=ex (s2.ps.set k (cZ (aN s2.ps k) (iG d) v));rw[<- hPS] at HL7 HD3;have hPL:PS.length=s2.ps.length:=by rw[hPS,fJ]
      obtain⟨m,hm⟩:=ex s2.ps.length;rw[<- hm] at hPL hlen;have HPL:=ai hPL;clear hl7 hL7 BF7 BF6 hn6 hd6 hk6 hg6 hW6 hLN hbad hPS hm hplain apO HL5 BZ5 BF5 y0 y1 y2 y3 t0 t1 t2 t3 g2 BA mO tC EU HAN HAS arl p0 p1 p2 p3 p4 p5 p6 p7 p8 p9 p10 p11 p12 g1 HGX HKX HDX ab2 z0 z1 f0 f1 e0 e1 hPL;go_wp2;go_loopw [12] (fun x12 wr=>∃j:Nat,n+j<=m/\x12=I ((n+j:Nat):Int)/\gN (fun b=>b=fb) Hd lo mb gb w D (.slice (some ⟨pb,0,none⟩) n cap) vo { s2 with ps:=ml (iG d) n PS j } wr/\wr.heap[fb]?=some (.cells #[I 0,I 0] 75 (0,0))) (fun x12 _=>m-(intOf x12).toNat)
      case atStart=>exact⟨0,by omega,rfl,HL7.o,HF7.o⟩
      case round =>
       obtain⟨j,hj,rfl,hl,hf⟩:=hrel;have HFR:=ai hf;obtain⟨Dr,rr,orr,hgr,hkr,hdr,TZ⟩:=hl;have MH:=ai hgr;have HKR:=ai hkr;have HDR:=ai hdr;have HNR:=ai TZ;obtain⟨a7,c7,hr7,_,_⟩:=bj hgr.procs;have ap5:rr=.slice a7 m c7:=by
        rw[hr7];show Value.slice a7 (ml (iG d) n PS j).length c7=_;rw[pI,HPL.o]
       subst ap5;have x1:=au (v:=.slice a7 m c7) MH.o.head 1 rfl;clear hf hgr hkr hdr TZ hr7;by_cases hlt:n+j<m
       · have HDN:Hid (Calls Tryz.prog 151 #[.pointer (some ⟨gb,0,none⟩),I ((n+j:Nat):Int),.string d,I 0] wr fun e w'=>e=.returned (.tuple #[])/\cJ Hd lo mb gb wr Dr (.slice a7 m c7) orr { s2 with ps:=ml (iG d) n PS (j+1) } w'):=NJ HC.o (n+j) d 0 wr MH.o (by show(ml (iG d) n PS j).length<=1000;rw[pI,HPL.o];omega) (by show n+j<(ml (iG d) n PS j).length;rw[pI,HPL.o];omega) h8 HBD.o;have amI:((n+j:Nat):Int)<(m:Int):=by omega
         go_wp2_with (go_at_call 151;refine HDN.o.mono ?_;rintro e w8 ⟨rfl,hl8⟩;have HL8:=ai (gN.step (ys:=fun b=>b=fb) (fun b e=>(by rw[e];exact aJ HFR.o)) HKR.o HDR.o HNR.o hl8);have HF8:=ai (hl8.keep HFR.o (HNR.o fb rfl));clear hl8)
         go_roundw
         case rel=>exact⟨j+1,by omega,by go_num,HL8.o,HF8.o⟩
         case measure=>simp[intOf];omega
       · have hje:j=PS.length-n:=by have:=HPL.o;omega
         have OE:Hid (gN (fun b=>b=fb) Hd lo mb gb w D (.slice (some ⟨pb,0,none⟩) n cap) vo { s2 with ps:=o9 (iG d) n PS } wr):=by
          show gN _ _ _ _ _ _ _ _ _ _ _;rw[<- Rv (iG d) n PS (by have:=HPL.o;omega),<- hje];exact⟨Dr,_,orr,MH.o,HKR.o,HDR.o,HNR.o⟩
         have t0:=au (v:=I 0) HFR.o 0 rfl;have t1:=au (v:=I 0) HFR.o 1 rfl;have t2:=aR HFR.o 0;have t3:=aR HFR.o 1;have amI:¬((n+j:Nat):Int)<(m:Int):=by omega
         clear hje;go_wp2;refine bO (v:=.agg #[I 0,I 0]) (by simp[results,Tryz.results96,go_sem,t0,t1]) rfl ?_;rw[HD3.o];exact⟨rfl,((OE.o.set HC.o ⟨fb,0,none⟩ _ rfl hfw).set HC.o ⟨fb,1,none⟩ _ rfl hfw).left⟩
    · have hFi:(F1==0)=false:=by rw[mF];exact hF1
      have HD3:Hid (RR=((F1,F2),s2)):=by rw[W4.o,aC hF1];exact rfl
      clear W4 hF1;go_wp2_with (first
       | (go_at_call 149;refine(EU.o _).mono ?_;rintro e w3 ⟨rfl,hb3⟩;have mO:=ai hb3;have tC:=ai (hb3.alloc hb3.size (.cells #[I k0,I k1,I k2,I k3,I k4] 110));have BA:=ai (bE w3 #[I k0,I k1,I k2,I k3,I k4] 110);have g2:(w3.alloc (.cells #[I k0,I k1,I k2,I k3,I k4] 110)).cell? ⟨gb,1,none⟩=some (.slice a1 n ana):=(tC.o.cell (p:=⟨gb,1,none⟩) (aJ HGX.o.head)).trans g1;clear hb3)
       | (go_at_call 150;refine(HAN.o _ tC.o).mono ?_;rintro e w5 ⟨rfl,hl5⟩;have HL5:=ai hl5;have BZ5:=ai (hl5.keep (br (aO HZ.o mO.o (aJ HZ.o)) _) (ab2.o zb (.inr (.inr rfl))));have BF5:=ai (hl5.keep (br (aO HF.o mO.o (aJ HF.o)) _) (ab2.o fb (.inl rfl)));have y0:=au (v:=I 0) BZ5.o 0 rfl;have y1:=au (v:=I X2) BZ5.o 1 rfl;have y2:=aR BZ5.o 0;have y3:=aR BZ5.o 1;have t0:=au (v:=I 0) BF5.o 0 rfl;have t1:=au (v:=I 0) BF5.o 1 rfl;have t2:=aR BF5.o 0;have t3:=aR BF5.o 1;clear hl5))
      refine bO (v:=.agg #[I F1,I F2]) (by simp[results,Tryz.results96,go_sem,t0,t1]) rfl ?_;rw[HD3.o];have hLN:=gN.step (ys:=(fun b=>b=fb∨b=xb∨b=zb)) (fun b hb=>by have s4:=tC.o.size;have l1:=aJ HF.o;have l2:=aJ HX.o;have l3:=aJ HZ.o;rcases hb with e | e | e <;> rw[e] <;> omega) (HKX.o.trans (aD.b9 tC.o) (fun _ _ g=>g)) HDX.o ab2.o HL5.o;have hzw:w.heap.size<=zb:=by have:=Tk.o;omega
      exact⟨rfl,((((hLN.set HC.o ⟨zb,0,none⟩ _ (.inr (.inr rfl)) hzw).set HC.o ⟨zb,1,none⟩ _ (.inr (.inr rfl)) hzw).set HC.o ⟨fb,0,none⟩ _ (.inl rfl) hfw).set HC.o ⟨fb,1,none⟩ _ (.inl rfl) hfw).left⟩
  · have hXi:(X1==0)=false:=by rw[mF];exact hX1
    have W4:Hid (RR=((X1,X2),{ st with mem:=X3 })):=by rw[HDO.o,aC hX1];exact rfl
    clear HDO hX1;go_wp2;refine bO (v:=.agg #[I X1,I X2]) (by simp[results,Tryz.results96,go_sem,f0,f1]) rfl ?_;rw[W4.o];exact⟨rfl,((HL.o.set HC.o ⟨fb,0,none⟩ _ (.inl rfl) hfw).set HC.o ⟨fb,1,none⟩ _ (.inl rfl) hfw).left⟩
open Go.RowKit
section
variable {σ:Type} {Hd:World->(Nat->Prop)->σ->Prop} {Ok:σ->List Bool->Prop} {o:gH σ} {lo mb gb:Nat} {w w':World} {D:Nat->Prop} {vo:Value} {st:dE σ}
theorem fW.apm (C:iB lo mb Hd Ok o) {pb n cap:Nat} (h:fW Hd lo mb gb w D (.slice (some ⟨pb,0,none⟩) n cap) vo st) (k:Nat) (hk:k<st.ps.length) (hn:n=st.ps.length) (x:Int×Int) :
  cJ Hd lo mb gb w D (.slice (some ⟨pb,0,none⟩) n cap) vo { st with ps:=st.ps.set k (yG (aN st.ps k) x) } (((w.setCell ⟨pb,(k*13+9),none⟩ (I 3)).setCell ⟨pb,(k*13+11),none⟩ (I x.1)).setCell ⟨pb,(k*13+12),none⟩ (I x.2)):=by
 have hb:pQ (.slice (some ⟨pb,0,none⟩) n cap) pb:=rfl;have kS:aD (fun b=>b=pb) w (((w.setCell ⟨pb,(k*13+9),none⟩ (I 3)).setCell ⟨pb,(k*13+11),none⟩ (I x.1)).setCell ⟨pb,(k*13+12),none⟩ (I x.2)):=xB w pb _ _ _ _ _ _ rfl;refine⟨D,.slice (some ⟨pb,0,none⟩) n cap,vo,⟨kS.keep h.head (fun e=>h.n2 (e ▸ hb)),C.kp _ _ _ _ _ h.mem kS (fun b hd e=>h.n4 pb hb (e ▸ hd)),?_,kS.row h.outs (fun g hg e=>h.n6 pb hb (e ▸ hg)),h.base,h.n1,h.n2,h.n3,h.n4,h.n5,h.n6⟩,kS.mono (fun b _ e=>.inr (.inr (.inl (e ▸ hb)))),fun b hb=>.inl hb⟩;have hp:=h.procs;rw[<- hn] at hp;show World.ownsRow _ lo _ 13 _ (st.ps.set k _).length _;rw[fJ,<- hn];obtain⟨q,hq⟩:=ex (aN st.ps k);rw[<- hq];have h0:(st.ps.set k q).flatMap bU=st.ps.flatMap bU:=zx bU Cy st.ps k q hk (by rw[hq];rfl);rw[<- h0] at hp;have r1:=fw hp (k*13+9) (I 3);rw[<- iM st.ps k hk q { q with st:=3 } 9 (by omega) _ rfl] at r1;have r2:=fw r1 (k*13+11) (I x.1);rw[<- iM st.ps k hk { q with st:=3 } { q with st:=3,fk:=x.1 } 11 (by omega) _ rfl] at r2;have r3:=fw r2 (k*13+12) (I x.2);rw[<- iM st.ps k hk { q with st:=3,fk:=x.1 } { q with st:=3,fk:=x.1,fa:=x.2 } 12 (by omega) _ rfl] at r3;exact r3
end
variable {σ:Type} {Hd:World->(Nat->Prop)->σ->Prop} {Ok:σ->List Bool->Prop} {o:gH σ} {lo mb gb:Nat} {D:Nat->Prop} {vr vo:Value} {st:dE σ}
theorem Zz (C:iB lo mb Hd Ok o) (pick:Int) (w:World) (h:fW Hd lo mb gb w D vr vo st) (hok:dh Ok st) :
  Calls Tryz.prog 47 #[.pointer (some ⟨gb,0,none⟩),I pick] w fun e w'=>e=.returned (I (jz o st pick).1)/\cJ Hd lo mb gb w D vr vo (jz o st pick).2 w':=by
 have HG:=ai h;have HC:=ai C;have NM:=ai hok;have Hc:st.ps.length<=4:=by have:=C.ok.few _ _ hok.mem;unfold b7 at this;rw[ia] at this;exact this
 obtain⟨ar,cr,E2,_,_⟩:=bj h.procs;obtain⟨ao,co,hvo,_,_⟩:=bj h.outs;have HVR:=ai E2;have HVO:=ai hvo;have HSE:Hid (jz o st pick=if ¬(0<=pick/\pick<(st.ps.length:Int)) then (6,st) else if ¬(aN st.ps pick.toNat).st=1 then (0,st) else if 2000<=st.out.length then (2,st) else if (mC o st pick.toNat).1.1=0 then (0,(mC o st pick.toNat).2) else (0,{ (mC o st pick.toNat).2 with mem:=o.drop (mC o st pick.toNat).2.mem pick.toNat,ps:=(mC o st pick.toNat).2.ps.set pick.toNat (yG (aN (mC o st pick.toNat).2.ps pick.toNat) (mC o st pick.toNat).1) })):=rfl;obtain⟨RR,M5⟩:=ex (jz o st pick);rw[<- M5] at HSE ⊢;obtain⟨n,hn⟩:=ex st.ps.length;obtain⟨no,hno⟩:=ex st.out.length;rw[<- hn] at E2 Hc HSE;rw[<- hno] at hvo HSE;have HN:=ai hn;have uZ:=ai hno;have Ma:no<=2000:=by rw[hno];exact hok.out
 subst E2 hvo;obtain⟨g0,g1,g2⟩:=Ez h.head;clear M5 hn hno HVR HVO;by_cases hp0:pick<0
 · have HR:Hid (RR=(6,st)):=by rw[HSE.o,aC (by omega)];exact rfl
   clear HSE h C hok;go_enter Tryz.func47,Tryz.ntmps47;go_wp2;go_ret;rw[HR.o];exact⟨rfl,cJ.refl HG.o⟩
 · by_cases hp1:(n:Int)<=pick
   · have HR:Hid (RR=(6,st)):=by rw[HSE.o,aC (by omega)];exact rfl
     clear HSE h C hok;go_enter Tryz.func47,Tryz.ntmps47;go_wp2;go_ret;rw[HR.o];exact⟨rfl,cJ.refl HG.o⟩
   · obtain⟨k,rfl⟩:∃k:Nat,pick=(k:Int):=⟨pick.toNat,by omega⟩;have hk:k<n:=by omega
     have hks:k<st.ps.length:=by rw[<- HN.o];exact hk
     obtain⟨pb,cap,E2,hpb,hpc,PN⟩:=h.proc k hks;injection E2 with e1 e2 e3;subst e1 e3;clear e2;have mA:=ai hpc;have HPF:=ai PN;have JI:(k:Int)<(n:Int):=by omega
     have akY:=HSE.o;rw[aA (by omega),lM] at akY;have sK:=ai akY;obtain⟨s9,hs9⟩:=ex ((aN st.ps k).st);have c9:w.cell? ⟨pb,(k*13+9),none⟩=some (I s9):=by rw[hs9];exact hpc 9 (by omega)
     rw[<- hs9] at sK;have HS9:=ai hs9;clear HSE akY hpc PN hs9;by_cases hs1:s9=1
     · subst hs1;have h1:(aN st.ps k).st=1:=HS9.o.symm;by_cases Ff:2000<=no
       · have HR:Hid (RR=(2,st)):=by rw[sK.o,aA (fun g=>g rfl),aC Ff];exact rfl
         have aqb:(2000:Int)<=(no:Int):=by omega
         clear sK h C hok Ff;go_enter Tryz.func47,Tryz.ntmps47;go_wp2;go_ret;rw[HR.o];exact⟨rfl,cJ.refl HG.o⟩
       · have aqb:¬(2000:Int)<=(no:Int):=by omega
         have HDO:=ai (aem C k w h hok hks h1);have HDL:=ai (Jy C.ok hok (by rw[<- uZ.o];omega) k hks h1);have HS4:Hid (RR=if (mC o st k).1.1=0 then (0,(mC o st k).2) else (0,{ (mC o st k).2 with mem:=o.drop (mC o st k).2.mem k,ps:=(mC o st k).2.ps.set k (yG (aN (mC o st k).2.ps k) (mC o st k).1) })):=by rw[sK.o,aA (fun g=>g rfl),aA Ff];exact rfl
         obtain⟨X,hX⟩:=ex (mC o st k);rw[<- hX] at HDO HDL HS4;obtain⟨⟨X1,X2⟩,s2⟩:=X;unfold gU at HDO;simp only at HDO HDL HS4;clear sK hX h C hok Ff;by_cases hX1:X1=0
         · subst hX1;have HR:Hid (RR=(0,s2)):=by rw[HS4.o,aC rfl];exact rfl
           clear HS4;go_enter Tryz.func47,Tryz.ntmps47;go_wp2_with (go_at_call 96;refine HDO.o.mono ?_;rintro e w1 ⟨rfl,PW⟩;have Z8:=ai PW;clear PW)
           go_ret;rw[HR.o];exact⟨rfl,Z8.o.more HC.o ((aK _ _).alloc (aI _) _)⟩
         · have HR:Hid (RR=(0,{ s2 with mem:=o.drop s2.mem k,ps:=s2.ps.set k (yG (aN s2.ps k) (X1,X2)) })):=by rw[HS4.o,aA hX1];exact rfl
           have hXi:(X1==0)=false:=by rw[mF];exact hX1
           have hsame:s2.ps=st.ps:=HDL.o.same hX1;have amj:dh Ok s2:=HDL.o.ok;have amr:(b7 s2.ps).getD k false=true:=by rw[hsame];exact ir k hks h1
           have arC:=ai amj;have arK:=ai amr;have HSM:=ai hsame;have hm:=IP ⟨mb,0,none⟩;have ha:=Lt ⟨mb,0,none⟩;clear HS4 hsame amj amr hX1 HDL;go_enter Tryz.func47,Tryz.ntmps47;go_wp2_with (first
            | (go_at_call 96;refine HDO.o.mono ?_;rintro e w1 ⟨rfl,PW⟩;obtain⟨D1,r1,o1,hg1,hk1,hd1⟩:=PW;have XU:=ai hg1;have vD:=ai hk1;have HD1:=ai hd1;have HBF:=ai ((aK w1.heap.size w1).alloc (aI _) (.cells #[I X1,I X2] 75));have x0:=au (v:=.iface 183 (.pointer (some ⟨mb,0,none⟩))) hg1.head 0 rfl;have x0a:(w1.alloc (.cells #[I X1,I X2] 75)).cell? ⟨gb,0,none⟩=some (.iface 183 (.pointer (some ⟨mb,0,none⟩))):=au (br hg1.head _) 0 rfl;clear hg1 hk1 hd1)
            | (go_at_call 252;refine(HC.o.drop _ D1 s2.mem _ k (XU.o.below HC.o HBF.o).mem arC.o.mem arK.o).mono ?_;rintro e w2 ⟨D2,rfl,hm2,hk2,hd2⟩;have HG2:=ai ((XU.o.below HC.o HBF.o).turn HC.o hm2 hk2 hd2);have pU:=ai hk2;have W4:=ai hd2;have yV:=ai (hk2.keep (bE w1 #[I X1,I X2] 75) (fun g=>(by have:=HC.o.dom _ _ _ XU.o.mem _ g;omega)));clear hm2 hk2 hd2))
           obtain⟨pb2,cap2,hv2,aj6,aht,ahs⟩:=HG2.o.proc k (by show k<s2.ps.length;rw[HSM.o];exact hks);have hl2:s2.ps.length=n:=by rw[HSM.o];exact HN.o.symm
           have apP:r1=.slice (some ⟨pb2,0,none⟩) n cap2:=by rw[hv2];show Value.slice _ s2.ps.length _=_;rw[hl2]
           subst apP;have x1:w2.cell? ⟨gb,1,none⟩=some (.slice (some ⟨pb2,0,none⟩) n cap2):=au HG2.o.head 1 rfl;have z0:=au (v:=I X1) yV.o 0 rfl;have z1:=au (v:=I X2) yV.o 1 rfl;have d9:w2.cell? ⟨pb2,(k*13+9),none⟩=some (I (aN s2.ps k).st):=aht 9 (by omega);have d11:w2.cell? ⟨pb2,(k*13+11),none⟩=some (I (aN s2.ps k).fk):=aht 11 (by omega);have d12:w2.cell? ⟨pb2,(k*13+12),none⟩=some (I (aN s2.ps k).fa):=aht 12 (by omega);have f9:=ahs (k*13+9);have f11:=ahs (k*13+11);have f12:=ahs (k*13+12);have Bv:=ai hl2;clear hv2 aht ahs hl2;go_region
           all_goals
            go_wp2;go_ret;rw[HR.o];have hs:=(HG2.o.apm HC.o k (by show k<s2.ps.length;rw[HSM.o];exact hks) (by show n=s2.ps.length;rw[Bv.o]) (X1,X2)).more HC.o (aK _ _).drew;refine⟨rfl,cJ.trans vD.o HD1.o (cJ.after HBF.o (cJ.trans (pU.o.mono (fun b _ g=>.inr (.inl g))) (fun b hb=>?_) hs))⟩;rcases hb with g | g | g | g
            · exact .inl (.inl g)
            · rcases W4.o b g with x | x
              · exact .inl (.inr (.inl x))
              · exact .inr x
            · exact .inl (.inr (.inr (.inl g)))
            · exact .inl (.inr (.inr (.inr g)))
     · have HR:Hid (RR=(0,st)):=by rw[sK.o,aC hs1];exact rfl
       have hsi:(s9==1)=false:=by rw[mF];exact hs1
       clear sK h C hok hs1;go_enter Tryz.func47,Tryz.ntmps47;go_wp2;go_ret;rw[HR.o];exact⟨rfl,cJ.refl HG.o⟩
def oV (w:World) (ao:Option Addr) (l:List Int):Prop:=0<l.length->∃b off,ao=some ⟨b,off,none⟩/\b<w.heap.size/\∀i,i<l.length->w.cell? ⟨b,(off+i),none⟩=some (I (l.getD i 0))
def zI (Hd:World->(Nat->Prop)->σ->Prop) (lo mb gb:Nat) (w:World) (D:Nat->Prop) (vr vo:Value) (r:Int×Option (dE σ)) (e:Ending) (w':World):Prop:=e=.returned (I r.1)/\aD (kH gb D vr vo) w w'/\∀s,r.2=some s->cJ Hd lo mb gb w D vr vo s w'
theorem abV (C:iB lo mb Hd Ok o) (picks:List Int) (ap:Option Addr) (cp:Nat) (w:World) (h:fW Hd lo mb gb w D vr vo st) (hok:dh Ok st) (hp:oV w ap picks) (hps:0<picks.length->∀b,ap=some b->¬kH gb D vr vo b.block) (hpn:picks.length<=140737488351232) :
  Calls Tryz.prog 62 #[.pointer (some ⟨gb,0,none⟩),.slice ap picks.length cp] w (zI Hd lo mb gb w D vr vo (wF o st picks)):=by
 have HG:=ai h;have HC:=ai C;have NM:=ai hok;have HP:=ai hp;have HPS:=ai hps;have HRG:Hid (wF o st picks=if 2000<picks.length then ((2:Int),none) else match dG o picks picks.length (some st) with | none=>(2,none) | some s=>(0,some s)):=rfl;have ZJ:Hid (∀n s,dG o picks n (some st)=some s->dG o picks (n+1) (some st)=if (jz o s (picks.getD n 0)).1=2 then none else some (jz o s (picks.getD n 0)).2):=fun n s e=>by
  show(match dG o picks n (some st) with | none=>none | some s=>if (jz o s (picks.getD n 0)).1=2 then none else some (jz o s (picks.getD n 0)).2)=_;rw[e]
 have HRN:Hid (∀n,dG o picks n (some st)=none->∀m,n<=m->dG o picks m (some st)=none):=fun n e m hm=>by
  induction m with
  | zero => obtain rfl:n=0 := by omega
            exact e
  | succ m ih =>
   by_cases c:n=m+1
   · subst c;exact e
   · show(match dG o picks m (some st) with | none=>none | some s=>if (jz o s (picks.getD m 0)).1=2 then none else some (jz o s (picks.getD m 0)).2)=_;rw[ih (by omega)]
 have HRO:=ai (vw C.ok hok picks);have HR0:Hid (dG o picks 0 (some st)=some st):=rfl;obtain⟨RR,M5⟩:=ex (wF o st picks);rw[<- M5] at HRG ⊢;obtain⟨np,AA⟩:=ex picks.length;rw[<- AA] at HRG hpn ⊢;have HNP:=ai AA;have dz:Hid (∀e w',zI Hd lo mb gb w D vr vo RR e w'↔(e=.returned (I RR.1)/\aD (kH gb D vr vo) w w'/\∀s,RR.2=some s->cJ Hd lo mb gb w D vr vo s w')):=fun e w'=>Iff.rfl
 obtain⟨P,hP⟩:=ex (zI Hd lo mb gb w D vr vo RR);rw[<- hP] at dz ⊢;clear M5 AA h C hok hp hps hP;by_cases hbig:2000<np
 · have HR:Hid (RR=(2,none)):=by rw[HRG.o,aC hbig];exact rfl
   have hbi:(2000:Int)<(np:Int):=by omega
   clear HRG ZJ HRN HRO HR0 hbig;go_enter Tryz.func62,Tryz.ntmps62;go_wp2;refine(dz.o _ _).2 ?_;rw[HR.o];exact⟨rfl,aD.refl _ _,fun s e=>by cases e⟩
 · have hbi:¬(2000:Int)<(np:Int):=by omega
   have Cr:Hid (RR=match dG o picks np (some st) with | none=>((2:Int),none) | some s=>(0,some s)):=by have:=HRG.o;rw[aA hbig] at this;exact this
   clear HRG;go_enter Tryz.func62,Tryz.ntmps62;go_wp2;go_loopw [12] (fun iv wr=>∃(j:Nat) (s:dE σ),j<=np/\iv=I (j:Int)/\dG o picks j (some st)=some s/\cJ Hd lo mb gb w D vr vo s wr) (fun iv _=>np-(intOf iv).toNat)
   case atStart=>exact⟨0,st,by omega,rfl,HR0.o,cJ.refl HG.o⟩
   case round =>
    obtain⟨j,s,hj,rfl,hrun,hl⟩:=hrel;have HRU:=ai hrun;have HL:=ai hl;have HOS:=ai (HRO.o j s hrun);obtain⟨D1,r1,o1,hg1,hk1,hd1⟩:=hl;have XU:=ai hg1;have vD:=ai hk1;have HD1:=ai hd1;clear hrun hg1 hk1 hd1;by_cases hlt:j<np
    · obtain⟨b,off,hao,hbl,hcell⟩:=HP.o (by rw[<- HNP.o];omega);subst hao;have hc0:wr.cell? ⟨b,(off+j),none⟩=some (I (picks.getD j 0)):=vD.o.cell (hcell j (by rw[<- HNP.o];exact hlt)) (HPS.o (by rw[<- HNP.o];omega) ⟨b,off,none⟩ rfl);have HST:=ai (ZJ.o j s HRU.o);obtain⟨pk,hpk⟩:=ex (picks.getD j 0);rw[<- hpk] at hc0 HST;have HSA:=ai (Zz HC.o pk wr XU.o HOS.o);obtain⟨X,hX⟩:=ex (jz o s pk);rw[<- hX] at HST HSA;obtain⟨x1,s2⟩:=X;simp only at HST HSA;have hji:(j:Int)<(np:Int):=by omega
      clear hpk hX hcell;by_cases hx:x1=2
      · subst hx;have uZ:=ai (HRN.o (j+1) (by rw[HST.o,aC rfl]) np (by omega));have HR:Hid (RR=(2,none)):=by have:=Cr.o;rw[uZ.o] at this;exact this
        clear HST Cr uZ;go_wp2_with (go_at_call 47;refine HSA.o.mono ?_;rintro e w2 ⟨rfl,hl2⟩;have Bv:=ai (cJ.trans vD.o HD1.o hl2);clear hl2)
        refine(dz.o _ _).2 ?_;rw[HR.o];obtain⟨_,_,_,_,hkk,_⟩:=Bv.o;exact⟨rfl,hkk,fun s e=>by cases e⟩
      · have hxi:(x1==2)=false:=by rw[mF];exact hx
        have wS:Hid (dG o picks (j+1) (some st)=some s2):=by rw[HST.o,aA hx];exact rfl
        clear HST hx;go_wp2_with (go_at_call 47;refine HSA.o.mono ?_;rintro e w2 ⟨rfl,hl2⟩;have Bv:=ai (cJ.trans vD.o HD1.o hl2);clear hl2)
        go_roundw
        case rel=>exact⟨j+1,s2,by omega,by go_num,wS.o,Bv.o⟩
        case measure=>simp[intOf];omega
    · obtain rfl:j=np:=by omega
      have HR:Hid (RR=(0,some s)):=by have:=Cr.o;rw[HRU.o] at this;exact this
      clear Cr;go_wp2;refine(dz.o _ _).2 ?_;rw[HR.o];obtain⟨_,_,_,_,hkk,_⟩:=HL.o;exact⟨rfl,hkk,fun s' e=>by injection e with e;rw[<- e];exact HL.o⟩
open Go.RowKit
def gG (m:iF):dE aT:=⟨m.il,m.procs,m.out⟩
def wD (s:dE aT):iF:=⟨s.mem,s.ps,s.out⟩
def wE:iF:=⟨eG,[],[]⟩
def lI (m:iF) (hs:List bJ):iF:=⟨aV m.il hs,m.procs,m.out⟩
def Ag (m:iF) (r:Int×Option (dE aT)):iF×Int :=
 if ¬jD m=0 then (wE,jD m) else if ¬r.1=0 then (wE,r.1) else match r.2 with
  | none=>(wE,r.1)
  | some s=>(wD s,0)
def dU (m:iF) (picks:List Int):iF×Int:=Ag m (wF fX (gG m) picks)
def Q5 (ps:List bT):Prop:=∀k,k<ps.length->sH (aN ps k)
theorem Bq {m:iF} (h:jD m=0):aZ m.il/\m.out.length<=2000/\m.procs.length=m.il.aj.length/\jF m.procs m.out (fun k=>(ak m.il.aj k).live)=true:=by
 unfold jD at h;by_cases c:gq m.il=0
 · rw[aA (fun g=>g c)] at h;by_cases c2:2000<m.out.length
   · rw[aC c2] at h;cases h
   · rw[aA c2] at h;by_cases c3:m.procs.length=m.il.aj.length/\jF m.procs m.out (fun k=>(ak m.il.aj k).live)=true
     · exact⟨(wC _).1 c,by omega,c3.1,c3.2⟩
     · rw[aA c3] at h;cases h
 · rw[aC c] at h;exact absurd h c
theorem Zp {m:iF} (h1:aZ m.il) (h2:m.out.length<=2000) (h3:m.procs.length=m.il.aj.length) (h4:jF m.procs m.out (fun k=>(ak m.il.aj k).live)=true):jD m=0:=by
 unfold jD;rw[aA (fun g=>g ((wC _).2 h1)),aA (by omega),aC ⟨h3,h4⟩]
theorem aei {m:iF} (h:jD m=0) (hf:Q5 m.procs):dh dn (gG m):=by
 obtain⟨h1,h2,h3,h4⟩:=Bq h;unfold jF at h4;rw[<- Ey,<- LO,eQ,qa,qa] at h4;obtain⟨h5,h6⟩:=h4;have h5:∀k,k<m.procs.length->fA (aN m.procs k)=true/\(ak m.il.aj k).live=decide ((aN m.procs k).st=1):=fun k hk=>by
  have:=h5 k (uJ.2 hk);unfold vA at this;rw[eQ] at this;exact⟨this.1,eq_of_beq this.2⟩
 refine⟨⟨h1,?_⟩,hf,fun k hk=>(h5 k hk).1,fun x hx=>?_,h2⟩
 · show b7 m.procs=m.il.aj.map (·.live);unfold b7;apply UK
   · rw[ia,ia,h3]
   · intro k hk1 hk2;rw[ia] at hk1 hk2;rw[List.getElem_map,List.getElem_map];have:=(h5 k hk1).2;unfold ak aN at this;rw[fG,lW hk2,fG,lW hk1] at this;exact this.symm
 · have:=h6 x hx;unfold Ao at this;exact oP this
theorem Oz {s:dE aT} (h:dh dn s):jD (wD s)=0:=by
 have hfl:=h.mem.flags;have hlen:s.ps.length=s.mem.aj.length:=by
  have:=dI List.length hfl;simpa [b7] using this
 refine Zp h.mem.right h.out hlen ?_;show jF s.ps s.out _=true;unfold jF;rw[<- Ey,<- LO,eQ,qa,qa];refine⟨fun k hk=>?_,fun x hx=>?_⟩
 · have hk:=uJ.1 hk;unfold vA;rw[eQ];refine⟨h.right k hk,?_⟩;rw[beq_iff_eq];have e:=I1 s.ps k;rw[hfl,gZ hk,tK] at e;rw[<- e];have hk2:k<s.mem.aj.length:=by omega
   show(ak s.mem.aj k).live=_;unfold ak;rw[fG,fG,AH,lW hk2];rfl
 · have:=h.words x hx;simpa [Ao] using this
theorem abQ {w:World} {ao:Option Addr} {l:List bT} (h:uS w ao l):mR w ao l.length (l.flatMap bU):=fun hm=>by
 obtain⟨b,off,rfl,hb,hl⟩:=h hm;refine⟨_,rfl,fun j u hu=>?_⟩;have hlen:=fY bU 13 rW l;have hj:j<l.length*13:=by rw[<- hlen];exact(U6.1 hu).1
 have hi:j/13<l.length:=by omega
 have hr:j%13<13:=Nat.mod_lt _ (by omega);have he:j=j/13*13+j%13:=by omega
 obtain⟨i,hi0⟩:=ex (j/13);obtain⟨r,Yf⟩:=ex (j%13);rw[<- hi0,<- Yf] at he;rw[<- hi0] at hi;rw[<- Yf] at hr;subst he;rw[yF bU 13 rW Cy l i r hi hr] at hu;obtain⟨c0,c1,c2,c3,c4,c5,c6,nR,c8,c9,c10,c11,c12⟩:=hl i hi;rw[si];have hx:∀n v,(bU (aN l i))[r]?=some u->r=n->(bU (aN l i))[n]?=some v->w.cell? ⟨b,(off+i*13+n),none⟩=some v->w.cell? ⟨b,(off+(i*13+r)),none⟩=some u:=fun n v h1 h2 h3 h4=>by
  subst h2;rw[h1] at h3;injection h3 with h3;subst h3;rw[<- xL];exact h4
 have hu':(bU (aN l i))[r]?=some u:=hu;rcases(show r=0∨r=1∨r=2∨r=3∨r=4∨r=5∨r=6∨r=7∨r=8∨r=9∨r=10∨r=11∨r=12 by omega) with e | e | e | e | e | e | e | e | e | e | e | e | e
 · exact hx 0 _ hu' e rfl c0
 · exact hx 1 _ hu' e rfl c1
 · exact hx 2 _ hu' e rfl c2
 · exact hx 3 _ hu' e rfl c3
 · exact hx 4 _ hu' e rfl c4
 · exact hx 5 _ hu' e rfl c5
 · exact hx 6 _ hu' e rfl c6
 · exact hx 7 _ hu' e rfl nR
 · exact hx 8 _ hu' e rfl c8
 · exact hx 9 _ hu' e rfl c9
 · exact hx 10 _ hu' e rfl c10
 · exact hx 11 _ hu' e rfl c11
 · exact hx 12 _ hu' e rfl c12
theorem abO {w:World} {ao:Option Addr} {l:List sI} (h:wJ w ao l):mR w ao l.length (l.flatMap jE):=fun hm=>by
 obtain⟨b,off,rfl,hb,hl⟩:=h hm;refine⟨_,rfl,fun j u hu=>?_⟩;have hlen:=fY jE 2 yc l;have hj:j<l.length*2:=by rw[<- hlen];exact(U6.1 hu).1
 have hi:j/2<l.length:=by omega
 have hr:j%2<2:=Nat.mod_lt _ (by omega);have he:j=j/2*2+j%2:=by omega
 obtain⟨i,hi0⟩:=ex (j/2);obtain⟨r,Yf⟩:=ex (j%2);rw[<- hi0,<- Yf] at he;rw[<- hi0] at hi;rw[<- Yf] at hr;subst he;rw[yF jE 2 yc Xw l i r hi hr] at hu;obtain⟨c0,c1⟩:=hl i hi;rw[si];have hu':(jE (oW l i))[r]?=some u:=hu;rcases(show r=0∨r=1 by omega) with e | e
 · subst e;have h3:some (I (oW l i).proc)=some u:=hu';rw[<- h3];exact c0
 · subst e;have h3:some (I (oW l i).value)=some u:=hu';rw[<- h3,<- xL];exact c1
theorem aeg {w:World} {lo:Nat} {ao:Option Addr} {cap:Nat} {l:List bT} (h:w.ownsRow lo 77 13 (.slice ao l.length cap) l.length (l.flatMap bU)):uS w ao l:=fun hm=>by
 obtain⟨XQ,cap',e,_,hg⟩:=bj h;injection e with ea _ _;subst ea;obtain⟨g,rfl,_,hlt⟩:=hg hm;refine⟨g,0,rfl,hlt,fun i hi=>?_⟩;have hc:∀j,j<13->w.cell? ⟨g,(i*13+j),none⟩=(bU (aN l i))[j]?:=fun j hj=>kj bU rW Cy h i j hi hj
 rw[lU];exact⟨hc 0 (by omega),hc 1 (by omega),hc 2 (by omega),hc 3 (by omega),hc 4 (by omega),hc 5 (by omega),hc 6 (by omega),hc 7 (by omega),hc 8 (by omega),hc 9 (by omega),hc 10 (by omega),hc 11 (by omega),hc 12 (by omega)⟩
theorem aee {w:World} {lo:Nat} {ao:Option Addr} {cap:Nat} {l:List sI} (h:w.ownsRow lo 91 2 (.slice ao l.length cap) l.length (l.flatMap jE)):wJ w ao l:=fun hm=>by
 obtain⟨XQ,cap',e,_,hg⟩:=bj h;injection e with ea _ _;subst ea;obtain⟨g,rfl,_,hlt⟩:=hg hm;refine⟨g,0,rfl,hlt,fun i hi=>?_⟩;have hc:∀j,j<2->w.cell? ⟨g,(i*2+j),none⟩=(jE (oW l i))[j]?:=fun j hj=>kj jE yc Xw h i j hi hj
 rw[lU];exact⟨hc 0 (by omega),hc 1 (by omega)⟩
theorem aef (l:List bT):∀u∈l.flatMap bU,u.oneCell'=true:=fun u hu=>by
 obtain⟨p,_,h⟩:=vJ.1 hu;simp only[bU,uI,G3,or_false] at h;rcases h with rfl | rfl | rfl | rfl | rfl | rfl | rfl | rfl | rfl | rfl | rfl | rfl | rfl <;> rfl
theorem aed (l:List sI):∀u∈l.flatMap jE,u.oneCell'=true:=fun u hu=>by
 obtain⟨p,_,h⟩:=vJ.1 hu;simp only[jE,uI,G3,or_false] at h;rcases h with rfl | rfl <;> rfl
end Go.Proofs.YtlgoihmkgaaemaaGreat
