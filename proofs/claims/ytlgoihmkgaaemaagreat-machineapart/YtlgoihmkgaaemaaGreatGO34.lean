import Derived.Test.YtlgoihmkgaaemaaGreatGO33
set_option maxHeartbeats 20000000
set_option linter.unusedVariables false
set_option maxRecDepth 100000
set_option linter.unusedSimpArgs false
namespace Go.Proofs.YtlgoihmkgaaemaaGreat
open Go.RowKit
variable {σ:Type} {Hd:World->(Nat->Prop)->σ->Prop} {Ok:σ->List Bool->Prop} {o:gH σ} {lo mb gb:Nat} {D:Nat->Prop} {vr vo:Value} {st:df σ}
theorem ZR (p:bO) (i:dU):∃k0 k1 k2 k3 k4,pD p i=#[I k0,I k1,I k2,I k3,I k4]:=by
 unfold pD
 repeat' split
 all_goals exact⟨_,_,_,_,_,rfl⟩
theorem aem (C:iC lo mb Hd Ok o) (k:Nat) (w:World) (h:fH Hd lo mb gb w D vr vo st) (hok:dh Ok st) (hk:k<st.ps.length) (h1:(aI st.ps k).st=1) :
  Calls Tryz.prog 96 #[.pointer (some ⟨gb,0,none⟩),I (k:Int)] w fun e w'=>e=.returned (.agg (gW (kX o st k).1))/\cE Hd lo mb gb w D vr vo (kX o st k).2 w':=by
 have HG:=ai h;have HC:=ai C;have N1:=ai hok;have hlv:=iu k hk h1;have T4:=ai hlv;have vI:=ai hk;have HH1:=ai h1;have Fk:st.ps.length<=4:=by have:=C.ok.few _ _ hok.mem;unfold bV at this;rw[ie] at this;exact this
 have RJ:=ai (hok.fit k hk);have hgb:=aJ h.head;obtain⟨pb,cap,E6,hpb,hpc,P6⟩:=h.proc k hk;have mD:=ai hpc;have HLD:Hid (∀V,Below w.heap.size w V->Calls Tryz.prog 254 #[.pointer (some ⟨mb,0,none⟩),I (k:Int),I (aI st.ps k).pc,I 8,I 2] V (oq Hd V D (.tuple #[.string (o.load st.mem k (aI st.ps k).pc 8 2).1.1,.agg (gW (o.load st.mem k (aI st.ps k).pc 8 2).1.2)]) (o.load st.mem k (aI st.ps k).pc 8 2).2)):=fun V hV=>C.load V D st.mem _ k _ 8 2 (h.below C hV).mem hok.mem hlv (hok.fit k hk).2 (by omega) (by omega) (.inr rfl)
 have HSZ:=ai (C.ok.size st.mem _ k (aI st.ps k).pc 8 2 hok.mem hlv (by omega) (by omega));have SC:=ai (C.ok.load st.mem _ k (aI st.ps k).pc 8 2 hok.mem hlv);have HDO:Hid (kX o st k=(if ¬(o.load st.mem k (aI st.ps k).pc 8 2).1.2.1=0 then ((o.load st.mem k (aI st.ps k).pc 8 2).1.2,{ st with mem:=(o.load st.mem k (aI st.ps k).pc 8 2).2 }) else if ¬(eX o { st with mem:=(o.load st.mem k (aI st.ps k).pc 8 2).2 } k (ik (o.load st.mem k (aI st.ps k).pc 8 2).1.1)).1.2.1=0 then ((eX o { st with mem:=(o.load st.mem k (aI st.ps k).pc 8 2).2 } k (ik (o.load st.mem k (aI st.ps k).pc 8 2).1.1)).1.2,(eX o { st with mem:=(o.load st.mem k (aI st.ps k).pc 8 2).2 } k (ik (o.load st.mem k (aI st.ps k).pc 8 2).1.1)).2) else ((0,0),{ (eX o { st with mem:=(o.load st.mem k (aI st.ps k).pc 8 2).2 } k (ik (o.load st.mem k (aI st.ps k).pc 8 2).1.1)).2 with ps:=kQ (ik (o.load st.mem k (aI st.ps k).pc 8 2).1.1) st.ps.length ((eX o { st with mem:=(o.load st.mem k (aI st.ps k).pc 8 2).2 } k (ik (o.load st.mem k (aI st.ps k).pc 8 2).1.1)).2.ps.set k (dg (aI (eX o { st with mem:=(o.load st.mem k (aI st.ps k).pc 8 2).2 } k (ik (o.load st.mem k (aI st.ps k).pc 8 2).1.1)).2.ps k) (ik (o.load st.mem k (aI st.ps k).pc 8 2).1.1) (eX o { st with mem:=(o.load st.mem k (aI st.ps k).pc 8 2).2 } k (ik (o.load st.mem k (aI st.ps k).pc 8 2).1.1)).1.1)) }))):=rfl;obtain⟨q,hq⟩:=ex (aI st.ps k);rw[<- hq] at mD HLD HSZ SC HDO;have HQ:=ai hq;obtain⟨X,hX⟩:=ex (o.load st.mem k q.pc 8 2);rw[<- hX] at HLD HSZ SC HDO;obtain⟨⟨d,X1,X2⟩,X3⟩:=X;unfold gW at HLD;simp only at HLD HSZ SC HDO;obtain⟨Y,hY⟩:=ex (eX o { st with mem:=X3 } k (ik d));have HY:=ai hY;rw[<- hY] at HDO;obtain⟨RR,Nj⟩:=ex (kX o st k);rw[<- Nj] at HDO ⊢;obtain⟨n,hn⟩:=ex st.ps.length;rw[<- hn] at E6 hk Fk HDO;subst E6;have HN:=ai hn;have Jj:(k:Int)<(n:Int):=by omega
 have g0:w.cell? ⟨gb,0,none⟩=some (.iface 183 (.pointer (some ⟨mb,0,none⟩))):=aq h.head 0 rfl;have g1:w.cell? ⟨gb,1,none⟩=some (.slice (some ⟨pb,0,none⟩) n cap):=aq h.head 1 rfl;have c0:w.cell? ⟨pb,(k*13),none⟩=some (I (q.r 0)):=mD.o 0 (by omega);have c1:w.cell? ⟨pb,(k*13+1),none⟩=some (I (q.r 1)):=mD.o 1 (by omega);have c2:w.cell? ⟨pb,(k*13+2),none⟩=some (I (q.r 2)):=mD.o 2 (by omega);have c3:w.cell? ⟨pb,(k*13+3),none⟩=some (I (q.r 3)):=mD.o 3 (by omega);have c4:w.cell? ⟨pb,(k*13+4),none⟩=some (I (q.r 4)):=mD.o 4 (by omega);have c5:w.cell? ⟨pb,(k*13+5),none⟩=some (I (q.r 5)):=mD.o 5 (by omega);have c6:w.cell? ⟨pb,(k*13+6),none⟩=some (I (q.r 6)):=mD.o 6 (by omega);have c7:w.cell? ⟨pb,(k*13+7),none⟩=some (I (q.r 7)):=mD.o 7 (by omega);have c8:w.cell? ⟨pb,(k*13+8),none⟩=some (I q.pc):=mD.o 8 (by omega);have c9:w.cell? ⟨pb,(k*13+9),none⟩=some (I q.st):=mD.o 9 (by omega);have c10:w.cell? ⟨pb,(k*13+10),none⟩=some (I q.cd):=mD.o 10 (by omega);have c11:w.cell? ⟨pb,(k*13+11),none⟩=some (I q.fk):=mD.o 11 (by omega);have c12:w.cell? ⟨pb,(k*13+12),none⟩=some (I q.fa):=mD.o 12 (by omega);have jm:=ai (((aK w.heap.size w).alloc (aD _) (.cells #[I 0,I 0] 75)).alloc (by simp) (.cells #[I (q.r 0),I (q.r 1),I (q.r 2),I (q.r 3),I (q.r 4),I (q.r 5),I (q.r 6),I (q.r 7),I q.pc,I q.st,I q.cd,I q.fk,I q.fa] 77));have BF:=ai (bk (bB w #[I 0,I 0] 75) (.cells #[I (q.r 0),I (q.r 1),I (q.r 2),I (q.r 3),I (q.r 4),I (q.r 5),I (q.r 6),I (q.r 7),I q.pc,I q.st,I q.cd,I q.fk,I q.fa] 77));have BX:Hid (((w.alloc (.cells #[I 0,I 0] 75)).alloc (.cells #[I (q.r 0),I (q.r 1),I (q.r 2),I (q.r 3),I (q.r 4),I (q.r 5),I (q.r 6),I (q.r 7),I q.pc,I q.st,I q.cd,I q.fk,I q.fa] 77)).heap[w.heap.size+1]?=some (.cells #[I (q.r 0),I (q.r 1),I (q.r 2),I (q.r 3),I (q.r 4),I (q.r 5),I (q.r 6),I (q.r 7),I q.pc,I q.st,I q.cd,I q.fk,I q.fa] 77 (0,0))):=by
  have:=bB (w.alloc (.cells #[I 0,I 0] 75)) #[I (q.r 0),I (q.r 1),I (q.r 2),I (q.r 3),I (q.r 4),I (q.r 5),I (q.r 6),I (q.r 7),I q.pc,I q.st,I q.cd,I q.fk,I q.fa] 77;rw[gh] at this;exact this
 have ajC:¬pb=w.heap.size:=by omega
 have amb:¬gb=w.heap.size:=by omega
 have hm:=IV ⟨mb,0,none⟩;have hah:=LC ⟨mb,0,none⟩;clear h C hX hY Nj hn hq hpc P6 hok hlv h1 mD;go_enter Tryz.func96,Tryz.ntmps96;go_wp2_with fail
 obtain⟨WA,lu⟩:=ex ((w.alloc (.cells #[I 0,I 0] 75)).alloc (.cells #[I (q.r 0),I (q.r 1),I (q.r 2),I (q.r 3),I (q.r 4),I (q.r 5),I (q.r 6),I (q.r 7),I q.pc,I q.st,I q.cd,I q.fk,I q.fa] 77));rw[<- lu] at jm BF BX ⊢;obtain⟨xb,Mf⟩:=ex (w.heap.size+1);rw[<- Mf] at BX ⊢;obtain⟨fb,Mo⟩:=ex w.heap.size;rw[<- Mo] at BF Mf ⊢;have TG:=ai Mf;have HFB:=ai Mo;have E0:=ai (HG.o.below HC.o jm.o);have wW:Hid (¬D xb):=fun g=>by have:=HC.o.dom _ _ _ HG.o.mem _ g;have:=TG.o;have:=HFB.o;omega
 have HNF:Hid (¬D fb):=fun g=>by have:=HC.o.dom _ _ _ HG.o.mem _ g;have:=HFB.o;omega
 have HNZ:Hid (¬D WA.heap.size):=fun g=>by have:=HC.o.dom _ _ _ HG.o.mem _ g;have:=jm.o.size;omega
 have HS:Hid (∀V,aC D WA V->V.cell? ⟨gb,0,none⟩=some (.iface 183 (.pointer (some ⟨mb,0,none⟩)))/\V.cell? ⟨xb,8,none⟩=some (I q.pc)):=fun V hb=>by
  have h1:=hb.keep BX.o wW.o;have h2:=hb.keep E0.o.head E0.o.n1;exact⟨aq h2 0 rfl,aq h1 8 rfl⟩
 have nU:=ai (HS.o _ (aC.drew _ _));have yM:=ai (HS.o (WA.alloc (.cells #[I 0,I 0] 75)).drew ((aC.alloc _ _ _).trans (aC.drew _ _) (fun _ _ g=>g)));have gB:=ai jm.o.drew;have cH:=ai (jm.o.alloc jm.o.size (.cells #[I 0,I 0] 75)).drew;have hlx:=aJ BX.o;clear Mf Mo lu g0 g1 c0 c1 c2 c3 c4 c5 c6 c7 c8 c9 c10 c11 c12 ajC amb;go_cut [6,7] (fun x6 x7 wx=>∃zb,x6=.string d/\x7=.pointer (some ⟨zb,0,none⟩)/\xb<zb/\wx.heap[zb]?=some (.cells #[I X1,I X2] 75 (0,0))/\wx.heap[fb]?=some (.cells #[I 0,I 0] 75 (0,0))/\wx.heap[xb]?=some (.cells #[I (q.r 0),I (q.r 1),I (q.r 2),I (q.r 3),I (q.r 4),I (q.r 5),I (q.r 6),I (q.r 7),I q.pc,I q.st,I q.cd,I q.fk,I q.fa] 77 (0,0))/\gS (fun b=>b=fb∨b=xb∨b=zb) Hd lo mb gb w D (.slice (some ⟨pb,0,none⟩) n cap) vo { st with mem:=X3 } wx)
 case first =>
  have ZU:Hid (∀(V:World) (g:Nat),xb<g->(V.cell? ⟨gb,0,none⟩=some (.iface 183 (.pointer (some ⟨mb,0,none⟩)))/\V.cell? ⟨xb,8,none⟩=some (I q.pc))->∀v0 v1,((V.setCell ⟨g,0,none⟩ v0).setCell ⟨g,1,none⟩ v1).cell? ⟨gb,0,none⟩=some (.iface 183 (.pointer (some ⟨mb,0,none⟩)))/\((V.setCell ⟨g,0,none⟩ v0).setCell ⟨g,1,none⟩ v1).cell? ⟨xb,8,none⟩=some (I q.pc)):=fun V g hg ⟨h0,h1⟩ v0 v1=>by
   have hne:xb≠g:=by omega
   have P9:gb≠g:=by have:=TG.o;have:=HFB.o;omega
   rw[cj _ _ _ _ _ _ hne,cj _ _ _ _ _ _ hne,cj _ _ _ _ _ _ P9,cj _ _ _ _ _ _ P9];exact⟨h0,h1⟩
  go_region_held3 (fun V=>V.cell? ⟨gb,0,none⟩=some (.iface 183 (.pointer (some ⟨mb,0,none⟩)))/\V.cell? ⟨xb,8,none⟩=some (I q.pc)) (first | exact nU.o | exact yM.o | exact sk.o | exact sL.o _ | exact MR.o _ _ | exact aqC.o _ _ _)
   (first | (go_at_call 254;refine(HLD.o _ (by first | exact gB.o | exact cH.o)).mono ?_;rintro e w2 ⟨D2,rfl,hm2,hk2,hd2⟩;have HKW:Hid (aC D WA w2):=(by first | exact(aC.drew D WA).trans hk2 (fun _ _ g=>g) | exact((aC.alloc D WA (.cells #[I 0,I 0] 75)).trans (aC.drew D _) (fun _ _ g=>g)).trans hk2 (fun _ _ g=>g));have sk:=ai (HS.o _ HKW.o);have sL:=ai (fun ob=>HS.o _ (HKW.o.trans (aC.alloc D w2 ob) (fun _ _ g=>g)));have MR:=ai (ZU.o w2 WA.heap.size hlx sk.o);have aqC:=ai (fun ob=>ZU.o (w2.alloc ob) w2.heap.size (fD hlx HKW.o.size) (sL.o ob));have Bz:=ai (gS.behind HC.o HG.o (by first | exact gB.o | exact cH.o) (cE.Fg HC.o (HG.o.below HC.o (by first | exact gB.o | exact cH.o)) hm2 hk2 hd2));have BF2:=ai (HKW.o.keep BF.o HNF.o);have BX2:=ai (HKW.o.keep BX.o wW.o);(try (have yZ:=ai (hk2.keep (w:=(WA.alloc (.cells #[I 0,I 0] 75)).drew) (bB WA #[I 0,I 0] 75) HNZ.o);have z0:=aq (v:=I 0) yZ.o 0 rfl;have z1:=aq (v:=I 0) yZ.o 1 rfl;have z2:=aO yZ.o 0;have z3:=aO yZ.o 1));clear hm2 hk2 hd2))
  all_goals
   go_wp2_with fail
   go_meet
   case rel =>
    have e1:=TG.o;have e2:=HFB.o;have e3:=HKW.o.size
    first
    | exact⟨_,rfl,rfl,by omega,bB w2 _ _,bk BF2.o _,bk BX2.o _,(Bz.o.alloc HC.o _).sub (fun b e=>by rcases e with rfl | rfl | rfl;exact .inl ⟨by omega,by show _<WA.heap.size;omega⟩;exact .inl ⟨by omega,by show _<WA.heap.size;omega⟩;exact .inr rfl)⟩
    | exact⟨_,rfl,rfl,hlx,fP (fP yZ.o 0 _) 1 _,mv (mv BF2.o WA.heap.size 0 _ (by omega)) WA.heap.size 1 _ (by omega),mv (mv BX2.o WA.heap.size 0 _ (by omega)) WA.heap.size 1 _ (by omega),((Bz.o.set HC.o ⟨WA.heap.size,0,none⟩ _ ⟨jm.o.size,by show WA.heap.size<(WA.alloc _).heap.size;rw[gh];omega⟩ jm.o.size).set HC.o ⟨WA.heap.size,1,none⟩ _ ⟨jm.o.size,by show WA.heap.size<(WA.alloc _).heap.size;rw[gh];omega⟩ jm.o.size).sub (fun b e=>by rcases e with rfl | rfl | rfl <;> exact⟨by omega,by show _<(WA.alloc _).heap.size;rw[gh];omega⟩)⟩
 case rest =>
  obtain⟨zb,rfl,rfl,hxz,hz,hf,hx,hl⟩:=hcut;have HZ:=ai hz;have HF:=ai hf;have HX:=ai hx;have HL:=ai hl;have z0:=aq (v:=I X1) hz 0 rfl;have z1:=aq (v:=I X2) hz 1 rfl;have f0:=aq (v:=I 0) hf 0 rfl;have f1:=aq (v:=I 0) hf 1 rfl;have e0:=aO hf 0;have e1:=aO hf 1;have hfw:w.heap.size<=fb:=by have:=HFB.o;omega
  clear HS nU yM gB cH HLD hz hf hx hl E0 HNZ jm BF BX hlx;by_cases hX1:X1=0
  · subst hX1;have h8:d.size=8:=by have:=HSZ.o rfl;omega
    have Yn:Hid (dh Ok { st with mem:=X3 }):=BG N1.o SC.o;have HAS:=ai (fun V=>abg q d V h8);have Yp:=ai (GI HC.o.ok Yn.o k vI.o HH1.o (ik d) (A4 d h8));rw[<- HY.o] at Yp;obtain⟨D1,r1,o1,hg1,hk1,hd1,Ur⟩:=HL.o;have HGX:=ai hg1;have HKX:=ai hk1;have HDX:=ai hd1;have aca:=ai Ur;have HAN:Hid (∀V,Below wc.heap.size wc V->Calls Tryz.prog 150 #[.pointer (some ⟨gb,0,none⟩),I (k:Int),.agg (pD q (ik d))] V fun e w'=>e=.returned (.tuple #[I Y.1.1,.agg (gW Y.1.2)])/\cE Hd lo mb gb V D1 r1 o1 Y.2 w'):=fun V hV=>by
     have:=TI HC.o k (ik d) V (hg1.below HC.o hV) Yn.o vI.o HH1.o;rw[<- HY.o] at this;have hqe:aI (df.ps { st with mem:=X3 }) k=q:=HQ.o.symm;rw[hqe] at this;exact this
    obtain⟨k0,k1,k2,k3,k4,amu⟩:=ZR q (ik d);rw[amu] at HAS HAN;obtain⟨⟨v,F1,F2⟩,s2⟩:=Y;unfold gW at HAN;simp only at HAN Yp HDO;have Xu:Hid (RR=if ¬F1=0 then ((F1,F2),s2) else ((0,0),{ s2 with ps:=kQ (ik d) n (s2.ps.set k (dg (aI s2.ps k) (ik d) v)) })):=by rw[HDO.o,au (fun g=>g trivial)];exact rfl
    clear hg1 hk1 hd1 Ur amu HDO HSZ SC;have g1:=aq (v:=r1) HGX.o.head 1 rfl;obtain⟨a1,amM,hr1,_,_⟩:=bg HGX.o.procs;simp only at hr1;rw[<- HN.o] at hr1;subst hr1;have aqw:Hid (wc.heap[xb]?=some (.cells #[I (q.r 0),I (q.r 1),I (q.r 2),I (q.r 3),I (q.r 4),I (q.r 5),I (q.r 6),I (q.r 7),I q.pc,I q.st,I q.cd,I q.fk,I q.fa] 77 (0,0))):=HX;have p0:=aq (v:=I (q.r 0)) HX.o 0 rfl;have p1:=aq (v:=I (q.r 1)) HX.o 1 rfl;have p2:=aq (v:=I (q.r 2)) HX.o 2 rfl;have p3:=aq (v:=I (q.r 3)) HX.o 3 rfl;have p4:=aq (v:=I (q.r 4)) HX.o 4 rfl;have p5:=aq (v:=I (q.r 5)) HX.o 5 rfl;have p6:=aq (v:=I (q.r 6)) HX.o 6 rfl;have p7:=aq (v:=I (q.r 7)) HX.o 7 rfl;have p8:=aq (v:=I q.pc) HX.o 8 rfl;have p9:=aq (v:=I q.st) HX.o 9 rfl;have p10:=aq (v:=I q.cd) HX.o 10 rfl;have p11:=aq (v:=I q.fk) HX.o 11 rfl;have p12:=aq (v:=I q.fa) HX.o 12 rfl;have E1:Hid (∀V,Calls Tryz.prog 149 #[.agg #[I (q.r 0),I (q.r 1),I (q.r 2),I (q.r 3),I (q.r 4),I (q.r 5),I (q.r 6),I (q.r 7),I q.pc,I q.st,I q.cd,I q.fk,I q.fa],.string d] V fun e w'=>e=.returned (.tuple #[.agg #[I k0,I k1,I k2,I k3,I k4],I 0])/\Below V.heap.size V w'):=HAS;have hzl:=aJ HZ.o;have hzf:fb≠zb:=by have:=TG.o;omega
    by_cases hF1:F1=0
    · subst hF1;have HD3:Hid (RR=((0,0),{ s2 with ps:=kQ (ik d) n (s2.ps.set k (dg (aI s2.ps k) (ik d) v)) })):=by rw[Xu.o,au (fun g=>g rfl)];exact rfl
      clear Xu;go_wp2_with (first
       | (go_at_call 149;refine(E1.o _).mono ?_;rintro e w3 ⟨rfl,hb3⟩;have mQ:=ai hb3;have sQ:=ai (hb3.alloc hb3.size (.cells #[I k0,I k1,I k2,I k3,I k4] 110));have BA:=ai (bB w3 #[I k0,I k1,I k2,I k3,I k4] 110);have g2:(w3.alloc (.cells #[I k0,I k1,I k2,I k3,I k4] 110)).cell? ⟨gb,1,none⟩=some (.slice a1 n amM):=(sQ.o.cell (p:=⟨gb,1,none⟩) (aJ HGX.o.head)).trans g1;clear hb3)
       | (go_at_call 150;refine(HAN.o _ sQ.o).mono ?_;rintro e w5 ⟨rfl,hl5⟩;have HL5:=ai hl5;have BZ5:=ai (hl5.keep (bk (aN HZ.o mQ.o (aJ HZ.o)) _) (aca.o zb (.inr (.inr rfl))));have BF5:=ai (hl5.keep (bk (aN HF.o mQ.o (aJ HF.o)) _) (aca.o fb (.inl rfl)));have y0:=aq (v:=I 0) BZ5.o 0 rfl;have y1:=aq (v:=I X2) BZ5.o 1 rfl;have y2:=aO BZ5.o 0;have y3:=aO BZ5.o 1;have t0:=aq (v:=I 0) BF5.o 0 rfl;have t1:=aq (v:=I 0) BF5.o 1 rfl;have t2:=aO BF5.o 0;have t3:=aO BF5.o 1;clear hl5))
      obtain⟨hplain,ao4,hbad⟩:=Yp.o.plain rfl;have hlen:n<=s2.ps.length/\s2.ps.length<=n+1:=by
       have hn:=HN.o;rcases hplain with⟨e,_⟩ | ⟨_,e,_⟩
       · rw[show s2.ps=st.ps from e];omega
       · rw[show s2.ps=st.ps++[aI st.ps k] from e,fM,AU];omega
      have hzw:w.heap.size<=zb:=by have:=TG.o;omega
      have hLN:=gS.step (ys:=(fun b=>b=fb∨b=xb∨b=zb)) (fun b hb=>by have s4:=sQ.o.size;have l1:=aJ HF.o;have l2:=aJ HX.o;have l3:=aJ HZ.o;rcases hb with e | e | e <;> rw[e] <;> omega) (HKX.o.trans (aC.bZ sQ.o) (fun _ _ g=>g)) HDX.o aca.o HL5.o;have hL6:=(hLN.set HC.o ⟨zb,0,none⟩ (I 0) (.inr (.inr rfl)) hzw).set HC.o ⟨zb,1,none⟩ (I F2) (.inr (.inr rfl)) hzw;have BF6:=mv (mv BF5.o zb 0 (I 0) hzf) zb 1 (I F2) hzf;obtain⟨W6,hW6⟩:=ex ((w5.setCell ⟨zb,0,none⟩ (I 0)).setCell ⟨zb,1,none⟩ (I F2));rw[<- hW6] at hL6 BF6 ⊢;obtain⟨D6,r6,o6,hg6,hk6,hd6,hn6⟩:=hL6;have apJ:=aJ BF6;refine(NY HC.o k d v W6 hg6 (by omega) (by omega) h8 hbad).mono ?_;rintro e w7 ⟨rfl,hl7⟩;have BF7:=hl7.keep BF6 (hn6 fb (.inl rfl));have hL7:=gS.step (ys:=fun b=>b=fb) (fun b e=>by rw[e];exact apJ) hk6 hd6 (fun b e=>hn6 b (.inl e)) hl7;have HL7:=ai hL7;have HF7:=ai BF7;have HBD:=ai hbad;have HHL:=ai hlen;obtain⟨PS,hPS⟩:=ex (s2.ps.set k (dg (aI s2.ps k) (ik d) v));rw[<- hPS] at HL7 HD3;have hPL:PS.length=s2.ps.length:=by rw[hPS,fC]
      obtain⟨m,hm⟩:=ex s2.ps.length;rw[<- hm] at hPL hlen;have HPL:=ai hPL;clear hl7 hL7 BF7 BF6 hn6 hd6 hk6 hg6 hW6 hLN hbad hPS hm hplain ao4 HL5 BZ5 BF5 y0 y1 y2 y3 t0 t1 t2 t3 g2 BA mQ sQ E1 HAN HAS aqw p0 p1 p2 p3 p4 p5 p6 p7 p8 p9 p10 p11 p12 g1 HGX HKX HDX aca z0 z1 f0 f1 e0 e1 hPL;go_wp2;go_loopw [12] (fun x12 wr=>∃j:Nat,n+j<=m/\x12=I ((n+j:Nat):Int)/\gS (fun b=>b=fb) Hd lo mb gb w D (.slice (some ⟨pb,0,none⟩) n cap) vo { s2 with ps:=mq (ik d) n PS j } wr/\wr.heap[fb]?=some (.cells #[I 0,I 0] 75 (0,0))) (fun x12 _=>m-(intOf x12).toNat)
      case atStart=>exact⟨0,by omega,rfl,HL7.o,HF7.o⟩
      case round =>
       obtain⟨j,hj,rfl,hl,hf⟩:=hrel;have HFR:=ai hf;obtain⟨Dr,rr,orr,hgr,hkr,hdr,Uo⟩:=hl;have MV:=ai hgr;have HKR:=ai hkr;have HDR:=ai hdr;have HNR:=ai Uo;obtain⟨a7,c7,hr7,_,_⟩:=bg hgr.procs;have apj:rr=.slice a7 m c7:=by
        rw[hr7];show Value.slice a7 (mq (ik d) n PS j).length c7=_;rw[pN,HPL.o]
       subst apj;have x1:=aq (v:=.slice a7 m c7) MV.o.head 1 rfl;clear hf hgr hkr hdr Uo hr7;by_cases hlt:n+j<m
       · have HDN:Hid (Calls Tryz.prog 151 #[.pointer (some ⟨gb,0,none⟩),I ((n+j:Nat):Int),.string d,I 0] wr fun e w'=>e=.returned (.tuple #[])/\cE Hd lo mb gb wr Dr (.slice a7 m c7) orr { s2 with ps:=mq (ik d) n PS (j+1) } w'):=NY HC.o (n+j) d 0 wr MV.o (by show(mq (ik d) n PS j).length<=1000;rw[pN,HPL.o];omega) (by show n+j<(mq (ik d) n PS j).length;rw[pN,HPL.o];omega) h8 HBD.o;have amh:((n+j:Nat):Int)<(m:Int):=by omega
         go_wp2_with (go_at_call 151;refine HDN.o.mono ?_;rintro e w8 ⟨rfl,hl8⟩;have HL8:=ai (gS.step (ys:=fun b=>b=fb) (fun b e=>(by rw[e];exact aJ HFR.o)) HKR.o HDR.o HNR.o hl8);have HF8:=ai (hl8.keep HFR.o (HNR.o fb rfl));clear hl8)
         go_roundw
         case rel=>exact⟨j+1,by omega,by go_num,HL8.o,HF8.o⟩
         case measure=>simp[intOf];omega
       · have hje:j=PS.length-n:=by have:=HPL.o;omega
         have RO:Hid (gS (fun b=>b=fb) Hd lo mb gb w D (.slice (some ⟨pb,0,none⟩) n cap) vo { s2 with ps:=kQ (ik d) n PS } wr):=by
          show gS _ _ _ _ _ _ _ _ _ _ _;rw[<- RZ (ik d) n PS (by have:=HPL.o;omega),<- hje];exact⟨Dr,_,orr,MV.o,HKR.o,HDR.o,HNR.o⟩
         have t0:=aq (v:=I 0) HFR.o 0 rfl;have t1:=aq (v:=I 0) HFR.o 1 rfl;have t2:=aO HFR.o 0;have t3:=aO HFR.o 1;have amh:¬((n+j:Nat):Int)<(m:Int):=by omega
         clear hje;go_wp2;refine bI (v:=.agg #[I 0,I 0]) (by simp[results,Tryz.results96,go_sem,t0,t1]) rfl ?_;rw[HD3.o];exact⟨rfl,((RO.o.set HC.o ⟨fb,0,none⟩ _ rfl hfw).set HC.o ⟨fb,1,none⟩ _ rfl hfw).left⟩
    · have hFi:(F1==0)=false:=by rw[kF];exact hF1
      have HD3:Hid (RR=((F1,F2),s2)):=by rw[Xu.o,aB hF1];exact rfl
      clear Xu hF1;go_wp2_with (first
       | (go_at_call 149;refine(E1.o _).mono ?_;rintro e w3 ⟨rfl,hb3⟩;have mQ:=ai hb3;have sQ:=ai (hb3.alloc hb3.size (.cells #[I k0,I k1,I k2,I k3,I k4] 110));have BA:=ai (bB w3 #[I k0,I k1,I k2,I k3,I k4] 110);have g2:(w3.alloc (.cells #[I k0,I k1,I k2,I k3,I k4] 110)).cell? ⟨gb,1,none⟩=some (.slice a1 n amM):=(sQ.o.cell (p:=⟨gb,1,none⟩) (aJ HGX.o.head)).trans g1;clear hb3)
       | (go_at_call 150;refine(HAN.o _ sQ.o).mono ?_;rintro e w5 ⟨rfl,hl5⟩;have HL5:=ai hl5;have BZ5:=ai (hl5.keep (bk (aN HZ.o mQ.o (aJ HZ.o)) _) (aca.o zb (.inr (.inr rfl))));have BF5:=ai (hl5.keep (bk (aN HF.o mQ.o (aJ HF.o)) _) (aca.o fb (.inl rfl)));have y0:=aq (v:=I 0) BZ5.o 0 rfl;have y1:=aq (v:=I X2) BZ5.o 1 rfl;have y2:=aO BZ5.o 0;have y3:=aO BZ5.o 1;have t0:=aq (v:=I 0) BF5.o 0 rfl;have t1:=aq (v:=I 0) BF5.o 1 rfl;have t2:=aO BF5.o 0;have t3:=aO BF5.o 1;clear hl5))
      refine bI (v:=.agg #[I F1,I F2]) (by simp[results,Tryz.results96,go_sem,t0,t1]) rfl ?_;rw[HD3.o];have hLN:=gS.step (ys:=(fun b=>b=fb∨b=xb∨b=zb)) (fun b hb=>by have s4:=sQ.o.size;have l1:=aJ HF.o;have l2:=aJ HX.o;have l3:=aJ HZ.o;rcases hb with e | e | e <;> rw[e] <;> omega) (HKX.o.trans (aC.bZ sQ.o) (fun _ _ g=>g)) HDX.o aca.o HL5.o;have hzw:w.heap.size<=zb:=by have:=TG.o;omega
      exact⟨rfl,((((hLN.set HC.o ⟨zb,0,none⟩ _ (.inr (.inr rfl)) hzw).set HC.o ⟨zb,1,none⟩ _ (.inr (.inr rfl)) hzw).set HC.o ⟨fb,0,none⟩ _ (.inl rfl) hfw).set HC.o ⟨fb,1,none⟩ _ (.inl rfl) hfw).left⟩
  · have hXi:(X1==0)=false:=by rw[kF];exact hX1
    have Xu:Hid (RR=((X1,X2),{ st with mem:=X3 })):=by rw[HDO.o,aB hX1];exact rfl
    clear HDO hX1;go_wp2;refine bI (v:=.agg #[I X1,I X2]) (by simp[results,Tryz.results96,go_sem,f0,f1]) rfl ?_;rw[Xu.o];exact⟨rfl,((HL.o.set HC.o ⟨fb,0,none⟩ _ (.inl rfl) hfw).set HC.o ⟨fb,1,none⟩ _ (.inl rfl) hfw).left⟩
open Go.RowKit
section
variable {σ:Type} {Hd:World->(Nat->Prop)->σ->Prop} {Ok:σ->List Bool->Prop} {o:gH σ} {lo mb gb:Nat} {w w':World} {D:Nat->Prop} {vo:Value} {st:df σ}
theorem fH.aoN (C:iC lo mb Hd Ok o) {pb n cap:Nat} (h:fH Hd lo mb gb w D (.slice (some ⟨pb,0,none⟩) n cap) vo st) (k:Nat) (hk:k<st.ps.length) (hn:n=st.ps.length) (x:Int×Int) :
  cE Hd lo mb gb w D (.slice (some ⟨pb,0,none⟩) n cap) vo { st with ps:=st.ps.set k (yJ (aI st.ps k) x) } (((w.setCell ⟨pb,(k*13+9),none⟩ (I 3)).setCell ⟨pb,(k*13+11),none⟩ (I x.1)).setCell ⟨pb,(k*13+12),none⟩ (I x.2)):=by
 have hb:pY (.slice (some ⟨pb,0,none⟩) n cap) pb:=rfl;have kS:aC (fun b=>b=pb) w (((w.setCell ⟨pb,(k*13+9),none⟩ (I 3)).setCell ⟨pb,(k*13+11),none⟩ (I x.1)).setCell ⟨pb,(k*13+12),none⟩ (I x.2)):=xD w pb _ _ _ _ _ _ rfl;refine⟨D,.slice (some ⟨pb,0,none⟩) n cap,vo,⟨kS.keep h.head (fun e=>h.n2 (e ▸ hb)),C.kp _ _ _ _ _ h.mem kS (fun b hd e=>h.n4 pb hb (e ▸ hd)),?_,kS.row h.outs (fun g hg e=>h.n6 pb hb (e ▸ hg)),h.base,h.n1,h.n2,h.n3,h.n4,h.n5,h.n6⟩,kS.mono (fun b _ e=>.inr (.inr (.inl (e ▸ hb)))),fun b hb=>.inl hb⟩;have hp:=h.procs;rw[<- hn] at hp;show World.ownsRow _ lo _ 13 _ (st.ps.set k _).length _;rw[fC,<- hn];obtain⟨q,hq⟩:=ex (aI st.ps k);rw[<- hq];have h0:(st.ps.set k q).flatMap bN=st.ps.flatMap bN:=zC bN CA st.ps k q hk (by rw[hq];rfl);rw[<- h0] at hp;have r1:=fy hp (k*13+9) (I 3);rw[<- iM st.ps k hk q { q with st:=3 } 9 (by omega) _ rfl] at r1;have r2:=fy r1 (k*13+11) (I x.1);rw[<- iM st.ps k hk { q with st:=3 } { q with st:=3,fk:=x.1 } 11 (by omega) _ rfl] at r2;have r3:=fy r2 (k*13+12) (I x.2);rw[<- iM st.ps k hk { q with st:=3,fk:=x.1 } { q with st:=3,fk:=x.1,fa:=x.2 } 12 (by omega) _ rfl] at r3;exact r3
end
variable {σ:Type} {Hd:World->(Nat->Prop)->σ->Prop} {Ok:σ->List Bool->Prop} {o:gH σ} {lo mb gb:Nat} {D:Nat->Prop} {vr vo:Value} {st:df σ}
theorem NW (C:iC lo mb Hd Ok o) (pick:Int) (w:World) (h:fH Hd lo mb gb w D vr vo st) (hok:dh Ok st) :
  Calls Tryz.prog 47 #[.pointer (some ⟨gb,0,none⟩),I pick] w fun e w'=>e=.returned (I (dm o st pick).1)/\cE Hd lo mb gb w D vr vo (dm o st pick).2 w':=by
 have HG:=ai h;have HC:=ai C;have N1:=ai hok;have Fk:st.ps.length<=4:=by have:=C.ok.few _ _ hok.mem;unfold bV at this;rw[ie] at this;exact this
 obtain⟨ar,cr,E6,_,_⟩:=bg h.procs;obtain⟨ao,co,hvo,_,_⟩:=bg h.outs;have HVR:=ai E6;have HVO:=ai hvo;have HSE:Hid (dm o st pick=if ¬(0<=pick/\pick<(st.ps.length:Int)) then (6,st) else if ¬(aI st.ps pick.toNat).st=1 then (0,st) else if 2000<=st.out.length then (2,st) else if (kX o st pick.toNat).1.1=0 then (0,(kX o st pick.toNat).2) else (0,{ (kX o st pick.toNat).2 with mem:=o.drop (kX o st pick.toNat).2.mem pick.toNat,ps:=(kX o st pick.toNat).2.ps.set pick.toNat (yJ (aI (kX o st pick.toNat).2.ps pick.toNat) (kX o st pick.toNat).1) })):=rfl;obtain⟨RR,Nj⟩:=ex (dm o st pick);rw[<- Nj] at HSE ⊢;obtain⟨n,hn⟩:=ex st.ps.length;obtain⟨no,hno⟩:=ex st.out.length;rw[<- hn] at E6 Fk HSE;rw[<- hno] at hvo HSE;have HN:=ai hn;have uJ:=ai hno;have Mn:no<=2000:=by rw[hno];exact hok.out
 subst E6 hvo;obtain⟨g0,g1,g2⟩:=GU h.head;clear Nj hn hno HVR HVO;by_cases hp0:pick<0
 · have HR:Hid (RR=(6,st)):=by rw[HSE.o,aB (by omega)];exact rfl
   clear HSE h C hok;go_enter Tryz.func47,Tryz.ntmps47;go_wp2;go_ret;rw[HR.o];exact⟨rfl,cE.refl HG.o⟩
 · by_cases hp1:(n:Int)<=pick
   · have HR:Hid (RR=(6,st)):=by rw[HSE.o,aB (by omega)];exact rfl
     clear HSE h C hok;go_enter Tryz.func47,Tryz.ntmps47;go_wp2;go_ret;rw[HR.o];exact⟨rfl,cE.refl HG.o⟩
   · obtain⟨k,rfl⟩:∃k:Nat,pick=(k:Int):=⟨pick.toNat,by omega⟩;have hk:k<n:=by omega
     have hks:k<st.ps.length:=by rw[<- HN.o];exact hk
     obtain⟨pb,cap,E6,hpb,hpc,P6⟩:=h.proc k hks;injection E6 with e1 e2 e3;subst e1 e3;clear e2;have mD:=ai hpc;have HPF:=ai P6;have Jj:(k:Int)<(n:Int):=by omega
     have aks:=HSE.o;rw[au (by omega),jz] at aks;have sL:=ai aks;obtain⟨s9,hs9⟩:=ex ((aI st.ps k).st);have c9:w.cell? ⟨pb,(k*13+9),none⟩=some (I s9):=by rw[hs9];exact hpc 9 (by omega)
     rw[<- hs9] at sL;have HS9:=ai hs9;clear HSE aks hpc P6 hs9;by_cases hs1:s9=1
     · subst hs1;have h1:(aI st.ps k).st=1:=HS9.o.symm;by_cases Fj:2000<=no
       · have HR:Hid (RR=(2,st)):=by rw[sL.o,au (fun g=>g rfl),aB Fj];exact rfl
         have apq:(2000:Int)<=(no:Int):=by omega
         clear sL h C hok Fj;go_enter Tryz.func47,Tryz.ntmps47;go_wp2;go_ret;rw[HR.o];exact⟨rfl,cE.refl HG.o⟩
       · have apq:¬(2000:Int)<=(no:Int):=by omega
         have HDO:=ai (aem C k w h hok hks h1);have HDL:=ai (JJ C.ok hok (by rw[<- uJ.o];omega) k hks h1);have HS4:Hid (RR=if (kX o st k).1.1=0 then (0,(kX o st k).2) else (0,{ (kX o st k).2 with mem:=o.drop (kX o st k).2.mem k,ps:=(kX o st k).2.ps.set k (yJ (aI (kX o st k).2.ps k) (kX o st k).1) })):=by rw[sL.o,au (fun g=>g rfl),au Fj];exact rfl
         obtain⟨X,hX⟩:=ex (kX o st k);rw[<- hX] at HDO HDL HS4;obtain⟨⟨X1,X2⟩,s2⟩:=X;unfold gW at HDO;simp only at HDO HDL HS4;clear sL hX h C hok Fj;by_cases hX1:X1=0
         · subst hX1;have HR:Hid (RR=(0,s2)):=by rw[HS4.o,aB rfl];exact rfl
           clear HS4;go_enter Tryz.func47,Tryz.ntmps47;go_wp2_with (go_at_call 96;refine HDO.o.mono ?_;rintro e w1 ⟨rfl,Qc⟩;have HL1:=ai Qc;clear Qc)
           go_ret;rw[HR.o];exact⟨rfl,HL1.o.more HC.o ((aK _ _).alloc (aD _) _)⟩
         · have HR:Hid (RR=(0,{ s2 with mem:=o.drop s2.mem k,ps:=s2.ps.set k (yJ (aI s2.ps k) (X1,X2)) })):=by rw[HS4.o,au hX1];exact rfl
           have hXi:(X1==0)=false:=by rw[kF];exact hX1
           have hsame:s2.ps=st.ps:=HDL.o.same hX1;have alT:dh Ok s2:=HDL.o.ok;have al0:(bV s2.ps).getD k false=true:=by rw[hsame];exact iu k hks h1
           have aqL:=ai alT;have aqT:=ai al0;have HSM:=ai hsame;have hm:=IW ⟨mb,0,none⟩;have ha:=LF ⟨mb,0,none⟩;clear HS4 hsame alT al0 hX1 HDL;go_enter Tryz.func47,Tryz.ntmps47;go_wp2_with (first
            | (go_at_call 96;refine HDO.o.mono ?_;rintro e w1 ⟨rfl,Qc⟩;obtain⟨D1,r1,o1,hg1,hk1,hd1⟩:=Qc;have Yn:=ai hg1;have vI:=ai hk1;have HD1:=ai hd1;have HBF:=ai ((aK w1.heap.size w1).alloc (aD _) (.cells #[I X1,I X2] 75));have x0:=aq (v:=.iface 183 (.pointer (some ⟨mb,0,none⟩))) hg1.head 0 rfl;have x0a:(w1.alloc (.cells #[I X1,I X2] 75)).cell? ⟨gb,0,none⟩=some (.iface 183 (.pointer (some ⟨mb,0,none⟩))):=aq (bk hg1.head _) 0 rfl;clear hg1 hk1 hd1)
            | (go_at_call 252;refine(HC.o.drop _ D1 s2.mem _ k (Yn.o.below HC.o HBF.o).mem aqL.o.mem aqT.o).mono ?_;rintro e w2 ⟨D2,rfl,hm2,hk2,hd2⟩;have HG2:=ai ((Yn.o.below HC.o HBF.o).turn HC.o hm2 hk2 hd2);have pq:=ai hk2;have Xu:=ai hd2;have yZ:=ai (hk2.keep (bB w1 #[I X1,I X2] 75) (fun g=>(by have:=HC.o.dom _ _ _ Yn.o.mem _ g;omega)));clear hm2 hk2 hd2))
           obtain⟨pb2,cap2,hv2,ajC,ahE,ahD⟩:=HG2.o.proc k (by show k<s2.ps.length;rw[HSM.o];exact hks);have hl2:s2.ps.length=n:=by rw[HSM.o];exact HN.o.symm
           have ao5:r1=.slice (some ⟨pb2,0,none⟩) n cap2:=by rw[hv2];show Value.slice _ s2.ps.length _=_;rw[hl2]
           subst ao5;have x1:w2.cell? ⟨gb,1,none⟩=some (.slice (some ⟨pb2,0,none⟩) n cap2):=aq HG2.o.head 1 rfl;have z0:=aq (v:=I X1) yZ.o 0 rfl;have z1:=aq (v:=I X2) yZ.o 1 rfl;have d9:w2.cell? ⟨pb2,(k*13+9),none⟩=some (I (aI s2.ps k).st):=ahE 9 (by omega);have d11:w2.cell? ⟨pb2,(k*13+11),none⟩=some (I (aI s2.ps k).fk):=ahE 11 (by omega);have d12:w2.cell? ⟨pb2,(k*13+12),none⟩=some (I (aI s2.ps k).fa):=ahE 12 (by omega);have f9:=ahD (k*13+9);have f11:=ahD (k*13+11);have f12:=ahD (k*13+12);have Bz:=ai hl2;clear hv2 ahE ahD hl2;go_region
           all_goals
            go_wp2;go_ret;rw[HR.o];have hs:=(HG2.o.aoN HC.o k (by show k<s2.ps.length;rw[HSM.o];exact hks) (by show n=s2.ps.length;rw[Bz.o]) (X1,X2)).more HC.o (aK _ _).drew;refine⟨rfl,cE.trans vI.o HD1.o (cE.after HBF.o (cE.trans (pq.o.mono (fun b _ g=>.inr (.inl g))) (fun b hb=>?_) hs))⟩;rcases hb with g | g | g | g
            · exact .inl (.inl g)
            · rcases Xu.o b g with x | x
              · exact .inl (.inr (.inl x))
              · exact .inr x
            · exact .inl (.inr (.inr (.inl g)))
            · exact .inl (.inr (.inr (.inr g)))
     · have HR:Hid (RR=(0,st)):=by rw[sL.o,aB hs1];exact rfl
       have hsi:(s9==1)=false:=by rw[kF];exact hs1
       clear sL h C hok hs1;go_enter Tryz.func47,Tryz.ntmps47;go_wp2;go_ret;rw[HR.o];exact⟨rfl,cE.refl HG.o⟩
def tZ (w:World) (ao:Option Addr) (l:List Int):Prop:=0<l.length->∃b off,ao=some ⟨b,off,none⟩/\b<w.heap.size/\∀i,i<l.length->w.cell? ⟨b,(off+i),none⟩=some (I (l.getD i 0))
def tY (Hd:World->(Nat->Prop)->σ->Prop) (lo mb gb:Nat) (w:World) (D:Nat->Prop) (vr vo:Value) (r:Int×Option (df σ)) (e:Ending) (w':World):Prop:=e=.returned (I r.1)/\aC (kK gb D vr vo) w w'/\∀s,r.2=some s->cE Hd lo mb gb w D vr vo s w'
theorem ab3 (C:iC lo mb Hd Ok o) (picks:List Int) (ap:Option Addr) (cp:Nat) (w:World) (h:fH Hd lo mb gb w D vr vo st) (hok:dh Ok st) (hp:tZ w ap picks) (hps:0<picks.length->∀b,ap=some b->¬kK gb D vr vo b.block) (hpn:picks.length<=140737488351232) :
  Calls Tryz.prog 62 #[.pointer (some ⟨gb,0,none⟩),.slice ap picks.length cp] w (tY Hd lo mb gb w D vr vo (wJ o st picks)):=by
 have HG:=ai h;have HC:=ai C;have N1:=ai hok;have HP:=ai hp;have HPS:=ai hps;have HRG:Hid (wJ o st picks=if 2000<picks.length then ((2:Int),none) else match fZ o picks picks.length (some st) with | none=>(2,none) | some s=>(0,some s)):=rfl;have ZV:Hid (∀n s,fZ o picks n (some st)=some s->fZ o picks (n+1) (some st)=if (dm o s (picks.getD n 0)).1=2 then none else some (dm o s (picks.getD n 0)).2):=fun n s e=>by
  show(match fZ o picks n (some st) with | none=>none | some s=>if (dm o s (picks.getD n 0)).1=2 then none else some (dm o s (picks.getD n 0)).2)=_;rw[e]
 have HRN:Hid (∀n,fZ o picks n (some st)=none->∀m,n<=m->fZ o picks m (some st)=none):=fun n e m hm=>by
  induction m with
  | zero => obtain rfl:n=0 := by omega
            exact e
  | succ m ih =>
   by_cases c:n=m+1
   · subst c;exact e
   · show(match fZ o picks m (some st) with | none=>none | some s=>if (dm o s (picks.getD m 0)).1=2 then none else some (dm o s (picks.getD m 0)).2)=_;rw[ih (by omega)]
 have HRO:=ai (yI C.ok hok picks);have HR0:Hid (fZ o picks 0 (some st)=some st):=rfl;obtain⟨RR,Nj⟩:=ex (wJ o st picks);rw[<- Nj] at HRG ⊢;obtain⟨np,yn⟩:=ex picks.length;rw[<- yn] at HRG hpn ⊢;have HNP:=ai yn;have dB:Hid (∀e w',tY Hd lo mb gb w D vr vo RR e w'↔(e=.returned (I RR.1)/\aC (kK gb D vr vo) w w'/\∀s,RR.2=some s->cE Hd lo mb gb w D vr vo s w')):=fun e w'=>Iff.rfl
 obtain⟨P,hP⟩:=ex (tY Hd lo mb gb w D vr vo RR);rw[<- hP] at dB ⊢;clear Nj yn h C hok hp hps hP;by_cases hbig:2000<np
 · have HR:Hid (RR=(2,none)):=by rw[HRG.o,aB hbig];exact rfl
   have hbi:(2000:Int)<(np:Int):=by omega
   clear HRG ZV HRN HRO HR0 hbig;go_enter Tryz.func62,Tryz.ntmps62;go_wp2;refine(dB.o _ _).2 ?_;rw[HR.o];exact⟨rfl,aC.refl _ _,fun s e=>by cases e⟩
 · have hbi:¬(2000:Int)<(np:Int):=by omega
   have Fb:Hid (RR=match fZ o picks np (some st) with | none=>((2:Int),none) | some s=>(0,some s)):=by have:=HRG.o;rw[au hbig] at this;exact this
   clear HRG;go_enter Tryz.func62,Tryz.ntmps62;go_wp2;go_loopw [12] (fun iv wr=>∃(j:Nat) (s:df σ),j<=np/\iv=I (j:Int)/\fZ o picks j (some st)=some s/\cE Hd lo mb gb w D vr vo s wr) (fun iv _=>np-(intOf iv).toNat)
   case atStart=>exact⟨0,st,by omega,rfl,HR0.o,cE.refl HG.o⟩
   case round =>
    obtain⟨j,s,hj,rfl,hrun,hl⟩:=hrel;have HRU:=ai hrun;have HL:=ai hl;have HOS:=ai (HRO.o j s hrun);obtain⟨D1,r1,o1,hg1,hk1,hd1⟩:=hl;have Yn:=ai hg1;have vI:=ai hk1;have HD1:=ai hd1;clear hrun hg1 hk1 hd1;by_cases hlt:j<np
    · obtain⟨b,off,hao,hbl,hcell⟩:=HP.o (by rw[<- HNP.o];omega);subst hao;have hc0:wr.cell? ⟨b,(off+j),none⟩=some (I (picks.getD j 0)):=vI.o.cell (hcell j (by rw[<- HNP.o];exact hlt)) (HPS.o (by rw[<- HNP.o];omega) ⟨b,off,none⟩ rfl);have HST:=ai (ZV.o j s HRU.o);obtain⟨pk,hpk⟩:=ex (picks.getD j 0);rw[<- hpk] at hc0 HST;have HSA:=ai (NW HC.o pk wr Yn.o HOS.o);obtain⟨X,hX⟩:=ex (dm o s pk);rw[<- hX] at HST HSA;obtain⟨x1,s2⟩:=X;simp only at HST HSA;have hji:(j:Int)<(np:Int):=by omega
      clear hpk hX hcell;by_cases hx:x1=2
      · subst hx;have uJ:=ai (HRN.o (j+1) (by rw[HST.o,aB rfl]) np (by omega));have HR:Hid (RR=(2,none)):=by have:=Fb.o;rw[uJ.o] at this;exact this
        clear HST Fb uJ;go_wp2_with (go_at_call 47;refine HSA.o.mono ?_;rintro e w2 ⟨rfl,hl2⟩;have Bz:=ai (cE.trans vI.o HD1.o hl2);clear hl2)
        refine(dB.o _ _).2 ?_;rw[HR.o];obtain⟨_,_,_,_,hkk,_⟩:=Bz.o;exact⟨rfl,hkk,fun s e=>by cases e⟩
      · have hxi:(x1==2)=false:=by rw[kF];exact hx
        have wW:Hid (fZ o picks (j+1) (some st)=some s2):=by rw[HST.o,au hx];exact rfl
        clear HST hx;go_wp2_with (go_at_call 47;refine HSA.o.mono ?_;rintro e w2 ⟨rfl,hl2⟩;have Bz:=ai (cE.trans vI.o HD1.o hl2);clear hl2)
        go_roundw
        case rel=>exact⟨j+1,s2,by omega,by go_num,wW.o,Bz.o⟩
        case measure=>simp[intOf];omega
    · obtain rfl:j=np:=by omega
      have HR:Hid (RR=(0,some s)):=by have:=Fb.o;rw[HRU.o] at this;exact this
      clear Fb;go_wp2;refine(dB.o _ _).2 ?_;rw[HR.o];obtain⟨_,_,_,_,hkk,_⟩:=HL.o;exact⟨rfl,hkk,fun s' e=>by injection e with e;rw[<- e];exact HL.o⟩
open Go.RowKit
def dC (m:gQ):df aR:=⟨m.fF,m.procs,m.out⟩
def ru (s:df aR):gQ:=⟨s.mem,s.ps,s.out⟩
def nB:gQ:=⟨dX,[],[]⟩
def ir (m:gQ) (hs:List bG):gQ:=⟨aU m.fF hs,m.procs,m.out⟩
def pV (m:gQ) (r:Int×Option (df aR)):gQ×Int :=
 if ¬gP m=0 then (nB,gP m) else if ¬r.1=0 then (nB,r.1) else match r.2 with
  | none=>(nB,r.1)
  | some s=>(ru s,0)
def iG (m:gQ) (pick:Int):gQ×Int:=pV m ((dm cI (dC m) pick).1,some (dm cI (dC m) pick).2)
def ij (m:gQ) (picks:List Int):gQ×Int:=pV m (wJ cI (dC m) picks)
def Gn (ps:List bO):Prop:=∀k,k<ps.length->sO (aI ps k)
theorem tA {m:gQ} (h:gP m=0):aW m.fF/\m.out.length<=2000/\m.procs.length=m.fF.aj.length/\jI m.procs m.out (fun k=>(ak m.fF.aj k).live)=true:=by
 unfold gP at h;by_cases c:fV m.fF=0
 · rw[au (fun g=>g c)] at h;by_cases c2:2000<m.out.length
   · rw[aB c2] at h;cases h
   · rw[au c2] at h;by_cases c3:m.procs.length=m.fF.aj.length/\jI m.procs m.out (fun k=>(ak m.fF.aj k).live)=true
     · exact⟨(oh _).1 c,by omega,c3.1,c3.2⟩
     · rw[au c3] at h;cases h
 · rw[aB c] at h;exact absurd h c
theorem ZF {m:gQ} (h1:aW m.fF) (h2:m.out.length<=2000) (h3:m.procs.length=m.fF.aj.length) (h4:jI m.procs m.out (fun k=>(ak m.fF.aj k).live)=true):gP m=0:=by
 unfold gP;rw[au (fun g=>g ((oh _).2 h1)),au (by omega),aB ⟨h3,h4⟩]
theorem UR {m:gQ} (h:gP m=0) (hf:Gn m.procs):dh dn (dC m):=by
 obtain⟨h1,h2,h3,h4⟩:=tA h;unfold jI at h4;rw[<- EE,<- L1,eO,ql,ql] at h4;obtain⟨h5,h6⟩:=h4;have h5:∀k,k<m.procs.length->fA (aI m.procs k)=true/\(ak m.fF.aj k).live=decide ((aI m.procs k).st=1):=fun k hk=>by
  have:=h5 k (uR.2 hk);unfold vE at this;rw[eO] at this;exact⟨this.1,eq_of_beq this.2⟩
 refine⟨⟨h1,?_⟩,hf,fun k hk=>(h5 k hk).1,fun x hx=>?_,h2⟩
 · show bV m.procs=m.fF.aj.map (·.live);unfold bV;apply Vf
   · rw[ie,ie,h3]
   · intro k hk1 hk2;rw[ie] at hk1 hk2;rw[List.getElem_map,List.getElem_map];have:=(h5 k hk1).2;unfold ak aI at this;rw[fK,l6 hk2,fK,l6 hk1] at this;exact this.symm
 · have:=h6 x hx;unfold Av at this;exact o5 this
theorem OS {s:df aR} (h:dh dn s):gP (ru s)=0:=by
 have hfl:=h.mem.flags;have hlen:s.ps.length=s.mem.aj.length:=by
  have:=ed List.length hfl;simpa [bV] using this
 refine ZF h.mem.right h.out hlen ?_;show jI s.ps s.out _=true;unfold jI;rw[<- EE,<- L1,eO,ql,ql];refine⟨fun k hk=>?_,fun x hx=>?_⟩
 · have hk:=uR.1 hk;unfold vE;rw[eO];refine⟨h.right k hk,?_⟩;rw[beq_iff_eq];have e:=I7 s.ps k;rw[hfl,ic hk,tN] at e;rw[<- e];have hk2:k<s.mem.aj.length:=by omega
   show(ak s.mem.aj k).live=_;unfold ak;rw[fK,fK,AQ,l6 hk2];rfl
 · have:=h.words x hx;simpa [Av] using this
theorem Rl {w:World} {ao:Option Addr} {l:List bO} (h:wN w ao l):mR w ao l.length (l.flatMap bN):=fun hm=>by
 obtain⟨b,off,rfl,hb,hl⟩:=h hm;refine⟨_,rfl,fun j u hu=>?_⟩;have hlen:=fw bN 13 pX l;have hj:j<l.length*13:=by rw[<- hlen];exact(Vv.1 hu).1
 have hi:j/13<l.length:=by omega
 have hr:j%13<13:=Nat.mod_lt _ (by omega);have he:j=j/13*13+j%13:=by omega
 obtain⟨i,hi0⟩:=ex (j/13);obtain⟨r,Ov⟩:=ex (j%13);rw[<- hi0,<- Ov] at he;rw[<- hi0] at hi;rw[<- Ov] at hr;subst he;rw[yH bN 13 pX CA l i r hi hr] at hu;obtain⟨c0,c1,c2,c3,c4,c5,c6,qF,c8,c9,c10,c11,c12⟩:=hl i hi;rw[tO];have hx:∀n v,(bN (aI l i))[r]?=some u->r=n->(bN (aI l i))[n]?=some v->w.cell? ⟨b,(off+i*13+n),none⟩=some v->w.cell? ⟨b,(off+(i*13+r)),none⟩=some u:=fun n v h1 h2 h3 h4=>by
  subst h2;rw[h1] at h3;injection h3 with h3;subst h3;rw[<- za];exact h4
 have hu':(bN (aI l i))[r]?=some u:=hu;rcases(show r=0∨r=1∨r=2∨r=3∨r=4∨r=5∨r=6∨r=7∨r=8∨r=9∨r=10∨r=11∨r=12 by omega) with e | e | e | e | e | e | e | e | e | e | e | e | e
 · exact hx 0 _ hu' e rfl c0
 · exact hx 1 _ hu' e rfl c1
 · exact hx 2 _ hu' e rfl c2
 · exact hx 3 _ hu' e rfl c3
 · exact hx 4 _ hu' e rfl c4
 · exact hx 5 _ hu' e rfl c5
 · exact hx 6 _ hu' e rfl c6
 · exact hx 7 _ hu' e rfl qF
 · exact hx 8 _ hu' e rfl c8
 · exact hx 9 _ hu' e rfl c9
 · exact hx 10 _ hu' e rfl c10
 · exact hx 11 _ hu' e rfl c11
 · exact hx 12 _ hu' e rfl c12
theorem Rj {w:World} {ao:Option Addr} {l:List tI} (h:ED w ao l):mR w ao l.length (l.flatMap iQ):=fun hm=>by
 obtain⟨b,off,rfl,hb,hl⟩:=h hm;refine⟨_,rfl,fun j u hu=>?_⟩;have hlen:=fw iQ 2 uH l;have hj:j<l.length*2:=by rw[<- hlen];exact(Vv.1 hu).1
 have hi:j/2<l.length:=by omega
 have hr:j%2<2:=Nat.mod_lt _ (by omega);have he:j=j/2*2+j%2:=by omega
 obtain⟨i,hi0⟩:=ex (j/2);obtain⟨r,Ov⟩:=ex (j%2);rw[<- hi0,<- Ov] at he;rw[<- hi0] at hi;rw[<- Ov] at hr;subst he;rw[yH iQ 2 uH XV l i r hi hr] at hu;obtain⟨c0,c1⟩:=hl i hi;rw[tO];have hu':(iQ (pP l i))[r]?=some u:=hu;rcases(show r=0∨r=1 by omega) with e | e
 · subst e;have h3:some (I (pP l i).proc)=some u:=hu';rw[<- h3];exact c0
 · subst e;have h3:some (I (pP l i).value)=some u:=hu';rw[<- h3,<- za];exact c1
theorem aeh {w:World} {lo:Nat} {ao:Option Addr} {cap:Nat} {l:List bO} (h:w.ownsRow lo 77 13 (.slice ao l.length cap) l.length (l.flatMap bN)):wN w ao l:=fun hm=>by
 obtain⟨ao',cap',e,_,hg⟩:=bg h;injection e with ea _ _;subst ea;obtain⟨g,rfl,_,hlt⟩:=hg hm;refine⟨g,0,rfl,hlt,fun i hi=>?_⟩;have hc:∀j,j<13->w.cell? ⟨g,(i*13+j),none⟩=(bN (aI l i))[j]?:=fun j hj=>kq bN pX CA h i j hi hj
 rw[lZ];exact⟨hc 0 (by omega),hc 1 (by omega),hc 2 (by omega),hc 3 (by omega),hc 4 (by omega),hc 5 (by omega),hc 6 (by omega),hc 7 (by omega),hc 8 (by omega),hc 9 (by omega),hc 10 (by omega),hc 11 (by omega),hc 12 (by omega)⟩
theorem aeg {w:World} {lo:Nat} {ao:Option Addr} {cap:Nat} {l:List tI} (h:w.ownsRow lo 91 2 (.slice ao l.length cap) l.length (l.flatMap iQ)):ED w ao l:=fun hm=>by
 obtain⟨ao',cap',e,_,hg⟩:=bg h;injection e with ea _ _;subst ea;obtain⟨g,rfl,_,hlt⟩:=hg hm;refine⟨g,0,rfl,hlt,fun i hi=>?_⟩;have hc:∀j,j<2->w.cell? ⟨g,(i*2+j),none⟩=(iQ (pP l i))[j]?:=fun j hj=>kq iQ uH XV h i j hi hj
 rw[lZ];exact⟨hc 0 (by omega),hc 1 (by omega)⟩
theorem UQ (l:List bO):∀u∈l.flatMap bN,u.oneCell'=true:=fun u hu=>by
 obtain⟨p,_,h⟩:=vO.1 hu;simp only[bN,uQ,G9,or_false] at h;rcases h with rfl | rfl | rfl | rfl | rfl | rfl | rfl | rfl | rfl | rfl | rfl | rfl | rfl <;> rfl
theorem UO (l:List tI):∀u∈l.flatMap iQ,u.oneCell'=true:=fun u hu=>by
 obtain⟨p,_,h⟩:=vO.1 hu;simp only[iQ,uQ,G9,or_false] at h;rcases h with rfl | rfl <;> rfl
end Go.Proofs.YtlgoihmkgaaemaaGreat
