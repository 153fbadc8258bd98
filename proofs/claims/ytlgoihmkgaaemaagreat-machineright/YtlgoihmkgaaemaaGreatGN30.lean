import Derived.Test.YtlgoihmkgaaemaaGreatGN29
set_option maxHeartbeats 20000000
set_option linter.unusedVariables false
set_option maxRecDepth 100000
set_option linter.unusedSimpArgs false
namespace Go.Proofs.YtlgoihmkgaaemaaGreat
open Go.RowKit
def je (N q:bT) (j:Nat):bT:=⟨fun i=>if i<j then N.r i else q.r i,if 8<j then N.pc else q.pc,if 9<j then N.st else q.st,if 10<j then N.cd else q.cd,if 11<j then N.fk else q.fk,if 12<j then N.fa else q.fa⟩
theorem ah9 (N q:bT):bU (je N q 0)=bU q:=rfl
theorem agk (N q:bT):bU (je N q 13)=bU N:=rfl
theorem agj (N q:bT):bU (je N q 1)=(bU (je N q 0)).set 0 (I (N.r 0)):=rfl
theorem agi (N q:bT):bU (je N q 2)=(bU (je N q 1)).set 1 (I (N.r 1)):=rfl
theorem agh (N q:bT):bU (je N q 3)=(bU (je N q 2)).set 2 (I (N.r 2)):=rfl
theorem agf (N q:bT):bU (je N q 4)=(bU (je N q 3)).set 3 (I (N.r 3)):=rfl
theorem age (N q:bT):bU (je N q 5)=(bU (je N q 4)).set 4 (I (N.r 4)):=rfl
theorem agd (N q:bT):bU (je N q 6)=(bU (je N q 5)).set 5 (I (N.r 5)):=rfl
theorem agc (N q:bT):bU (je N q 7)=(bU (je N q 6)).set 6 (I (N.r 6)):=rfl
theorem agb (N q:bT):bU (je N q 8)=(bU (je N q 7)).set 7 (I (N.r 7)):=rfl
theorem aga (N q:bT):bU (je N q 9)=(bU (je N q 8)).set 8 (I N.pc):=rfl
theorem af9 (N q:bT):bU (je N q 10)=(bU (je N q 9)).set 9 (I N.st):=rfl
theorem ael (N q:bT):bU (je N q 11)=(bU (je N q 10)).set 10 (I N.cd):=rfl
theorem aek (N q:bT):bU (je N q 12)=(bU (je N q 11)).set 11 (I N.fk):=rfl
theorem aej (N q:bT):bU (je N q 13)=(bU (je N q 12)).set 12 (I N.fa):=rfl
theorem zx {α:Type} (f:α->List Value) (d:α):∀(l:List α) (k:Nat) (x:α),k<l.length->f x=f (l.getD k d)->(l.set k x).flatMap f=l.flatMap f
 | [],k,x,h,_=>by simp at h
 | a::r,0,x,h,e=>by
  have e':f x=f a:=e;rw[dB,nW,nW,e']
 | a::r,k+1,x,h,e=>by
  rw[dw,nW,nW,zx f d r k x (by simpa using h) e]
theorem iM (ps:List bT) (k:Nat) (hk:k<ps.length) (a b:bT) (j:Nat) (hj:j<13) (v:Value) (e:bU b=(bU a).set j v):(ps.set k b).flatMap bU=((ps.set k a).flatMap bU).set (k*13+j) v:=by
 have:=kI bU 13 rW Cy b j v hj (ps.set k a) k (by rw[fJ];exact hk) (by
  rw[e,fG,Pp hk];rfl)
 rw[pY] at this;exact this
theorem Wu {w:World} {lo pb n cap:Nat} {ps:List bT} (hr:w.ownsRow lo 77 13 (.slice (some (Ad pb 0)) n cap) n (ps.flatMap bU)) (k:Nat) (hk:k<ps.length) (N:bT) :
  (((((((((((((w.setCell (Ad pb (k*13)) (I (N.r 0))).setCell (Ad pb (k*13+1)) (I (N.r 1))).setCell (Ad pb (k*13+2)) (I (N.r 2))).setCell (Ad pb (k*13+3)) (I (N.r 3))).setCell (Ad pb (k*13+4)) (I (N.r 4))).setCell (Ad pb (k*13+5)) (I (N.r 5))).setCell (Ad pb (k*13+6)) (I (N.r 6))).setCell (Ad pb (k*13+7)) (I (N.r 7))).setCell (Ad pb (k*13+8)) (I N.pc)).setCell (Ad pb (k*13+9)) (I N.st)).setCell (Ad pb (k*13+10)) (I N.cd)).setCell (Ad pb (k*13+11)) (I N.fk)).setCell (Ad pb (k*13+12)) (I N.fa)).ownsRow lo 77 13 (.slice (some (Ad pb 0)) n cap) n ((ps.set k N).flatMap bU):=by
 have h0:(ps.set k (je N (aN ps k) 0)).flatMap bU=ps.flatMap bU:=zx bU Cy ps k _ hk (ah9 N (aN ps k));have h13:(ps.set k N).flatMap bU=(ps.set k (je N (aN ps k) 13)).flatMap bU:=by
  have:=zx bU Cy (ps.set k (je N (aN ps k) 13)) k N (by rw[fJ];exact hk) (by rw[fG,Pp hk];exact(agk N (aN ps k)).symm);rw[pY] at this;exact this
 rw[<- h0] at hr;rw[h13];have r0:=fw hr (k*13+0) (I (N.r 0));rw[<- iM ps k hk _ _ 0 (by omega) _ (agj N (aN ps k))] at r0;have r1:=fw r0 (k*13+1) (I (N.r 1));rw[<- iM ps k hk _ _ 1 (by omega) _ (agi N (aN ps k))] at r1;have r2:=fw r1 (k*13+2) (I (N.r 2));rw[<- iM ps k hk _ _ 2 (by omega) _ (agh N (aN ps k))] at r2;have r3:=fw r2 (k*13+3) (I (N.r 3));rw[<- iM ps k hk _ _ 3 (by omega) _ (agf N (aN ps k))] at r3;have r4:=fw r3 (k*13+4) (I (N.r 4));rw[<- iM ps k hk _ _ 4 (by omega) _ (age N (aN ps k))] at r4;have r5:=fw r4 (k*13+5) (I (N.r 5));rw[<- iM ps k hk _ _ 5 (by omega) _ (agd N (aN ps k))] at r5;have r6:=fw r5 (k*13+6) (I (N.r 6));rw[<- iM ps k hk _ _ 6 (by omega) _ (agc N (aN ps k))] at r6;have r7:=fw r6 (k*13+7) (I (N.r 7));rw[<- iM ps k hk _ _ 7 (by omega) _ (agb N (aN ps k))] at r7;have r8:=fw r7 (k*13+8) (I N.pc);rw[<- iM ps k hk _ _ 8 (by omega) _ (aga N (aN ps k))] at r8;have r9:=fw r8 (k*13+9) (I N.st);rw[<- iM ps k hk _ _ 9 (by omega) _ (af9 N (aN ps k))] at r9;have r10:=fw r9 (k*13+10) (I N.cd);rw[<- iM ps k hk _ _ 10 (by omega) _ (ael N (aN ps k))] at r10;have r11:=fw r10 (k*13+11) (I N.fk);rw[<- iM ps k hk _ _ 11 (by omega) _ (aek N (aN ps k))] at r11;have r12:=fw r11 (k*13+12) (I N.fa);rw[<- iM ps k hk _ _ 12 (by omega) _ (aej N (aN ps k))] at r12;exact r12
theorem ZA {D:Nat->Prop} (w:World) (pb k:Nat) (N:bT) (h:D pb):aD D w (((((((((((((w.setCell (Ad pb (k*13)) (I (N.r 0))).setCell (Ad pb (k*13+1)) (I (N.r 1))).setCell (Ad pb (k*13+2)) (I (N.r 2))).setCell (Ad pb (k*13+3)) (I (N.r 3))).setCell (Ad pb (k*13+4)) (I (N.r 4))).setCell (Ad pb (k*13+5)) (I (N.r 5))).setCell (Ad pb (k*13+6)) (I (N.r 6))).setCell (Ad pb (k*13+7)) (I (N.r 7))).setCell (Ad pb (k*13+8)) (I N.pc)).setCell (Ad pb (k*13+9)) (I N.st)).setCell (Ad pb (k*13+10)) (I N.cd)).setCell (Ad pb (k*13+11)) (I N.fk)).setCell (Ad pb (k*13+12)) (I N.fa)) :=
 (((((((((((((aD.refl D w).trans (aD.set D _ (Ad pb (k*13)) _ h) (fun _ _ g=>g)).trans (aD.set D _ (Ad pb (k*13+1)) _ h) (fun _ _ g=>g)).trans (aD.set D _ (Ad pb (k*13+2)) _ h) (fun _ _ g=>g)).trans (aD.set D _ (Ad pb (k*13+3)) _ h) (fun _ _ g=>g)).trans (aD.set D _ (Ad pb (k*13+4)) _ h) (fun _ _ g=>g)).trans (aD.set D _ (Ad pb (k*13+5)) _ h) (fun _ _ g=>g)).trans (aD.set D _ (Ad pb (k*13+6)) _ h) (fun _ _ g=>g)).trans (aD.set D _ (Ad pb (k*13+7)) _ h) (fun _ _ g=>g)).trans (aD.set D _ (Ad pb (k*13+8)) _ h) (fun _ _ g=>g)).trans (aD.set D _ (Ad pb (k*13+9)) _ h) (fun _ _ g=>g)).trans (aD.set D _ (Ad pb (k*13+10)) _ h) (fun _ _ g=>g)).trans (aD.set D _ (Ad pb (k*13+11)) _ h) (fun _ _ g=>g)).trans (aD.set D _ (Ad pb (k*13+12)) _ h) (fun _ _ g=>g)
section
variable {σ:Type} {Hd:World->(Nat->Prop)->σ->Prop} {Ok:σ->List Bool->Prop} {o:gH σ} {lo mb gb:Nat} {w w':World} {D:Nat->Prop} {vo:Value} {st:dE σ}
theorem fW.apl (C:iB lo mb Hd Ok o) {pb n cap:Nat} (h:fW Hd lo mb gb w D (.slice (some (Ad pb 0)) n cap) vo st) (k:Nat) (hk:k<st.ps.length) (hn:n=st.ps.length) (N:bT) :
  cJ Hd lo mb gb w D (.slice (some (Ad pb 0)) n cap) vo { st with ps:=st.ps.set k N } (((((((((((((w.setCell (Ad pb (k*13)) (I (N.r 0))).setCell (Ad pb (k*13+1)) (I (N.r 1))).setCell (Ad pb (k*13+2)) (I (N.r 2))).setCell (Ad pb (k*13+3)) (I (N.r 3))).setCell (Ad pb (k*13+4)) (I (N.r 4))).setCell (Ad pb (k*13+5)) (I (N.r 5))).setCell (Ad pb (k*13+6)) (I (N.r 6))).setCell (Ad pb (k*13+7)) (I (N.r 7))).setCell (Ad pb (k*13+8)) (I N.pc)).setCell (Ad pb (k*13+9)) (I N.st)).setCell (Ad pb (k*13+10)) (I N.cd)).setCell (Ad pb (k*13+11)) (I N.fk)).setCell (Ad pb (k*13+12)) (I N.fa)):=by
 have hb:pQ (.slice (some (Ad pb 0)) n cap) pb:=rfl;have kS:aD (fun b=>b=pb) w _:=ZA w pb k N rfl;refine⟨D,.slice (some (Ad pb 0)) n cap,vo,⟨kS.keep h.head (fun e=>h.n2 (e ▸ hb)),C.kp _ _ _ _ _ h.mem kS (fun b hd e=>h.n4 pb hb (e ▸ hd)),?_,kS.row h.outs (fun g hg e=>h.n6 pb hb (e ▸ hg)),h.base,h.n1,h.n2,h.n3,h.n4,h.n5,h.n6⟩,kS.mono (fun b _ e=>.inr (.inr (.inl (e ▸ hb)))),fun b hb=>.inl hb⟩;have hp:=h.procs;rw[<- hn] at hp;show World.ownsRow _ lo _ 13 _ (st.ps.set k N).length _;rw[fJ,<- hn];exact Wu hp k hk N
end
open Go.RowKit
variable {σ:Type} {Hd:World->(Nat->Prop)->σ->Prop} {Ok:σ->List Bool->Prop} {o:gH σ} {lo mb gb:Nat} {D:Nat->Prop} {vr vo:Value} {st:dE σ}
theorem agp (C:iB lo mb Hd Ok o) (k:Nat) (w:World) (h:fW Hd lo mb gb w D vr vo st) (hok:dh Ok st) (hk:k<st.ps.length) (h1:(aN st.ps k).st=1) :
  Calls Tryz.prog 196 #[.pointer (some (Ad gb 0)),I (k:Int),I 2] w fun e w'=>e=.returned (I (fy o st k 2).1)/\cJ Hd lo mb gb w D vr vo (fy o st k 2).2 w':=by
 have HG:=ai h;have HC:=ai C;obtain⟨pb,cap,E2,hpb,hpc,PN⟩:=h.proc k hk;have mA:=ai hpc;have hlv:=ir k hk h1;have hfit:=hok.fit k hk;have NM:=ai hok;have TE:=ai hlv;have Rm:=ai hfit;have Hc:st.ps.length<=4:=by have:=C.ok.few _ _ hok.mem;unfold b7 at this;rw[ia] at this;exact this
 have vD:=ai hk;have HH1:=ai h1;have HR:Hid (fy o st k 2=((o.map st.mem k ((aN st.ps k).r 0) ((aN st.ps k).r 1) ((aN st.ps k).r 2)).1,{ st with mem:=(o.map st.mem k ((aN st.ps k).r 0) ((aN st.ps k).r 1) ((aN st.ps k).r 2)).2 })):=rfl;obtain⟨q,hq⟩:=ex (aN st.ps k);rw[<- hq] at mA Rm;have HQ:=ai hq;obtain⟨n,hn⟩:=ex st.ps.length;rw[<- hn] at E2 hk Hc;subst E2;have HN:=ai hn;have JI:(k:Int)<(n:Int):=by omega
 have g0:w.cell? (Ad gb 0)=some (.iface 183 (.pointer (some (Ad mb 0)))):=au HG.o.head 0 rfl;have g1:w.cell? (Ad gb 1)=some (.slice (some (Ad pb 0)) n cap):=au HG.o.head 1 rfl;have hgb:=aJ HG.o.head;have c0:w.cell? (Ad pb (k*13))=some (I (q.r 0)):=mA.o 0 (by omega);have c1:w.cell? (Ad pb (k*13+1))=some (I (q.r 1)):=mA.o 1 (by omega);have c2:w.cell? (Ad pb (k*13+2))=some (I (q.r 2)):=mA.o 2 (by omega);have c3:w.cell? (Ad pb (k*13+3))=some (I (q.r 3)):=mA.o 3 (by omega);have c4:w.cell? (Ad pb (k*13+4))=some (I (q.r 4)):=mA.o 4 (by omega);have c5:w.cell? (Ad pb (k*13+5))=some (I (q.r 5)):=mA.o 5 (by omega);have c6:w.cell? (Ad pb (k*13+6))=some (I (q.r 6)):=mA.o 6 (by omega);have c7:w.cell? (Ad pb (k*13+7))=some (I (q.r 7)):=mA.o 7 (by omega);have lh:=ai ((aK w.heap.size w).alloc (aI _) (.cells #[I (q.r 0),I (q.r 1),I (q.r 2),I (q.r 3),I (q.r 4),I (q.r 5),I (q.r 6),I (q.r 7)] 73));have BX:=ai (bE w #[I (q.r 0),I (q.r 1),I (q.r 2),I (q.r 3),I (q.r 4),I (q.r 5),I (q.r 6),I (q.r 7)] 73);clear hq hn hpc PN h C mA hok hlv hfit;rw[<- HQ.o] at HR;obtain⟨RR,M5⟩:=ex (fy o st k 2);rw[<- M5] at HR ⊢;clear M5;have hm:=Wv (Ad mb 0);have ha:=ZG (Ad mb 0);go_enter Tryz.func196,Tryz.ntmps196;go_wp2_with fail
 obtain⟨WA,lO⟩:=ex (w.alloc (.cells #[I (q.r 0),I (q.r 1),I (q.r 2),I (q.r 3),I (q.r 4),I (q.r 5),I (q.r 6),I (q.r 7)] 73));rw[<- lO] at lh BX ⊢;obtain⟨rb,Hz⟩:=ex w.heap.size;rw[<- Hz] at BX ⊢;have MD:=ai Hz;have ET:=ai (HG.o.below HC.o lh.o);clear lO Hz c0 c1 c2 c3 c4 c5 c6 c7;have HMC:=ai (HC.o.map WA.drew D st.mem _ k (q.r 0) (q.r 1) (q.r 2) (HC.o.kp _ _ _ (fun _=>False) _ ET.o.mem (aD.drew _ _) (fun _ _ g=>g)) NM.o.mem TE.o (Rm.o.1 0 (by omega)) (Rm.o.1 1 (by omega)));have HS:Hid (∀V,aD D WA V->V.cell? (Ad gb 0)=some (.iface 183 (.pointer (some (Ad mb 0))))/\V.cell? (Ad rb 0)=some (I (q.r 0))/\V.cell? (Ad rb 1)=some (I (q.r 1))/\V.cell? (Ad rb 2)=some (I (q.r 2))):=fun V hb=>by
  have h1:=hb.keep BX.o (fun g=>by have:=HC.o.dom _ _ _ HG.o.mem _ g;have:=MD.o;omega);have h2:=hb.keep ET.o.head ET.o.n1;exact⟨au h2 0 rfl,au h1 0 rfl,au h1 1 rfl,au h1 2 rfl⟩
 have ow:=ai (HS.o _ (aD.drew _ _));obtain⟨X,hX⟩:=ex (o.map st.mem k (q.r 0) (q.r 1) (q.r 2));rw[<- hX] at HMC HR;clear hX
 go_region_held3 (fun V=>V.cell? (Ad gb 0)=some (.iface 183 (.pointer (some (Ad mb 0))))/\V.cell? (Ad rb 0)=some (I (q.r 0))/\V.cell? (Ad rb 1)=some (I (q.r 1))/\V.cell? (Ad rb 2)=some (I (q.r 2))) (first | exact rX.o | exact ow.o)
  (first | (go_at_call 255;refine HMC.o.mono ?_;rintro e w2 ⟨D2,rfl,hm2,hk2,hd2⟩;have pU:Hid (aD D WA w2):=(aD.drew D WA).trans hk2 (fun _ _ g=>g);have rX:=ai (HS.o _ pU.o);have Jv:=ai hm2;have W4:=ai hd2;clear hm2 hk2 hd2))
 go_wp2;go_ret;rw[HR.o];exact⟨rfl,cJ.after lh.o (cJ.Fb HC.o ET.o Jv.o pU.o W4.o)⟩
theorem ago (C:iB lo mb Hd Ok o) (k:Nat) (w:World) (h:fW Hd lo mb gb w D vr vo st) (hok:dh Ok st) (hk:k<st.ps.length) (h1:(aN st.ps k).st=1) :
  Calls Tryz.prog 196 #[.pointer (some (Ad gb 0)),I (k:Int),I 3] w fun e w'=>e=.returned (I (fy o st k 3).1)/\cJ Hd lo mb gb w D vr vo (fy o st k 3).2 w':=by
 have HG:=ai h;have HC:=ai C;obtain⟨pb,cap,E2,hpb,hpc,PN⟩:=h.proc k hk;have mA:=ai hpc;have hlv:=ir k hk h1;have hfit:=hok.fit k hk;have NM:=ai hok;have TE:=ai hlv;have Rm:=ai hfit;have Hc:st.ps.length<=4:=by have:=C.ok.few _ _ hok.mem;unfold b7 at this;rw[ia] at this;exact this
 have vD:=ai hk;have HH1:=ai h1;have HR:Hid (fy o st k 3=((o.pd st.mem k ((aN st.ps k).r 0) ((aN st.ps k).r 1)).1,{ st with mem:=(o.pd st.mem k ((aN st.ps k).r 0) ((aN st.ps k).r 1)).2 })):=rfl;obtain⟨q,hq⟩:=ex (aN st.ps k);rw[<- hq] at mA Rm;have HQ:=ai hq;obtain⟨n,hn⟩:=ex st.ps.length;rw[<- hn] at E2 hk Hc;subst E2;have HN:=ai hn;have JI:(k:Int)<(n:Int):=by omega
 have g0:w.cell? (Ad gb 0)=some (.iface 183 (.pointer (some (Ad mb 0)))):=au HG.o.head 0 rfl;have g1:w.cell? (Ad gb 1)=some (.slice (some (Ad pb 0)) n cap):=au HG.o.head 1 rfl;have hgb:=aJ HG.o.head;have c0:w.cell? (Ad pb (k*13))=some (I (q.r 0)):=mA.o 0 (by omega);have c1:w.cell? (Ad pb (k*13+1))=some (I (q.r 1)):=mA.o 1 (by omega);have c2:w.cell? (Ad pb (k*13+2))=some (I (q.r 2)):=mA.o 2 (by omega);have c3:w.cell? (Ad pb (k*13+3))=some (I (q.r 3)):=mA.o 3 (by omega);have c4:w.cell? (Ad pb (k*13+4))=some (I (q.r 4)):=mA.o 4 (by omega);have c5:w.cell? (Ad pb (k*13+5))=some (I (q.r 5)):=mA.o 5 (by omega);have c6:w.cell? (Ad pb (k*13+6))=some (I (q.r 6)):=mA.o 6 (by omega);have c7:w.cell? (Ad pb (k*13+7))=some (I (q.r 7)):=mA.o 7 (by omega);have lh:=ai ((aK w.heap.size w).alloc (aI _) (.cells #[I (q.r 0),I (q.r 1),I (q.r 2),I (q.r 3),I (q.r 4),I (q.r 5),I (q.r 6),I (q.r 7)] 73));have BX:=ai (bE w #[I (q.r 0),I (q.r 1),I (q.r 2),I (q.r 3),I (q.r 4),I (q.r 5),I (q.r 6),I (q.r 7)] 73);clear hq hn hpc PN h C mA hok hlv hfit;rw[<- HQ.o] at HR;obtain⟨RR,M5⟩:=ex (fy o st k 3);rw[<- M5] at HR ⊢;clear M5;have hm:=Q8 (Ad mb 0);have ha:=Tp (Ad mb 0);go_enter Tryz.func196,Tryz.ntmps196;go_wp2_with fail
 obtain⟨WA,lO⟩:=ex (w.alloc (.cells #[I (q.r 0),I (q.r 1),I (q.r 2),I (q.r 3),I (q.r 4),I (q.r 5),I (q.r 6),I (q.r 7)] 73));rw[<- lO] at lh BX ⊢;obtain⟨rb,Hz⟩:=ex w.heap.size;rw[<- Hz] at BX ⊢;have MD:=ai Hz;have ET:=ai (HG.o.below HC.o lh.o);clear lO Hz c0 c1 c2 c3 c4 c5 c6 c7;have HMC:=ai (HC.o.pd WA.drew D st.mem _ k (q.r 0) (q.r 1) (HC.o.kp _ _ _ (fun _=>False) _ ET.o.mem (aD.drew _ _) (fun _ _ g=>g)) NM.o.mem TE.o (Rm.o.1 0 (by omega)) (Rm.o.1 1 (by omega)));have HS:Hid (∀V,aD D WA V->V.cell? (Ad gb 0)=some (.iface 183 (.pointer (some (Ad mb 0))))/\V.cell? (Ad rb 0)=some (I (q.r 0))/\V.cell? (Ad rb 1)=some (I (q.r 1))):=fun V hb=>by
  have h1:=hb.keep BX.o (fun g=>by have:=HC.o.dom _ _ _ HG.o.mem _ g;have:=MD.o;omega);have h2:=hb.keep ET.o.head ET.o.n1;exact⟨au h2 0 rfl,au h1 0 rfl,au h1 1 rfl⟩
 have ow:=ai (HS.o _ (aD.drew _ _));obtain⟨X,hX⟩:=ex (o.pd st.mem k (q.r 0) (q.r 1));rw[<- hX] at HMC HR;clear hX
 go_region_held3 (fun V=>V.cell? (Ad gb 0)=some (.iface 183 (.pointer (some (Ad mb 0))))/\V.cell? (Ad rb 0)=some (I (q.r 0))/\V.cell? (Ad rb 1)=some (I (q.r 1))) (first | exact rX.o | exact ow.o)
  (first | (go_at_call 258;refine HMC.o.mono ?_;rintro e w2 ⟨D2,rfl,hm2,hk2,hd2⟩;have pU:Hid (aD D WA w2):=(aD.drew D WA).trans hk2 (fun _ _ g=>g);have rX:=ai (HS.o _ pU.o);have Jv:=ai hm2;have W4:=ai hd2;clear hm2 hk2 hd2))
 go_wp2;go_ret;rw[HR.o];exact⟨rfl,cJ.after lh.o (cJ.Fb HC.o ET.o Jv.o pU.o W4.o)⟩
theorem agn (C:iB lo mb Hd Ok o) (k:Nat) (w:World) (h:fW Hd lo mb gb w D vr vo st) (hok:dh Ok st) (hk:k<st.ps.length) (h1:(aN st.ps k).st=1) :
  Calls Tryz.prog 196 #[.pointer (some (Ad gb 0)),I (k:Int),I 4] w fun e w'=>e=.returned (I (fy o st k 4).1)/\cJ Hd lo mb gb w D vr vo (fy o st k 4).2 w':=by
 have HG:=ai h;have HC:=ai C;obtain⟨pb,cap,E2,hpb,hpc,PN⟩:=h.proc k hk;have mA:=ai hpc;have hlv:=ir k hk h1;have hfit:=hok.fit k hk;have NM:=ai hok;have TE:=ai hlv;have Rm:=ai hfit;have Hc:st.ps.length<=4:=by have:=C.ok.few _ _ hok.mem;unfold b7 at this;rw[ia] at this;exact this
 have vD:=ai hk;have HH1:=ai h1;have HR:Hid (fy o st k 4=((o.jt st.mem k ((aN st.ps k).r 0) ((aN st.ps k).r 1) ((aN st.ps k).r 2)).1,{ st with mem:=(o.jt st.mem k ((aN st.ps k).r 0) ((aN st.ps k).r 1) ((aN st.ps k).r 2)).2 })):=rfl;obtain⟨q,hq⟩:=ex (aN st.ps k);rw[<- hq] at mA Rm;have HQ:=ai hq;obtain⟨n,hn⟩:=ex st.ps.length;rw[<- hn] at E2 hk Hc;subst E2;have HN:=ai hn;have JI:(k:Int)<(n:Int):=by omega
 have g0:w.cell? (Ad gb 0)=some (.iface 183 (.pointer (some (Ad mb 0)))):=au HG.o.head 0 rfl;have g1:w.cell? (Ad gb 1)=some (.slice (some (Ad pb 0)) n cap):=au HG.o.head 1 rfl;have hgb:=aJ HG.o.head;have c0:w.cell? (Ad pb (k*13))=some (I (q.r 0)):=mA.o 0 (by omega);have c1:w.cell? (Ad pb (k*13+1))=some (I (q.r 1)):=mA.o 1 (by omega);have c2:w.cell? (Ad pb (k*13+2))=some (I (q.r 2)):=mA.o 2 (by omega);have c3:w.cell? (Ad pb (k*13+3))=some (I (q.r 3)):=mA.o 3 (by omega);have c4:w.cell? (Ad pb (k*13+4))=some (I (q.r 4)):=mA.o 4 (by omega);have c5:w.cell? (Ad pb (k*13+5))=some (I (q.r 5)):=mA.o 5 (by omega);have c6:w.cell? (Ad pb (k*13+6))=some (I (q.r 6)):=mA.o 6 (by omega);have c7:w.cell? (Ad pb (k*13+7))=some (I (q.r 7)):=mA.o 7 (by omega);have lh:=ai ((aK w.heap.size w).alloc (aI _) (.cells #[I (q.r 0),I (q.r 1),I (q.r 2),I (q.r 3),I (q.r 4),I (q.r 5),I (q.r 6),I (q.r 7)] 73));have BX:=ai (bE w #[I (q.r 0),I (q.r 1),I (q.r 2),I (q.r 3),I (q.r 4),I (q.r 5),I (q.r 6),I (q.r 7)] 73);clear hq hn hpc PN h C mA hok hlv hfit;rw[<- HQ.o] at HR;obtain⟨RR,M5⟩:=ex (fy o st k 4);rw[<- M5] at HR ⊢;clear M5;have hm:=MB (Ad mb 0);have ha:=OD (Ad mb 0);go_enter Tryz.func196,Tryz.ntmps196;go_wp2_with fail
 obtain⟨WA,lO⟩:=ex (w.alloc (.cells #[I (q.r 0),I (q.r 1),I (q.r 2),I (q.r 3),I (q.r 4),I (q.r 5),I (q.r 6),I (q.r 7)] 73));rw[<- lO] at lh BX ⊢;obtain⟨rb,Hz⟩:=ex w.heap.size;rw[<- Hz] at BX ⊢;have MD:=ai Hz;have ET:=ai (HG.o.below HC.o lh.o);clear lO Hz c0 c1 c2 c3 c4 c5 c6 c7;have HMC:=ai (HC.o.jt WA.drew D st.mem _ k (q.r 0) (q.r 1) (q.r 2) (HC.o.kp _ _ _ (fun _=>False) _ ET.o.mem (aD.drew _ _) (fun _ _ g=>g)) NM.o.mem TE.o (Rm.o.1 0 (by omega)) (Rm.o.1 1 (by omega)));have HS:Hid (∀V,aD D WA V->V.cell? (Ad gb 0)=some (.iface 183 (.pointer (some (Ad mb 0))))/\V.cell? (Ad rb 0)=some (I (q.r 0))/\V.cell? (Ad rb 1)=some (I (q.r 1))/\V.cell? (Ad rb 2)=some (I (q.r 2))):=fun V hb=>by
  have h1:=hb.keep BX.o (fun g=>by have:=HC.o.dom _ _ _ HG.o.mem _ g;have:=MD.o;omega);have h2:=hb.keep ET.o.head ET.o.n1;exact⟨au h2 0 rfl,au h1 0 rfl,au h1 1 rfl,au h1 2 rfl⟩
 have ow:=ai (HS.o _ (aD.drew _ _));obtain⟨X,hX⟩:=ex (o.jt st.mem k (q.r 0) (q.r 1) (q.r 2));rw[<- hX] at HMC HR;clear hX
 go_region_held3 (fun V=>V.cell? (Ad gb 0)=some (.iface 183 (.pointer (some (Ad mb 0))))/\V.cell? (Ad rb 0)=some (I (q.r 0))/\V.cell? (Ad rb 1)=some (I (q.r 1))/\V.cell? (Ad rb 2)=some (I (q.r 2))) (first | exact rX.o | exact ow.o)
  (first | (go_at_call 256;refine HMC.o.mono ?_;rintro e w2 ⟨D2,rfl,hm2,hk2,hd2⟩;have pU:Hid (aD D WA w2):=(aD.drew D WA).trans hk2 (fun _ _ g=>g);have rX:=ai (HS.o _ pU.o);have Jv:=ai hm2;have W4:=ai hd2;clear hm2 hk2 hd2))
 go_wp2;go_ret;rw[HR.o];exact⟨rfl,cJ.after lh.o (cJ.Fb HC.o ET.o Jv.o pU.o W4.o)⟩
open Go.RowKit
variable {σ:Type} {Hd:World->(Nat->Prop)->σ->Prop} {Ok:σ->List Bool->Prop} {o:gH σ} {lo mb gb:Nat} {D:Nat->Prop} {vr vo:Value} {st:dE σ}
theorem agm (C:iB lo mb Hd Ok o) (k:Nat) (w:World) (h:fW Hd lo mb gb w D vr vo st) (hok:dh Ok st) (hk:k<st.ps.length) (h1:(aN st.ps k).st=1) :
  Calls Tryz.prog 196 #[.pointer (some (Ad gb 0)),I (k:Int),I 5] w fun e w'=>e=.returned (I (fy o st k 5).1)/\cJ Hd lo mb gb w D vr vo (fy o st k 5).2 w':=by
 have HG:=ai h;have HC:=ai C;obtain⟨pb,cap,E2,hpb,hpc,PN⟩:=h.proc k hk;have mA:=ai hpc;have hlv:=ir k hk h1;have hfit:=hok.fit k hk;have NM:=ai hok;have TE:=ai hlv;have Rm:=ai hfit;have Hc:st.ps.length<=4:=by have:=C.ok.few _ _ hok.mem;unfold b7 at this;rw[ia] at this;exact this
 have vD:=ai hk;have HH1:=ai h1;have HFK:=ai (fun V (hV:Below w.heap.size w V)=>ZB C k V (h.below C hV) hok hk h1);obtain⟨q,hq⟩:=ex (aN st.ps k);rw[<- hq] at mA Rm;have HQ:=ai hq;obtain⟨n,hn⟩:=ex st.ps.length;rw[<- hn] at E2 hk Hc;subst E2;have HN:=ai hn;have JI:(k:Int)<(n:Int):=by omega
 have g0:w.cell? (Ad gb 0)=some (.iface 183 (.pointer (some (Ad mb 0)))):=au HG.o.head 0 rfl;have g1:w.cell? (Ad gb 1)=some (.slice (some (Ad pb 0)) n cap):=au HG.o.head 1 rfl;have hgb:=aJ HG.o.head;have c0:w.cell? (Ad pb (k*13))=some (I (q.r 0)):=mA.o 0 (by omega);have c1:w.cell? (Ad pb (k*13+1))=some (I (q.r 1)):=mA.o 1 (by omega);have c2:w.cell? (Ad pb (k*13+2))=some (I (q.r 2)):=mA.o 2 (by omega);have c3:w.cell? (Ad pb (k*13+3))=some (I (q.r 3)):=mA.o 3 (by omega);have c4:w.cell? (Ad pb (k*13+4))=some (I (q.r 4)):=mA.o 4 (by omega);have c5:w.cell? (Ad pb (k*13+5))=some (I (q.r 5)):=mA.o 5 (by omega);have c6:w.cell? (Ad pb (k*13+6))=some (I (q.r 6)):=mA.o 6 (by omega);have c7:w.cell? (Ad pb (k*13+7))=some (I (q.r 7)):=mA.o 7 (by omega);have lh:=ai ((aK w.heap.size w).alloc (aI _) (.cells #[I (q.r 0),I (q.r 1),I (q.r 2),I (q.r 3),I (q.r 4),I (q.r 5),I (q.r 6),I (q.r 7)] 73));have BX:=ai (bE w #[I (q.r 0),I (q.r 1),I (q.r 2),I (q.r 3),I (q.r 4),I (q.r 5),I (q.r 6),I (q.r 7)] 73);clear hq hn hpc PN h C mA hok hlv hfit;obtain⟨RR,M5⟩:=ex (fy o st k 5);rw[<- M5] at HFK ⊢;clear M5;go_enter Tryz.func196,Tryz.ntmps196;go_wp2_with (go_at_call 218;refine(HFK.o _ lh.o).mono ?_;rintro e w1 ⟨rfl,PW⟩;have Z8:=ai PW;clear PW)
 go_ret;exact⟨rfl,cJ.after lh.o Z8.o⟩
theorem agl (C:iB lo mb Hd Ok o) (k:Nat) (w:World) (h:fW Hd lo mb gb w D vr vo st) (hok:dh Ok st) (hk:k<st.ps.length) (h1:(aN st.ps k).st=1) :
  Calls Tryz.prog 196 #[.pointer (some (Ad gb 0)),I (k:Int),I 6] w fun e w'=>e=.returned (I (fy o st k 6).1)/\cJ Hd lo mb gb w D vr vo (fy o st k 6).2 w':=by
 have HG:=ai h;have HC:=ai C;obtain⟨pb,cap,E2,hpb,hpc,PN⟩:=h.proc k hk;have mA:=ai hpc;have hlv:=ir k hk h1;have hfit:=hok.fit k hk;have NM:=ai hok;have TE:=ai hlv;have Rm:=ai hfit;have Hc:st.ps.length<=4:=by have:=C.ok.few _ _ hok.mem;unfold b7 at this;rw[ia] at this;exact this
 have vD:=ai hk;have HH1:=ai h1;have HR:Hid (fy o st k 6=(0,{ st with mem:=o.drop st.mem k })):=rfl;have HMC:=ai (fun V (hV:Below w.heap.size w V)=>C.drop V D st.mem _ k (h.below C hV).mem hok.mem (ir k hk h1));obtain⟨q,hq⟩:=ex (aN st.ps k);rw[<- hq] at mA Rm;have HQ:=ai hq;obtain⟨n,hn⟩:=ex st.ps.length;rw[<- hn] at E2 hk Hc;subst E2;have HN:=ai hn;have JI:(k:Int)<(n:Int):=by omega
 have g0:w.cell? (Ad gb 0)=some (.iface 183 (.pointer (some (Ad mb 0)))):=au HG.o.head 0 rfl;have g1:w.cell? (Ad gb 1)=some (.slice (some (Ad pb 0)) n cap):=au HG.o.head 1 rfl;have hgb:=aJ HG.o.head;have c0:w.cell? (Ad pb (k*13))=some (I (q.r 0)):=mA.o 0 (by omega);have c1:w.cell? (Ad pb (k*13+1))=some (I (q.r 1)):=mA.o 1 (by omega);have c2:w.cell? (Ad pb (k*13+2))=some (I (q.r 2)):=mA.o 2 (by omega);have c3:w.cell? (Ad pb (k*13+3))=some (I (q.r 3)):=mA.o 3 (by omega);have c4:w.cell? (Ad pb (k*13+4))=some (I (q.r 4)):=mA.o 4 (by omega);have c5:w.cell? (Ad pb (k*13+5))=some (I (q.r 5)):=mA.o 5 (by omega);have c6:w.cell? (Ad pb (k*13+6))=some (I (q.r 6)):=mA.o 6 (by omega);have c7:w.cell? (Ad pb (k*13+7))=some (I (q.r 7)):=mA.o 7 (by omega);have lh:=ai ((aK w.heap.size w).alloc (aI _) (.cells #[I (q.r 0),I (q.r 1),I (q.r 2),I (q.r 3),I (q.r 4),I (q.r 5),I (q.r 6),I (q.r 7)] 73));have BX:=ai (bE w #[I (q.r 0),I (q.r 1),I (q.r 2),I (q.r 3),I (q.r 4),I (q.r 5),I (q.r 6),I (q.r 7)] 73);clear hq hn hpc PN h C mA hok hlv hfit;obtain⟨RR,M5⟩:=ex (fy o st k 6);rw[<- M5] at HR ⊢;clear M5;have hm:=IP (Ad mb 0);have ha:=Lt (Ad mb 0);go_enter Tryz.func196,Tryz.ntmps196;go_wp2_with (go_at_call 252;refine(HMC.o _ lh.o).mono ?_;rintro e w2 ⟨D2,rfl,hm2,hk2,hd2⟩;have Bv:=ai (cJ.Fb HC.o (HG.o.below HC.o lh.o) hm2 hk2 hd2);clear hm2 hk2 hd2)
 go_ret;rw[HR.o];exact⟨rfl,cJ.after lh.o Bv.o⟩
theorem agq (C:iB lo mb Hd Ok o) (k:Nat) (w:World) (h:fW Hd lo mb gb w D vr vo st) (hok:dh Ok st) (hk:k<st.ps.length) (h1:(aN st.ps k).st=1) :
  Calls Tryz.prog 196 #[.pointer (some (Ad gb 0)),I (k:Int),I 1] w fun e w'=>e=.returned (I (fy o st k 1).1)/\cJ Hd lo mb gb w D vr vo (fy o st k 1).2 w':=by
 have HG:=ai h;have HC:=ai C;obtain⟨pb,cap,E2,hpb,hpc,PN⟩:=h.proc k hk;have mA:=ai hpc;have hlv:=ir k hk h1;have hfit:=hok.fit k hk;have NM:=ai hok;have TE:=ai hlv;have Rm:=ai hfit;have Hc:st.ps.length<=4:=by have:=C.ok.few _ _ hok.mem;unfold b7 at this;rw[ia] at this;exact this
 have vD:=ai hk;have HH1:=ai h1;have HR:Hid (fy o st k 1=(0,{ st with out:=st.out++[⟨(k:Int),(aN st.ps k).r 0⟩] })):=rfl;obtain⟨q,hq⟩:=ex (aN st.ps k);rw[<- hq] at mA Rm;have HQ:=ai hq;obtain⟨n,hn⟩:=ex st.ps.length;rw[<- hn] at E2 hk Hc;subst E2;have HN:=ai hn;have JI:(k:Int)<(n:Int):=by omega
 have g0:w.cell? (Ad gb 0)=some (.iface 183 (.pointer (some (Ad mb 0)))):=au HG.o.head 0 rfl;have g1:w.cell? (Ad gb 1)=some (.slice (some (Ad pb 0)) n cap):=au HG.o.head 1 rfl;have hgb:=aJ HG.o.head;have c0:w.cell? (Ad pb (k*13))=some (I (q.r 0)):=mA.o 0 (by omega);have c1:w.cell? (Ad pb (k*13+1))=some (I (q.r 1)):=mA.o 1 (by omega);have c2:w.cell? (Ad pb (k*13+2))=some (I (q.r 2)):=mA.o 2 (by omega);have c3:w.cell? (Ad pb (k*13+3))=some (I (q.r 3)):=mA.o 3 (by omega);have c4:w.cell? (Ad pb (k*13+4))=some (I (q.r 4)):=mA.o 4 (by omega);have c5:w.cell? (Ad pb (k*13+5))=some (I (q.r 5)):=mA.o 5 (by omega);have c6:w.cell? (Ad pb (k*13+6))=some (I (q.r 6)):=mA.o 6 (by omega);have c7:w.cell? (Ad pb (k*13+7))=some (I (q.r 7)):=mA.o 7 (by omega);have lh:=ai ((aK w.heap.size w).alloc (aI _) (.cells #[I (q.r 0),I (q.r 1),I (q.r 2),I (q.r 3),I (q.r 4),I (q.r 5),I (q.r 6),I (q.r 7)] 73));have BX:=ai (bE w #[I (q.r 0),I (q.r 1),I (q.r 2),I (q.r 3),I (q.r 4),I (q.r 5),I (q.r 6),I (q.r 7)] 73);clear hq hn hpc PN h C mA hok hlv hfit;rw[<- HQ.o] at HR;obtain⟨RR,M5⟩:=ex (fy o st k 1);rw[<- M5] at HR ⊢;clear M5;have Ff:=NM.o.out;obtain⟨no,hno⟩:=ex st.out.length;rw[<- hno] at Ff;have uZ:=ai hno;clear hno;go_enter Tryz.func196,Tryz.ntmps196;go_wp2_with fail
 obtain⟨WA,lO⟩:=ex (w.alloc (.cells #[I (q.r 0),I (q.r 1),I (q.r 2),I (q.r 3),I (q.r 4),I (q.r 5),I (q.r 6),I (q.r 7)] 73));rw[<- lO] at lh BX ⊢;obtain⟨rb,Hz⟩:=ex w.heap.size;rw[<- Hz] at BX ⊢;have ET:=ai (HG.o.below HC.o lh.o);obtain⟨ao,co,hvo,_,_⟩:=bj ET.o.outs;rw[<- uZ.o] at hvo;have HVO:=ai hvo;have e2:WA.cell? (Ad gb 2)=some vo:=au ET.o.head 2 rfl;have e2a:∀ob,(WA.alloc ob).cell? (Ad gb 2)=some vo:=fun ob=>au (br ET.o.head ob) 2 rfl
 have x0:WA.cell? (Ad rb 0)=some (I (q.r 0)):=au BX.o 0 rfl;clear hvo lO Hz c0 c1 c2 c3 c4 c5 c6 c7 g0 g1;obtain⟨i0,hin,hz0,hz1,hz2⟩:=ju UC;have Eo:=ai hin;have Hu:=ai hz0;have Gf:=ai hz1;have yV:=ai hz2;have HOW:Hid ((WA.alloc (.cells #[I (k:Int),I (q.r 0)] 91)).drew.ownsRow lo 91 2 vo no (st.out.flatMap jE)):=by
  have:=ET.o.outs.alloc (.cells #[I (k:Int),I (q.r 0)] 91);rw[<- uZ.o] at this;exact this
 have HLO:Hid (lo<=(WA.alloc (.cells #[I (k:Int),I (q.r 0)] 91)).drew.heap.size):=by show lo<=(WA.alloc _).heap.size;rw[fF];have:=ET.o.base;have:=aJ ET.o.head;omega
 have HNW:Hid (0<1->∃ad,some ((Ad WA.heap.size 0):Addr)=some ad/\∀j u,([I (k:Int),I (q.r 0)]:List Value)[j]?=some u->((WA.alloc (.cells #[I (k:Int),I (q.r 0)] 91)).drew).cell? (ad.add j)=some u):=fun _=>⟨_,rfl,GJ (w:=(WA.alloc (.cells #[I (k:Int),I (q.r 0)] 91)).drew) (bE WA #[I (k:Int),I (q.r 0)] 91)⟩
 clear hin hz0 hz1 hz2
 go_region_law (refine Ak (P:=Tryz.prog) rfl _ _ 32 rfl lo 91 i0 (.agg #[I 0,I 0]) 2 16 Tryz.underlying32 Eo.o Hu.o Gf.o yV.o rfl (by decide) vo no (st.out.flatMap jE) rfl HOW.o (some (Ad WA.heap.size 0)) 1 1 [I (k:Int),I (q.r 0)] rfl rfl HNW.o (by intro u hu;simp at hu;rcases hu with rfl | rfl <;> rfl) (by unfold maxLen;omega) (by omega) HLO.o ?_;intro v3 w4 hown hgr hat;obtain⟨a4,c4,rfl,_⟩:=bj hown;have agy:=ai hown;have agI:Hid ((WA.alloc _).grownBy w4 _):=⟨hgr.os,hgr.tape,hgr.output,hgr.size,hgr.block⟩;have alr:=ai hat;have hM4:=Hr (br ET.o.head (.cells #[I (k:Int),I (q.r 0)] 91)) agI.o (fun e=>ET.o.n3 e.symm);have y1:w4.cell? (Ad gb 2)=some vo:=au hM4 2 rfl;have y2:w4.frozen? (Ad gb 2)=false:=aR hM4 2;clear hown hgr hat hM4)
 all_goals
  go_wp2;go_ret;have hp:=ET.o.alX HC.o (x:=⟨(k:Int),q.r 0⟩) agI.o (by rw[<- uZ.o];exact agy.o) alr.o;rw[HR.o];exact⟨rfl,cJ.after lh.o hp⟩
theorem ZC (C:iB lo mb Hd Ok o) (k:Nat) (c:Int) (w:World) (h:fW Hd lo mb gb w D vr vo st) (hok:dh Ok st) (hk:k<st.ps.length) (h1:(aN st.ps k).st=1) (hc:1<=c/\c<=6) :
  Calls Tryz.prog 196 #[.pointer (some (Ad gb 0)),I (k:Int),I c] w fun e w'=>e=.returned (I (fy o st k c).1)/\cJ Hd lo mb gb w D vr vo (fy o st k c).2 w':=by
 rcases(show c=1∨c=2∨c=3∨c=4∨c=5∨c=6 by omega) with rfl | rfl | rfl | rfl | rfl | rfl
 · exact agq C k w h hok hk h1
 · exact agp C k w h hok hk h1
 · exact ago C k w h hok hk h1
 · exact agn C k w h hok hk h1
 · exact agm C k w h hok hk h1
 · exact agl C k w h hok hk h1
open Go.RowKit
theorem bD {p:Prop} (h:p):Hid p:=h
theorem H4 (s:ByteArray) (w:World) (h:s.size=8) :
  Calls Tryz.prog 193 #[.string s] w fun e w'=>e=.returned (.tuple #[.agg (ed.cells (iG s)),I 0])/\Below w.heap.size w w':=by
 have hG:∀V,Calls Tryz.prog 195 #[.string (s.extract 4 8)] V fun e w'=>e=.returned (.tuple #[I (wrap64 (Lib.leNat (s.data.toList.drop 4))),I 0])/\V=w':=fun V=>by
  have h1:(s.extract 4 8).size=4:=by simp;omega
  have h2:=RG (s.extract 4 8) V (by omega) (by omega);rw[Oh s h] at h2;exact h2
 have h4:=Qa s h;have hv:ed.cells (iG s)=#[I (rZ s 0),I (rZ s 1),I (rZ s 2),I (rZ s 3),I (ve ((Lib.leNat (s.data.toList.drop 4):Nat):Int))]:=rfl;have al8:=adQ ((Lib.leNat (s.data.toList.drop 4):Nat):Int) (by omega) (by omega);have hsr:=H9 ((Lib.leNat (s.data.toList.drop 4):Nat):Int) (by omega) (by omega);rw[hv];have he:wrap64 ((Lib.leNat (s.data.toList.drop 4):Nat):Int)=((Lib.leNat (s.data.toList.drop 4):Nat):Int):=by unfold wrap64;omega
 rw[he] at hG;obtain⟨L,hL⟩:∃L:Int,L=((Lib.leNat (s.data.toList.drop 4):Nat):Int):=⟨_,rfl⟩;rw[<- hL] at hG al8 hsr;rw[<- hL];obtain⟨R,hR⟩:∃R:Int,R=ve L:=⟨_,rfl⟩;rw[<- hR] at al8 hsr;rw[<- hR];have HG:=bD hG;have g0:=He s 0 (by omega);have g1:=He s 1 (by omega);have g2:=He s 2 (by omega);have g3:=He s 3 (by omega);have hr:IntKind.i64.wrap R=R:=vI _ (by omega);have u0:=Dx s 0;have u1:=Dx s 1;have u2:=Dx s 2;have u3:=Dx s 3;clear hG hL hR hv he h4;go_enter Tryz.func193,Tryz.ntmps193;go_wp2_with fail
 refine(HG.o _).mono ?_;rintro e w1 ⟨rfl,rfl⟩;go_wp2_with fail
 go_region;go_wp2;refine bO (v:=.tuple #[.agg #[I (rZ s 0),I (rZ s 1),I (rZ s 2),I (rZ s 3),I R],I 0]) (by simp[results,Tryz.results193,go_sem]) rfl ?_;exact⟨rfl,((aK _ _).alloc (aI _) _).drew⟩
open Go.RowKit
open Go.RowKit
def oU (l:List Int):Array Value:=(l.map fun x=>I x).toArray
theorem Yu (l:List Int) (k:Nat) (h:k<l.length):(oU l)[k]?=some (I (l.getD k 0)):=by
 simp[oU,h]
theorem sL (l:List Int) (b:Nat) (w:World) (hl:l.length<=4) (hx:w.heap[b]?=some (.cells (oU l) 3 (0,0))) :
  Calls Tryz.prog 229 #[.slice (some (Ad b 0)) l.length l.length] w fun e w'=>e=.returned (.bool (fP l))/\w=w':=by
 have HX:=bD hx;have HN:=bD (Sr l);have HY:=bD (Qb l);obtain⟨R,hR⟩:=ex (fP l);rw[<- hR] at HN HY;rw[<- hR];clear hR hx;go_enter Tryz.func229,Tryz.ntmps229;go_wp2
 go_loop [7] (fun i=>∃k:Nat,k<=l.length/\i=I k/\∀j,j<k->0<=l.getD j 0/\l.getD j 0<8) (fun i=>l.length-(intOf i).toNat)
 case atStart=>exact⟨0,by omega,rfl,fun j hj=>absurd hj (by omega)⟩
 case round =>
  obtain⟨k,hk,rfl,hj⟩:=hrel;have HJ:=bD hj;clear hj;by_cases hlt:k<l.length
  · have hc:=au HX.o k (Yu l k hlt);have HG:=bD (show l[k]?=some (l.getD k 0) from by simp[hlt]);have HJ2:Hid (0<=l.getD k 0/\l.getD k 0<8->∀j,j<k+1->0<=l.getD j 0/\l.getD j 0<8):=fun h j hjj=>by
     rcases Nat.lt_or_ge j k with g | g
     · exact HJ.o j g
     · obtain rfl:j=k:=by omega
       exact h
    obtain⟨x,hx⟩:=ex (l.getD k 0);rw[<- hx] at hc HG HJ2;clear hx;by_cases h0:0<=x
    · by_cases h1:x<8
      · go_wp2
        go_round
        case rel=>exact⟨k+1,by omega,by go_num,HJ2.o ⟨h0,h1⟩⟩
        case measure=>simp[intOf];omega
      · obtain rfl:=HN.o k x HG.o (fun h=>h1 h.2);go_wp2;go_ret;exact⟨rfl,rfl⟩
    · obtain rfl:=HN.o k x HG.o (fun h=>h0 h.1);go_wp2;go_ret;exact⟨rfl,rfl⟩
  · obtain rfl:k=l.length:=by omega
    obtain rfl:=HY.o (fun j x hx=>by
     have JV:j<l.length:=(U6.1 hx).1;have e:l.getD j 0=x:=by simp[hx]
     rw[<- e];exact HJ.o j JV)
    go_wp2;go_ret;exact⟨rfl,rfl⟩
theorem H0 (n:Int) (w:World):Calls Tryz.prog 230 #[I n] w fun e w'=>e=.returned (.bool (ot n))/\w=w':=by
 by_cases h1:n=1
 · subst h1;go_enter Tryz.func230,Tryz.ntmps230;go_wp2;go_ret;exact⟨rfl,rfl⟩
 · by_cases h2:n=2
   · subst h2;go_enter Tryz.func230,Tryz.ntmps230;go_wp2;go_ret;exact⟨rfl,rfl⟩
   · by_cases h3:n=4
     · subst h3;go_enter Tryz.func230,Tryz.ntmps230;go_wp2;go_ret;exact⟨rfl,rfl⟩
     · rw[show ot n=decide (n=8) from by unfold ot;simp[h1,h2,h3]];go_enter Tryz.func230,Tryz.ntmps230;go_wp2;go_ret;have b1:(n==1)=false:=by simpa using h1
       have b2:(n==2)=false:=by simpa using h2
       have b3:(n==4)=false:=by simpa using h3
       have b4:(n==8)=decide (n=8):=by by_cases h:n=8 <;> simp[h]
       exact⟨by simp only[b1,b2,b3,b4,Bool.false_or];rfl,rfl⟩
open Go.RowKit
theorem Mg (op a b c m:Int) (w:World) (h:op=1∨op=11∨op=15):Calls Tryz.prog 217 #[.agg #[I op,I a,I b,I c,I m]] w fun e w'=>e=.returned (.bool (!fP [a]))/\Below w.heap.size w w':=by
 have HA:Hid (∀V:World,Calls Tryz.prog 229 #[.slice (some (Ad (w.heap.size+1) 0)) 1 1] ((w.alloc (.cells #[I op,I a,I b,I c,I m] 108)).alloc (.cells (oU [a]) 3)) fun e w'=>e=.returned (.bool (fP [a]))/\((w.alloc (.cells #[I op,I a,I b,I c,I m] 108)).alloc (.cells (oU [a]) 3))=w'):=fun V=>sL [a] (w.heap.size+1) _ (by simp) (by have e:=bE (w.alloc (.cells #[I op,I a,I b,I c,I m] 108)) (oU [a]) 3;rw[fF] at e;exact e)
 obtain⟨R,hR⟩:=ex (fP [a]);rw[<- hR] at HA;rw[<- hR];clear hR;rcases h with rfl | rfl | rfl
 all_goals
  go_enter Tryz.func217,Tryz.ntmps217;go_wp2_with fail
  refine(HA.o w).mono ?_;rintro e w' ⟨rfl,rfl⟩;go_wp2;go_ret;exact⟨by simp,((aK _ _).alloc (aI _) _).alloc (by simp) _⟩
theorem zG (op a b c m:Int) (w:World) (h:op=2∨op=3∨op=4∨op=5∨op=6∨op=7):Calls Tryz.prog 217 #[.agg #[I op,I a,I b,I c,I m]] w fun e w'=>e=.returned (.bool (!fP [a,b,c]))/\Below w.heap.size w w':=by
 have HA:Hid (∀V:World,Calls Tryz.prog 229 #[.slice (some (Ad (w.heap.size+1) 0)) 3 3] ((w.alloc (.cells #[I op,I a,I b,I c,I m] 108)).alloc (.cells (oU [a,b,c]) 3)) fun e w'=>e=.returned (.bool (fP [a,b,c]))/\((w.alloc (.cells #[I op,I a,I b,I c,I m] 108)).alloc (.cells (oU [a,b,c]) 3))=w'):=fun V=>sL [a,b,c] (w.heap.size+1) _ (by simp) (by have e:=bE (w.alloc (.cells #[I op,I a,I b,I c,I m] 108)) (oU [a,b,c]) 3;rw[fF] at e;exact e)
 obtain⟨R,hR⟩:=ex (fP [a,b,c]);rw[<- hR] at HA;rw[<- hR];clear hR;rcases h with rfl | rfl | rfl | rfl | rfl | rfl
 all_goals
  go_enter Tryz.func217,Tryz.ntmps217;go_wp2_with fail
  refine(HA.o w).mono ?_;rintro e w' ⟨rfl,rfl⟩;go_wp2;go_ret;exact⟨by simp,((aK _ _).alloc (aI _) _).alloc (by simp) _⟩
theorem Mf (op a b c m:Int) (w:World) (h:op=8∨op=13∨op=14):Calls Tryz.prog 217 #[.agg #[I op,I a,I b,I c,I m]] w fun e w'=>e=.returned (.bool (!fP [a,b]))/\Below w.heap.size w w':=by
 have HA:Hid (∀V:World,Calls Tryz.prog 229 #[.slice (some (Ad (w.heap.size+1) 0)) 2 2] ((w.alloc (.cells #[I op,I a,I b,I c,I m] 108)).alloc (.cells (oU [a,b]) 3)) fun e w'=>e=.returned (.bool (fP [a,b]))/\((w.alloc (.cells #[I op,I a,I b,I c,I m] 108)).alloc (.cells (oU [a,b]) 3))=w'):=fun V=>sL [a,b] (w.heap.size+1) _ (by simp) (by have e:=bE (w.alloc (.cells #[I op,I a,I b,I c,I m] 108)) (oU [a,b]) 3;rw[fF] at e;exact e)
 obtain⟨R,hR⟩:=ex (fP [a,b]);rw[<- hR] at HA;rw[<- hR];clear hR;rcases h with rfl | rfl | rfl
 all_goals
  go_enter Tryz.func217,Tryz.ntmps217;go_wp2_with fail
  refine(HA.o w).mono ?_;rintro e w' ⟨rfl,rfl⟩;go_wp2;go_ret;exact⟨by simp,((aK _ _).alloc (aI _) _).alloc (by simp) _⟩
open Go.RowKit
theorem adP (a b c m:Int) (w:World):Calls Tryz.prog 217 #[.agg #[I 9,I a,I b,I c,I m]] w fun e w'=>e=.returned (.bool (!fP [a,b] || !ot c))/\Below w.heap.size w w':=by
 have HA:Hid (∀V:World,Calls Tryz.prog 229 #[.slice (some (Ad (w.heap.size+1) 0)) 2 2] ((w.alloc (.cells #[I 9,I a,I b,I c,I m] 108)).alloc (.cells (oU [a,b]) 3)) fun e w'=>e=.returned (.bool (fP [a,b]))/\((w.alloc (.cells #[I 9,I a,I b,I c,I m] 108)).alloc (.cells (oU [a,b]) 3))=w'):=fun V=>sL [a,b] (w.heap.size+1) _ (by simp) (by have e:=bE (w.alloc (.cells #[I 9,I a,I b,I c,I m] 108)) (oU [a,b]) 3;rw[fF] at e;exact e)
 have HS:=bD (H0 c);obtain⟨R,hR⟩:=ex (fP [a,b]);rw[<- hR] at HA;rw[<- hR];obtain⟨S,hS⟩:=ex (ot c);rw[<- hS] at HS;rw[<- hS];clear hR hS;cases R
 · go_enter Tryz.func217,Tryz.ntmps217;go_wp2_with fail
   refine(HA.o w).mono ?_;rintro e w' ⟨rfl,rfl⟩;go_wp2;go_ret;exact⟨by simp,((aK _ _).alloc (aI _) _).alloc (by simp) _⟩
 · go_enter Tryz.func217,Tryz.ntmps217;go_wp2_with fail
   refine(HA.o w).mono ?_;rintro e w' ⟨rfl,rfl⟩;go_wp2_with fail
   refine(HS.o _).mono ?_;rintro e w' ⟨rfl,rfl⟩;go_wp2;go_ret;exact⟨by simp,((aK _ _).alloc (aI _) _).alloc (by simp) _⟩
theorem aa3 (a b c m:Int) (w:World):Calls Tryz.prog 217 #[.agg #[I 10,I a,I b,I c,I m]] w fun e w'=>e=.returned (.bool (!fP [a,b] || !ot c))/\Below w.heap.size w w':=by
 have HA:Hid (∀V:World,Calls Tryz.prog 229 #[.slice (some (Ad (w.heap.size+1) 0)) 2 2] ((w.alloc (.cells #[I 10,I a,I b,I c,I m] 108)).alloc (.cells (oU [a,b]) 3)) fun e w'=>e=.returned (.bool (fP [a,b]))/\((w.alloc (.cells #[I 10,I a,I b,I c,I m] 108)).alloc (.cells (oU [a,b]) 3))=w'):=fun V=>sL [a,b] (w.heap.size+1) _ (by simp) (by have e:=bE (w.alloc (.cells #[I 10,I a,I b,I c,I m] 108)) (oU [a,b]) 3;rw[fF] at e;exact e)
 have HS:=bD (H0 c);obtain⟨R,hR⟩:=ex (fP [a,b]);rw[<- hR] at HA;rw[<- hR];obtain⟨S,hS⟩:=ex (ot c);rw[<- hS] at HS;rw[<- hS];clear hR hS;cases R
 · go_enter Tryz.func217,Tryz.ntmps217;go_wp2_with fail
   refine(HA.o w).mono ?_;rintro e w' ⟨rfl,rfl⟩;go_wp2;go_ret;exact⟨by simp,((aK _ _).alloc (aI _) _).alloc (by simp) _⟩
 · go_enter Tryz.func217,Tryz.ntmps217;go_wp2_with fail
   refine(HA.o w).mono ?_;rintro e w' ⟨rfl,rfl⟩;go_wp2_with fail
   refine(HS.o _).mono ?_;rintro e w' ⟨rfl,rfl⟩;go_wp2;go_ret;exact⟨by simp,((aK _ _).alloc (aI _) _).alloc (by simp) _⟩
theorem aa2 (a b c m:Int) (w:World):Calls Tryz.prog 217 #[.agg #[I 12,I a,I b,I c,I m]] w fun e w'=>e=.returned (.bool false)/\Below w.heap.size w w':=by
 go_enter Tryz.func217,Tryz.ntmps217;go_wp2;go_ret;exact⟨by simp,(aK _ _).alloc (aI _) _⟩
theorem aa1 (a b c m:Int) (w:World):Calls Tryz.prog 217 #[.agg #[I 16,I a,I b,I c,I m]] w fun e w'=>e=.returned (.bool (!decide (1<=m/\m<=6)))/\Below w.heap.size w w':=by
 by_cases h1:1<=m
 · by_cases h2:m<=6
   · have HR:=bD (show(!decide (1<=m/\m<=6))=false from by simp[h1,h2]);rw[HR.o];go_enter Tryz.func217,Tryz.ntmps217;go_wp2;go_ret;exact⟨by first | (simp;done) | (simp;omega),(aK _ _).alloc (aI _) _⟩
   · have HR:=bD (show(!decide (1<=m/\m<=6))=true from by simp[h1,h2]);rw[HR.o];go_enter Tryz.func217,Tryz.ntmps217;go_wp2;go_ret;exact⟨by first | (simp;done) | (simp;omega),(aK _ _).alloc (aI _) _⟩
 · have HR:=bD (show(!decide (1<=m/\m<=6))=true from by simp[h1]);rw[HR.o];go_enter Tryz.func217,Tryz.ntmps217;go_wp2;go_ret;exact⟨by simp,(aK _ _).alloc (aI _) _⟩
theorem adO (op a b c m:Int) (w:World) (h:op<1∨16<op):Calls Tryz.prog 217 #[.agg #[I op,I a,I b,I c,I m]] w fun e w'=>e=.returned (.bool true)/\Below w.heap.size w w':=by
 have n1:¬op=1:=by omega
 have n2:¬op=2:=by omega
 have n3:¬op=3:=by omega
 have n4:¬op=4:=by omega
 have n5:¬op=5:=by omega
 have n6:¬op=6:=by omega
 have n7:¬op=7:=by omega
 have n8:¬op=8:=by omega
 have n9:¬op=9:=by omega
 have n10:¬op=10:=by omega
 have n11:¬op=11:=by omega
 have n12:¬op=12:=by omega
 have n13:¬op=13:=by omega
 have n14:¬op=14:=by omega
 have n15:¬op=15:=by omega
 have n16:¬op=16:=by omega
 clear h;go_enter Tryz.func217,Tryz.ntmps217;go_wp2;go_ret;exact⟨by simp[n12],(aK _ _).alloc (aI _) _⟩
theorem M7 (op:Int):(op<1∨16<op)∨op=1∨op=2∨op=3∨op=4∨op=5∨op=6∨op=7∨op=8∨op=9∨op=10∨op=11∨op=12∨op=13∨op=14∨op=15∨op=16:=by omega
theorem M8 (i:ed) (h:i.op<1∨16<i.op):i.bad=true:=by
 unfold ed.bad;rw[aA (by omega),aA (by omega),aA (by omega),aA (by omega),aA (by omega),aA (by omega)]
theorem J4 (i:ed) (w:World) (hi:i.fits):Calls Tryz.prog 217 #[.agg i.cells] w fun e w'=>e=.returned (.bool i.bad)/\Below w.heap.size w w':=by
 obtain⟨op,a,b,c,m⟩:=i;obtain⟨-,ha,hb,hc,-⟩:=hi;have e1:=afP a ha;have e2:=afO a b ha hb;have e3:=afN a b c ha hb hc;rcases M7 op with h | h | h | h | h | h | h | h | h | h | h | h | h | h | h | h | h
 · rw[M8 _ h];exact adO op a b c m w h
 · subst h;have g:=Mg 1 a b c m w (by simp);rw[e1] at g;exact g
 · subst h;have g:=zG 2 a b c m w (by simp);rw[e3] at g;exact g
 · subst h;have g:=zG 3 a b c m w (by simp);rw[e3] at g;exact g
 · subst h;have g:=zG 4 a b c m w (by simp);rw[e3] at g;exact g
 · subst h;have g:=zG 5 a b c m w (by simp);rw[e3] at g;exact g
 · subst h;have g:=zG 6 a b c m w (by simp);rw[e3] at g;exact g
 · subst h;have g:=zG 7 a b c m w (by simp);rw[e3] at g;exact g
 · subst h;have g:=Mf 8 a b c m w (by simp);rw[e2] at g;exact g
 · subst h;have g:=adP a b c m w;rw[e2] at g;exact g
 · subst h;have g:=aa3 a b c m w;rw[e2] at g;exact g
 · subst h;have g:=Mg 11 a b c m w (by simp);rw[e1] at g;exact g
 · subst h;have g:=aa2 a b c m w;exact g
 · subst h;have g:=Mf 13 a b c m w (by simp);rw[e2] at g;exact g
 · subst h;have g:=Mf 14 a b c m w (by simp);rw[e2] at g;exact g
 · subst h;have g:=Mg 15 a b c m w (by simp);rw[e1] at g;exact g
 · subst h;have g:=aa1 a b c m w;exact g
open Go.RowKit
end Go.Proofs.YtlgoihmkgaaemaaGreat
