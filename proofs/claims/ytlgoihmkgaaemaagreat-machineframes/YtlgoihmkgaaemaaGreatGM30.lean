import Derived.Test.YtlgoihmkgaaemaaGreatGM29
set_option maxHeartbeats 20000000
set_option linter.unusedVariables false
set_option maxRecDepth 100000
set_option linter.unusedSimpArgs false
namespace Go.Proofs.YtlgoihmkgaaemaaGreat
open Go.RowKit
def iW (N q:bO) (j:Nat):bO:=⟨fun i=>if i<j then N.r i else q.r i,if 8<j then N.pc else q.pc,if 9<j then N.st else q.st,if 10<j then N.cd else q.cd,if 11<j then N.fk else q.fk,if 12<j then N.fa else q.fa⟩
theorem ahl (N q:bO):bQ (iW N q 0)=bQ q:=rfl
theorem afz (N q:bO):bQ (iW N q 13)=bQ N:=rfl
theorem afy (N q:bO):bQ (iW N q 1)=(bQ (iW N q 0)).set 0 (I (N.r 0)):=rfl
theorem afx (N q:bO):bQ (iW N q 2)=(bQ (iW N q 1)).set 1 (I (N.r 1)):=rfl
theorem afw (N q:bO):bQ (iW N q 3)=(bQ (iW N q 2)).set 2 (I (N.r 2)):=rfl
theorem afv (N q:bO):bQ (iW N q 4)=(bQ (iW N q 3)).set 3 (I (N.r 3)):=rfl
theorem afu (N q:bO):bQ (iW N q 5)=(bQ (iW N q 4)).set 4 (I (N.r 4)):=rfl
theorem aft (N q:bO):bQ (iW N q 6)=(bQ (iW N q 5)).set 5 (I (N.r 5)):=rfl
theorem afs (N q:bO):bQ (iW N q 7)=(bQ (iW N q 6)).set 6 (I (N.r 6)):=rfl
theorem afr (N q:bO):bQ (iW N q 8)=(bQ (iW N q 7)).set 7 (I (N.r 7)):=rfl
theorem afq (N q:bO):bQ (iW N q 9)=(bQ (iW N q 8)).set 8 (I N.pc):=rfl
theorem afp (N q:bO):bQ (iW N q 10)=(bQ (iW N q 9)).set 9 (I N.st):=rfl
theorem adK (N q:bO):bQ (iW N q 11)=(bQ (iW N q 10)).set 10 (I N.cd):=rfl
theorem adJ (N q:bO):bQ (iW N q 12)=(bQ (iW N q 11)).set 11 (I N.fk):=rfl
theorem adI (N q:bO):bQ (iW N q 13)=(bQ (iW N q 12)).set 12 (I N.fa):=rfl
theorem ze {α:Type} (f:α->List Value) (d:α):∀(l:List α) (k:Nat) (x:α),k<l.length->f x=f (l.getD k d)->(l.set k x).flatMap f=l.flatMap f
 | [],k,x,h,_=>by simp at h
 | a::r,0,x,h,e=>by
  have e':f x=f a:=e;rw[dw,nM,nM,e']
 | a::r,k+1,x,h,e=>by
  rw[dh,nM,nM,ze f d r k x (by simpa using h) e]
theorem iG (ps:List bO) (k:Nat) (hk:k<ps.length) (a b:bO) (j:Nat) (hj:j<13) (v:Value) (e:bQ b=(bQ a).set j v):(ps.set k b).flatMap bQ=((ps.set k a).flatMap bQ).set (k*13+j) v:=by
 have:=kE bQ 13 rI Ci b j v hj (ps.set k a) k (by rw[fC];exact hk) (by
  rw[e,fy,O6 hk];rfl)
 rw[pQ] at this;exact this
theorem V5 {w:World} {lo pb n cap:Nat} {ps:List bO} (hr:w.ownsRow lo 77 13 (.slice (some (Ad pb 0)) n cap) n (ps.flatMap bQ)) (k:Nat) (hk:k<ps.length) (N:bO) :
  (((((((((((((w.setCell (Ad pb (k*13)) (I (N.r 0))).setCell (Ad pb (k*13+1)) (I (N.r 1))).setCell (Ad pb (k*13+2)) (I (N.r 2))).setCell (Ad pb (k*13+3)) (I (N.r 3))).setCell (Ad pb (k*13+4)) (I (N.r 4))).setCell (Ad pb (k*13+5)) (I (N.r 5))).setCell (Ad pb (k*13+6)) (I (N.r 6))).setCell (Ad pb (k*13+7)) (I (N.r 7))).setCell (Ad pb (k*13+8)) (I N.pc)).setCell (Ad pb (k*13+9)) (I N.st)).setCell (Ad pb (k*13+10)) (I N.cd)).setCell (Ad pb (k*13+11)) (I N.fk)).setCell (Ad pb (k*13+12)) (I N.fa)).ownsRow lo 77 13 (.slice (some (Ad pb 0)) n cap) n ((ps.set k N).flatMap bQ):=by
 have h0:(ps.set k (iW N (aK ps k) 0)).flatMap bQ=ps.flatMap bQ:=ze bQ Ci ps k _ hk (ahl N (aK ps k));have h13:(ps.set k N).flatMap bQ=(ps.set k (iW N (aK ps k) 13)).flatMap bQ:=by
  have:=ze bQ Ci (ps.set k (iW N (aK ps k) 13)) k N (by rw[fC];exact hk) (by rw[fy,O6 hk];exact(afz N (aK ps k)).symm);rw[pQ] at this;exact this
 rw[<- h0] at hr;rw[h13];have r0:=eZ hr (k*13+0) (I (N.r 0));rw[<- iG ps k hk _ _ 0 (by omega) _ (afy N (aK ps k))] at r0;have r1:=eZ r0 (k*13+1) (I (N.r 1));rw[<- iG ps k hk _ _ 1 (by omega) _ (afx N (aK ps k))] at r1;have r2:=eZ r1 (k*13+2) (I (N.r 2));rw[<- iG ps k hk _ _ 2 (by omega) _ (afw N (aK ps k))] at r2;have r3:=eZ r2 (k*13+3) (I (N.r 3));rw[<- iG ps k hk _ _ 3 (by omega) _ (afv N (aK ps k))] at r3;have r4:=eZ r3 (k*13+4) (I (N.r 4));rw[<- iG ps k hk _ _ 4 (by omega) _ (afu N (aK ps k))] at r4;have r5:=eZ r4 (k*13+5) (I (N.r 5));rw[<- iG ps k hk _ _ 5 (by omega) _ (aft N (aK ps k))] at r5;have r6:=eZ r5 (k*13+6) (I (N.r 6));rw[<- iG ps k hk _ _ 6 (by omega) _ (afs N (aK ps k))] at r6;have r7:=eZ r6 (k*13+7) (I (N.r 7));rw[<- iG ps k hk _ _ 7 (by omega) _ (afr N (aK ps k))] at r7;have r8:=eZ r7 (k*13+8) (I N.pc);rw[<- iG ps k hk _ _ 8 (by omega) _ (afq N (aK ps k))] at r8;have r9:=eZ r8 (k*13+9) (I N.st);rw[<- iG ps k hk _ _ 9 (by omega) _ (afp N (aK ps k))] at r9;have r10:=eZ r9 (k*13+10) (I N.cd);rw[<- iG ps k hk _ _ 10 (by omega) _ (adK N (aK ps k))] at r10;have r11:=eZ r10 (k*13+11) (I N.fk);rw[<- iG ps k hk _ _ 11 (by omega) _ (adJ N (aK ps k))] at r11;have r12:=eZ r11 (k*13+12) (I N.fa);rw[<- iG ps k hk _ _ 12 (by omega) _ (adI N (aK ps k))] at r12;exact r12
theorem Y8 {D:Nat->Prop} (w:World) (pb k:Nat) (N:bO) (h:D pb):aC D w (((((((((((((w.setCell (Ad pb (k*13)) (I (N.r 0))).setCell (Ad pb (k*13+1)) (I (N.r 1))).setCell (Ad pb (k*13+2)) (I (N.r 2))).setCell (Ad pb (k*13+3)) (I (N.r 3))).setCell (Ad pb (k*13+4)) (I (N.r 4))).setCell (Ad pb (k*13+5)) (I (N.r 5))).setCell (Ad pb (k*13+6)) (I (N.r 6))).setCell (Ad pb (k*13+7)) (I (N.r 7))).setCell (Ad pb (k*13+8)) (I N.pc)).setCell (Ad pb (k*13+9)) (I N.st)).setCell (Ad pb (k*13+10)) (I N.cd)).setCell (Ad pb (k*13+11)) (I N.fk)).setCell (Ad pb (k*13+12)) (I N.fa)) :=
 (((((((((((((aC.refl D w).trans (aC.set D _ (Ad pb (k*13)) _ h) (fun _ _ g=>g)).trans (aC.set D _ (Ad pb (k*13+1)) _ h) (fun _ _ g=>g)).trans (aC.set D _ (Ad pb (k*13+2)) _ h) (fun _ _ g=>g)).trans (aC.set D _ (Ad pb (k*13+3)) _ h) (fun _ _ g=>g)).trans (aC.set D _ (Ad pb (k*13+4)) _ h) (fun _ _ g=>g)).trans (aC.set D _ (Ad pb (k*13+5)) _ h) (fun _ _ g=>g)).trans (aC.set D _ (Ad pb (k*13+6)) _ h) (fun _ _ g=>g)).trans (aC.set D _ (Ad pb (k*13+7)) _ h) (fun _ _ g=>g)).trans (aC.set D _ (Ad pb (k*13+8)) _ h) (fun _ _ g=>g)).trans (aC.set D _ (Ad pb (k*13+9)) _ h) (fun _ _ g=>g)).trans (aC.set D _ (Ad pb (k*13+10)) _ h) (fun _ _ g=>g)).trans (aC.set D _ (Ad pb (k*13+11)) _ h) (fun _ _ g=>g)).trans (aC.set D _ (Ad pb (k*13+12)) _ h) (fun _ _ g=>g)
section
variable {σ:Type} {Hd:World->(Nat->Prop)->σ->Prop} {Ok:σ->List Bool->Prop} {o:gN σ} {lo mb gb:Nat} {w w':World} {D:Nat->Prop} {vo:Value} {st:dA σ}
theorem fQ.anB (C:iu lo mb Hd Ok o) {pb n cap:Nat} (h:fQ Hd lo mb gb w D (.slice (some (Ad pb 0)) n cap) vo st) (k:Nat) (hk:k<st.ps.length) (hn:n=st.ps.length) (N:bO) :
  cD Hd lo mb gb w D (.slice (some (Ad pb 0)) n cap) vo { st with ps:=st.ps.set k N } (((((((((((((w.setCell (Ad pb (k*13)) (I (N.r 0))).setCell (Ad pb (k*13+1)) (I (N.r 1))).setCell (Ad pb (k*13+2)) (I (N.r 2))).setCell (Ad pb (k*13+3)) (I (N.r 3))).setCell (Ad pb (k*13+4)) (I (N.r 4))).setCell (Ad pb (k*13+5)) (I (N.r 5))).setCell (Ad pb (k*13+6)) (I (N.r 6))).setCell (Ad pb (k*13+7)) (I (N.r 7))).setCell (Ad pb (k*13+8)) (I N.pc)).setCell (Ad pb (k*13+9)) (I N.st)).setCell (Ad pb (k*13+10)) (I N.cd)).setCell (Ad pb (k*13+11)) (I N.fk)).setCell (Ad pb (k*13+12)) (I N.fa)):=by
 have hb:pI (.slice (some (Ad pb 0)) n cap) pb:=rfl;have kS:aC (fun b=>b=pb) w _:=Y8 w pb k N rfl;refine⟨D,.slice (some (Ad pb 0)) n cap,vo,⟨kS.keep h.head (fun e=>h.n2 (e ▸ hb)),C.kp _ _ _ _ _ h.mem kS (fun b hd e=>h.n4 pb hb (e ▸ hd)),?_,kS.row h.outs (fun g hg e=>h.n6 pb hb (e ▸ hg)),h.base,h.n1,h.n2,h.n3,h.n4,h.n5,h.n6⟩,kS.mono (fun b _ e=>.inr (.inr (.inl (e ▸ hb)))),fun b hb=>.inl hb⟩;have hp:=h.procs;rw[<- hn] at hp;show World.ownsRow _ lo _ 13 _ (st.ps.set k N).length _;rw[fC,<- hn];exact V5 hp k hk N
end
open Go.RowKit
variable {σ:Type} {Hd:World->(Nat->Prop)->σ->Prop} {Ok:σ->List Bool->Prop} {o:gN σ} {lo mb gb:Nat} {D:Nat->Prop} {vr vo:Value} {st:dA σ}
theorem afE (C:iu lo mb Hd Ok o) (k:Nat) (w:World) (h:fQ Hd lo mb gb w D vr vo st) (hok:dK Ok st) (hk:k<st.ps.length) (h1:(aK st.ps k).st=1) :
  Calls Tryz.prog 196 #[.pointer (some (Ad gb 0)),I (k:Int),I 2] w fun e w'=>e=.returned (I (fh o st k 2).1)/\cD Hd lo mb gb w D vr vo (fh o st k 2).2 w':=by
 have HG:=ai h;have HC:=ai C;obtain⟨pb,cap,EL,hpb,hpc,Pw⟩:=h.proc k hk;have mr:=ai hpc;have hlv:=ij k hk h1;have hfit:=hok.fit k hk;have Nw:=ai hok;have Th:=ai hlv;have Q3:=ai hfit;have EM:st.ps.length<=4:=by have:=C.ok.few _ _ hok.mem;unfold bX at this;rw[gV] at this;exact this
 have uY:=ai hk;have HH1:=ai h1;have HR:Hid (fh o st k 2=((o.map st.mem k ((aK st.ps k).r 0) ((aK st.ps k).r 1) ((aK st.ps k).r 2)).1,{ st with mem:=(o.map st.mem k ((aK st.ps k).r 0) ((aK st.ps k).r 1) ((aK st.ps k).r 2)).2 })):=rfl;obtain⟨q,hq⟩:=ex (aK st.ps k);rw[<- hq] at mr Q3;have HQ:=ai hq;obtain⟨n,hn⟩:=ex st.ps.length;rw[<- hn] at EL hk EM;subst EL;have HN:=ai hn;have JL:(k:Int)<(n:Int):=by omega
 have g0:w.cell? (Ad gb 0)=some (.iface 183 (.pointer (some (Ad mb 0)))):=aq HG.o.head 0 rfl;have g1:w.cell? (Ad gb 1)=some (.slice (some (Ad pb 0)) n cap):=aq HG.o.head 1 rfl;have hgb:=aI HG.o.head;have c0:w.cell? (Ad pb (k*13))=some (I (q.r 0)):=mr.o 0 (by omega);have c1:w.cell? (Ad pb (k*13+1))=some (I (q.r 1)):=mr.o 1 (by omega);have c2:w.cell? (Ad pb (k*13+2))=some (I (q.r 2)):=mr.o 2 (by omega);have c3:w.cell? (Ad pb (k*13+3))=some (I (q.r 3)):=mr.o 3 (by omega);have c4:w.cell? (Ad pb (k*13+4))=some (I (q.r 4)):=mr.o 4 (by omega);have c5:w.cell? (Ad pb (k*13+5))=some (I (q.r 5)):=mr.o 5 (by omega);have c6:w.cell? (Ad pb (k*13+6))=some (I (q.r 6)):=mr.o 6 (by omega);have c7:w.cell? (Ad pb (k*13+7))=some (I (q.r 7)):=mr.o 7 (by omega);have kX:=ai ((aJ w.heap.size w).alloc (aH _) (.cells #[I (q.r 0),I (q.r 1),I (q.r 2),I (q.r 3),I (q.r 4),I (q.r 5),I (q.r 6),I (q.r 7)] 73));have BX:=ai (bD w #[I (q.r 0),I (q.r 1),I (q.r 2),I (q.r 3),I (q.r 4),I (q.r 5),I (q.r 6),I (q.r 7)] 73);clear hq hn hpc Pw h C mr hok hlv hfit;rw[<- HQ.o] at HR;obtain⟨RR,MK⟩:=ex (fh o st k 2);rw[<- MK] at HR ⊢;clear MK;have hm:=V6 (Ad mb 0);have ha:=Zd (Ad mb 0);go_enter Tryz.func196,Tryz.ntmps196;go_wp2_with fail
 obtain⟨WA,mj⟩:=ex (w.alloc (.cells #[I (q.r 0),I (q.r 1),I (q.r 2),I (q.r 3),I (q.r 4),I (q.r 5),I (q.r 6),I (q.r 7)] 73));rw[<- mj] at kX BX ⊢;obtain⟨rb,JJ⟩:=ex w.heap.size;rw[<- JJ] at BX ⊢;have Mp:=ai JJ;have EF:=ai (HG.o.below HC.o kX.o);clear mj JJ c0 c1 c2 c3 c4 c5 c6 c7;have HMC:=ai (HC.o.map WA.drew D st.mem _ k (q.r 0) (q.r 1) (q.r 2) (HC.o.kp _ _ _ (fun _=>False) _ EF.o.mem (aC.drew _ _) (fun _ _ g=>g)) Nw.o.mem Th.o (Q3.o.1 0 (by omega)) (Q3.o.1 1 (by omega)));have HS:Hid (∀V,aC D WA V->V.cell? (Ad gb 0)=some (.iface 183 (.pointer (some (Ad mb 0))))/\V.cell? (Ad rb 0)=some (I (q.r 0))/\V.cell? (Ad rb 1)=some (I (q.r 1))/\V.cell? (Ad rb 2)=some (I (q.r 2))):=fun V hb=>by
  have h1:=hb.keep BX.o (fun g=>by have:=HC.o.dom _ _ _ HG.o.mem _ g;have:=Mp.o;omega);have h2:=hb.keep EF.o.head EF.o.n1;exact⟨aq h2 0 rfl,aq h1 0 rfl,aq h1 1 rfl,aq h1 2 rfl⟩
 have oh:=ai (HS.o _ (aC.drew _ _));obtain⟨X,hX⟩:=ex (o.map st.mem k (q.r 0) (q.r 1) (q.r 2));rw[<- hX] at HMC HR;clear hX
 go_region_held3 (fun V=>V.cell? (Ad gb 0)=some (.iface 183 (.pointer (some (Ad mb 0))))/\V.cell? (Ad rb 0)=some (I (q.r 0))/\V.cell? (Ad rb 1)=some (I (q.r 1))/\V.cell? (Ad rb 2)=some (I (q.r 2))) (first | exact rJ.o | exact oh.o)
  (first | (go_at_call 255;refine HMC.o.mono ?_;rintro e w2 ⟨D2,rfl,hm2,hk2,hd2⟩;have pM:Hid (aC D WA w2):=(aC.drew D WA).trans hk2 (fun _ _ g=>g);have rJ:=ai (HS.o _ pM.o);have Jk:=ai hm2;have Wv:=ai hd2;clear hm2 hk2 hd2))
 go_wp2;go_ret;rw[HR.o];exact⟨rfl,cD.after kX.o (cD.EY HC.o EF.o Jk.o pM.o Wv.o)⟩
theorem afD (C:iu lo mb Hd Ok o) (k:Nat) (w:World) (h:fQ Hd lo mb gb w D vr vo st) (hok:dK Ok st) (hk:k<st.ps.length) (h1:(aK st.ps k).st=1) :
  Calls Tryz.prog 196 #[.pointer (some (Ad gb 0)),I (k:Int),I 3] w fun e w'=>e=.returned (I (fh o st k 3).1)/\cD Hd lo mb gb w D vr vo (fh o st k 3).2 w':=by
 have HG:=ai h;have HC:=ai C;obtain⟨pb,cap,EL,hpb,hpc,Pw⟩:=h.proc k hk;have mr:=ai hpc;have hlv:=ij k hk h1;have hfit:=hok.fit k hk;have Nw:=ai hok;have Th:=ai hlv;have Q3:=ai hfit;have EM:st.ps.length<=4:=by have:=C.ok.few _ _ hok.mem;unfold bX at this;rw[gV] at this;exact this
 have uY:=ai hk;have HH1:=ai h1;have HR:Hid (fh o st k 3=((o.oW st.mem k ((aK st.ps k).r 0) ((aK st.ps k).r 1)).1,{ st with mem:=(o.oW st.mem k ((aK st.ps k).r 0) ((aK st.ps k).r 1)).2 })):=rfl;obtain⟨q,hq⟩:=ex (aK st.ps k);rw[<- hq] at mr Q3;have HQ:=ai hq;obtain⟨n,hn⟩:=ex st.ps.length;rw[<- hn] at EL hk EM;subst EL;have HN:=ai hn;have JL:(k:Int)<(n:Int):=by omega
 have g0:w.cell? (Ad gb 0)=some (.iface 183 (.pointer (some (Ad mb 0)))):=aq HG.o.head 0 rfl;have g1:w.cell? (Ad gb 1)=some (.slice (some (Ad pb 0)) n cap):=aq HG.o.head 1 rfl;have hgb:=aI HG.o.head;have c0:w.cell? (Ad pb (k*13))=some (I (q.r 0)):=mr.o 0 (by omega);have c1:w.cell? (Ad pb (k*13+1))=some (I (q.r 1)):=mr.o 1 (by omega);have c2:w.cell? (Ad pb (k*13+2))=some (I (q.r 2)):=mr.o 2 (by omega);have c3:w.cell? (Ad pb (k*13+3))=some (I (q.r 3)):=mr.o 3 (by omega);have c4:w.cell? (Ad pb (k*13+4))=some (I (q.r 4)):=mr.o 4 (by omega);have c5:w.cell? (Ad pb (k*13+5))=some (I (q.r 5)):=mr.o 5 (by omega);have c6:w.cell? (Ad pb (k*13+6))=some (I (q.r 6)):=mr.o 6 (by omega);have c7:w.cell? (Ad pb (k*13+7))=some (I (q.r 7)):=mr.o 7 (by omega);have kX:=ai ((aJ w.heap.size w).alloc (aH _) (.cells #[I (q.r 0),I (q.r 1),I (q.r 2),I (q.r 3),I (q.r 4),I (q.r 5),I (q.r 6),I (q.r 7)] 73));have BX:=ai (bD w #[I (q.r 0),I (q.r 1),I (q.r 2),I (q.r 3),I (q.r 4),I (q.r 5),I (q.r 6),I (q.r 7)] 73);clear hq hn hpc Pw h C mr hok hlv hfit;rw[<- HQ.o] at HR;obtain⟨RR,MK⟩:=ex (fh o st k 3);rw[<- MK] at HR ⊢;clear MK;have hm:=QR (Ad mb 0);have ha:=S0 (Ad mb 0);go_enter Tryz.func196,Tryz.ntmps196;go_wp2_with fail
 obtain⟨WA,mj⟩:=ex (w.alloc (.cells #[I (q.r 0),I (q.r 1),I (q.r 2),I (q.r 3),I (q.r 4),I (q.r 5),I (q.r 6),I (q.r 7)] 73));rw[<- mj] at kX BX ⊢;obtain⟨rb,JJ⟩:=ex w.heap.size;rw[<- JJ] at BX ⊢;have Mp:=ai JJ;have EF:=ai (HG.o.below HC.o kX.o);clear mj JJ c0 c1 c2 c3 c4 c5 c6 c7;have HMC:=ai (HC.o.oW WA.drew D st.mem _ k (q.r 0) (q.r 1) (HC.o.kp _ _ _ (fun _=>False) _ EF.o.mem (aC.drew _ _) (fun _ _ g=>g)) Nw.o.mem Th.o (Q3.o.1 0 (by omega)) (Q3.o.1 1 (by omega)));have HS:Hid (∀V,aC D WA V->V.cell? (Ad gb 0)=some (.iface 183 (.pointer (some (Ad mb 0))))/\V.cell? (Ad rb 0)=some (I (q.r 0))/\V.cell? (Ad rb 1)=some (I (q.r 1))):=fun V hb=>by
  have h1:=hb.keep BX.o (fun g=>by have:=HC.o.dom _ _ _ HG.o.mem _ g;have:=Mp.o;omega);have h2:=hb.keep EF.o.head EF.o.n1;exact⟨aq h2 0 rfl,aq h1 0 rfl,aq h1 1 rfl⟩
 have oh:=ai (HS.o _ (aC.drew _ _));obtain⟨X,hX⟩:=ex (o.oW st.mem k (q.r 0) (q.r 1));rw[<- hX] at HMC HR;clear hX
 go_region_held3 (fun V=>V.cell? (Ad gb 0)=some (.iface 183 (.pointer (some (Ad mb 0))))/\V.cell? (Ad rb 0)=some (I (q.r 0))/\V.cell? (Ad rb 1)=some (I (q.r 1))) (first | exact rJ.o | exact oh.o)
  (first | (go_at_call 258;refine HMC.o.mono ?_;rintro e w2 ⟨D2,rfl,hm2,hk2,hd2⟩;have pM:Hid (aC D WA w2):=(aC.drew D WA).trans hk2 (fun _ _ g=>g);have rJ:=ai (HS.o _ pM.o);have Jk:=ai hm2;have Wv:=ai hd2;clear hm2 hk2 hd2))
 go_wp2;go_ret;rw[HR.o];exact⟨rfl,cD.after kX.o (cD.EY HC.o EF.o Jk.o pM.o Wv.o)⟩
theorem afC (C:iu lo mb Hd Ok o) (k:Nat) (w:World) (h:fQ Hd lo mb gb w D vr vo st) (hok:dK Ok st) (hk:k<st.ps.length) (h1:(aK st.ps k).st=1) :
  Calls Tryz.prog 196 #[.pointer (some (Ad gb 0)),I (k:Int),I 4] w fun e w'=>e=.returned (I (fh o st k 4).1)/\cD Hd lo mb gb w D vr vo (fh o st k 4).2 w':=by
 have HG:=ai h;have HC:=ai C;obtain⟨pb,cap,EL,hpb,hpc,Pw⟩:=h.proc k hk;have mr:=ai hpc;have hlv:=ij k hk h1;have hfit:=hok.fit k hk;have Nw:=ai hok;have Th:=ai hlv;have Q3:=ai hfit;have EM:st.ps.length<=4:=by have:=C.ok.few _ _ hok.mem;unfold bX at this;rw[gV] at this;exact this
 have uY:=ai hk;have HH1:=ai h1;have HR:Hid (fh o st k 4=((o.jl st.mem k ((aK st.ps k).r 0) ((aK st.ps k).r 1) ((aK st.ps k).r 2)).1,{ st with mem:=(o.jl st.mem k ((aK st.ps k).r 0) ((aK st.ps k).r 1) ((aK st.ps k).r 2)).2 })):=rfl;obtain⟨q,hq⟩:=ex (aK st.ps k);rw[<- hq] at mr Q3;have HQ:=ai hq;obtain⟨n,hn⟩:=ex st.ps.length;rw[<- hn] at EL hk EM;subst EL;have HN:=ai hn;have JL:(k:Int)<(n:Int):=by omega
 have g0:w.cell? (Ad gb 0)=some (.iface 183 (.pointer (some (Ad mb 0)))):=aq HG.o.head 0 rfl;have g1:w.cell? (Ad gb 1)=some (.slice (some (Ad pb 0)) n cap):=aq HG.o.head 1 rfl;have hgb:=aI HG.o.head;have c0:w.cell? (Ad pb (k*13))=some (I (q.r 0)):=mr.o 0 (by omega);have c1:w.cell? (Ad pb (k*13+1))=some (I (q.r 1)):=mr.o 1 (by omega);have c2:w.cell? (Ad pb (k*13+2))=some (I (q.r 2)):=mr.o 2 (by omega);have c3:w.cell? (Ad pb (k*13+3))=some (I (q.r 3)):=mr.o 3 (by omega);have c4:w.cell? (Ad pb (k*13+4))=some (I (q.r 4)):=mr.o 4 (by omega);have c5:w.cell? (Ad pb (k*13+5))=some (I (q.r 5)):=mr.o 5 (by omega);have c6:w.cell? (Ad pb (k*13+6))=some (I (q.r 6)):=mr.o 6 (by omega);have c7:w.cell? (Ad pb (k*13+7))=some (I (q.r 7)):=mr.o 7 (by omega);have kX:=ai ((aJ w.heap.size w).alloc (aH _) (.cells #[I (q.r 0),I (q.r 1),I (q.r 2),I (q.r 3),I (q.r 4),I (q.r 5),I (q.r 6),I (q.r 7)] 73));have BX:=ai (bD w #[I (q.r 0),I (q.r 1),I (q.r 2),I (q.r 3),I (q.r 4),I (q.r 5),I (q.r 6),I (q.r 7)] 73);clear hq hn hpc Pw h C mr hok hlv hfit;rw[<- HQ.o] at HR;obtain⟨RR,MK⟩:=ex (fh o st k 4);rw[<- MK] at HR ⊢;clear MK;have hm:=Mn (Ad mb 0);have ha:=Og (Ad mb 0);go_enter Tryz.func196,Tryz.ntmps196;go_wp2_with fail
 obtain⟨WA,mj⟩:=ex (w.alloc (.cells #[I (q.r 0),I (q.r 1),I (q.r 2),I (q.r 3),I (q.r 4),I (q.r 5),I (q.r 6),I (q.r 7)] 73));rw[<- mj] at kX BX ⊢;obtain⟨rb,JJ⟩:=ex w.heap.size;rw[<- JJ] at BX ⊢;have Mp:=ai JJ;have EF:=ai (HG.o.below HC.o kX.o);clear mj JJ c0 c1 c2 c3 c4 c5 c6 c7;have HMC:=ai (HC.o.jl WA.drew D st.mem _ k (q.r 0) (q.r 1) (q.r 2) (HC.o.kp _ _ _ (fun _=>False) _ EF.o.mem (aC.drew _ _) (fun _ _ g=>g)) Nw.o.mem Th.o (Q3.o.1 0 (by omega)) (Q3.o.1 1 (by omega)));have HS:Hid (∀V,aC D WA V->V.cell? (Ad gb 0)=some (.iface 183 (.pointer (some (Ad mb 0))))/\V.cell? (Ad rb 0)=some (I (q.r 0))/\V.cell? (Ad rb 1)=some (I (q.r 1))/\V.cell? (Ad rb 2)=some (I (q.r 2))):=fun V hb=>by
  have h1:=hb.keep BX.o (fun g=>by have:=HC.o.dom _ _ _ HG.o.mem _ g;have:=Mp.o;omega);have h2:=hb.keep EF.o.head EF.o.n1;exact⟨aq h2 0 rfl,aq h1 0 rfl,aq h1 1 rfl,aq h1 2 rfl⟩
 have oh:=ai (HS.o _ (aC.drew _ _));obtain⟨X,hX⟩:=ex (o.jl st.mem k (q.r 0) (q.r 1) (q.r 2));rw[<- hX] at HMC HR;clear hX
 go_region_held3 (fun V=>V.cell? (Ad gb 0)=some (.iface 183 (.pointer (some (Ad mb 0))))/\V.cell? (Ad rb 0)=some (I (q.r 0))/\V.cell? (Ad rb 1)=some (I (q.r 1))/\V.cell? (Ad rb 2)=some (I (q.r 2))) (first | exact rJ.o | exact oh.o)
  (first | (go_at_call 256;refine HMC.o.mono ?_;rintro e w2 ⟨D2,rfl,hm2,hk2,hd2⟩;have pM:Hid (aC D WA w2):=(aC.drew D WA).trans hk2 (fun _ _ g=>g);have rJ:=ai (HS.o _ pM.o);have Jk:=ai hm2;have Wv:=ai hd2;clear hm2 hk2 hd2))
 go_wp2;go_ret;rw[HR.o];exact⟨rfl,cD.after kX.o (cD.EY HC.o EF.o Jk.o pM.o Wv.o)⟩
open Go.RowKit
variable {σ:Type} {Hd:World->(Nat->Prop)->σ->Prop} {Ok:σ->List Bool->Prop} {o:gN σ} {lo mb gb:Nat} {D:Nat->Prop} {vr vo:Value} {st:dA σ}
theorem afB (C:iu lo mb Hd Ok o) (k:Nat) (w:World) (h:fQ Hd lo mb gb w D vr vo st) (hok:dK Ok st) (hk:k<st.ps.length) (h1:(aK st.ps k).st=1) :
  Calls Tryz.prog 196 #[.pointer (some (Ad gb 0)),I (k:Int),I 5] w fun e w'=>e=.returned (I (fh o st k 5).1)/\cD Hd lo mb gb w D vr vo (fh o st k 5).2 w':=by
 have HG:=ai h;have HC:=ai C;obtain⟨pb,cap,EL,hpb,hpc,Pw⟩:=h.proc k hk;have mr:=ai hpc;have hlv:=ij k hk h1;have hfit:=hok.fit k hk;have Nw:=ai hok;have Th:=ai hlv;have Q3:=ai hfit;have EM:st.ps.length<=4:=by have:=C.ok.few _ _ hok.mem;unfold bX at this;rw[gV] at this;exact this
 have uY:=ai hk;have HH1:=ai h1;have HFK:=ai (fun V (hV:Below w.heap.size w V)=>Y9 C k V (h.below C hV) hok hk h1);obtain⟨q,hq⟩:=ex (aK st.ps k);rw[<- hq] at mr Q3;have HQ:=ai hq;obtain⟨n,hn⟩:=ex st.ps.length;rw[<- hn] at EL hk EM;subst EL;have HN:=ai hn;have JL:(k:Int)<(n:Int):=by omega
 have g0:w.cell? (Ad gb 0)=some (.iface 183 (.pointer (some (Ad mb 0)))):=aq HG.o.head 0 rfl;have g1:w.cell? (Ad gb 1)=some (.slice (some (Ad pb 0)) n cap):=aq HG.o.head 1 rfl;have hgb:=aI HG.o.head;have c0:w.cell? (Ad pb (k*13))=some (I (q.r 0)):=mr.o 0 (by omega);have c1:w.cell? (Ad pb (k*13+1))=some (I (q.r 1)):=mr.o 1 (by omega);have c2:w.cell? (Ad pb (k*13+2))=some (I (q.r 2)):=mr.o 2 (by omega);have c3:w.cell? (Ad pb (k*13+3))=some (I (q.r 3)):=mr.o 3 (by omega);have c4:w.cell? (Ad pb (k*13+4))=some (I (q.r 4)):=mr.o 4 (by omega);have c5:w.cell? (Ad pb (k*13+5))=some (I (q.r 5)):=mr.o 5 (by omega);have c6:w.cell? (Ad pb (k*13+6))=some (I (q.r 6)):=mr.o 6 (by omega);have c7:w.cell? (Ad pb (k*13+7))=some (I (q.r 7)):=mr.o 7 (by omega);have kX:=ai ((aJ w.heap.size w).alloc (aH _) (.cells #[I (q.r 0),I (q.r 1),I (q.r 2),I (q.r 3),I (q.r 4),I (q.r 5),I (q.r 6),I (q.r 7)] 73));have BX:=ai (bD w #[I (q.r 0),I (q.r 1),I (q.r 2),I (q.r 3),I (q.r 4),I (q.r 5),I (q.r 6),I (q.r 7)] 73);clear hq hn hpc Pw h C mr hok hlv hfit;obtain⟨RR,MK⟩:=ex (fh o st k 5);rw[<- MK] at HFK ⊢;clear MK;go_enter Tryz.func196,Tryz.ntmps196;go_wp2_with (go_at_call 218;refine(HFK.o _ kX.o).mono ?_;rintro e w1 ⟨rfl,PC⟩;have ZB:=ai PC;clear PC)
 go_ret;exact⟨rfl,cD.after kX.o ZB.o⟩
theorem afA (C:iu lo mb Hd Ok o) (k:Nat) (w:World) (h:fQ Hd lo mb gb w D vr vo st) (hok:dK Ok st) (hk:k<st.ps.length) (h1:(aK st.ps k).st=1) :
  Calls Tryz.prog 196 #[.pointer (some (Ad gb 0)),I (k:Int),I 6] w fun e w'=>e=.returned (I (fh o st k 6).1)/\cD Hd lo mb gb w D vr vo (fh o st k 6).2 w':=by
 have HG:=ai h;have HC:=ai C;obtain⟨pb,cap,EL,hpb,hpc,Pw⟩:=h.proc k hk;have mr:=ai hpc;have hlv:=ij k hk h1;have hfit:=hok.fit k hk;have Nw:=ai hok;have Th:=ai hlv;have Q3:=ai hfit;have EM:st.ps.length<=4:=by have:=C.ok.few _ _ hok.mem;unfold bX at this;rw[gV] at this;exact this
 have uY:=ai hk;have HH1:=ai h1;have HR:Hid (fh o st k 6=(0,{ st with mem:=o.drop st.mem k })):=rfl;have HMC:=ai (fun V (hV:Below w.heap.size w V)=>C.drop V D st.mem _ k (h.below C hV).mem hok.mem (ij k hk h1));obtain⟨q,hq⟩:=ex (aK st.ps k);rw[<- hq] at mr Q3;have HQ:=ai hq;obtain⟨n,hn⟩:=ex st.ps.length;rw[<- hn] at EL hk EM;subst EL;have HN:=ai hn;have JL:(k:Int)<(n:Int):=by omega
 have g0:w.cell? (Ad gb 0)=some (.iface 183 (.pointer (some (Ad mb 0)))):=aq HG.o.head 0 rfl;have g1:w.cell? (Ad gb 1)=some (.slice (some (Ad pb 0)) n cap):=aq HG.o.head 1 rfl;have hgb:=aI HG.o.head;have c0:w.cell? (Ad pb (k*13))=some (I (q.r 0)):=mr.o 0 (by omega);have c1:w.cell? (Ad pb (k*13+1))=some (I (q.r 1)):=mr.o 1 (by omega);have c2:w.cell? (Ad pb (k*13+2))=some (I (q.r 2)):=mr.o 2 (by omega);have c3:w.cell? (Ad pb (k*13+3))=some (I (q.r 3)):=mr.o 3 (by omega);have c4:w.cell? (Ad pb (k*13+4))=some (I (q.r 4)):=mr.o 4 (by omega);have c5:w.cell? (Ad pb (k*13+5))=some (I (q.r 5)):=mr.o 5 (by omega);have c6:w.cell? (Ad pb (k*13+6))=some (I (q.r 6)):=mr.o 6 (by omega);have c7:w.cell? (Ad pb (k*13+7))=some (I (q.r 7)):=mr.o 7 (by omega);have kX:=ai ((aJ w.heap.size w).alloc (aH _) (.cells #[I (q.r 0),I (q.r 1),I (q.r 2),I (q.r 3),I (q.r 4),I (q.r 5),I (q.r 6),I (q.r 7)] 73));have BX:=ai (bD w #[I (q.r 0),I (q.r 1),I (q.r 2),I (q.r 3),I (q.r 4),I (q.r 5),I (q.r 6),I (q.r 7)] 73);clear hq hn hpc Pw h C mr hok hlv hfit;obtain⟨RR,MK⟩:=ex (fh o st k 6);rw[<- MK] at HR ⊢;clear MK;have hm:=Ir (Ad mb 0);have ha:=Lf (Ad mb 0);go_enter Tryz.func196,Tryz.ntmps196;go_wp2_with (go_at_call 252;refine(HMC.o _ kX.o).mono ?_;rintro e w2 ⟨D2,rfl,hm2,hk2,hd2⟩;have Bf:=ai (cD.EY HC.o (HG.o.below HC.o kX.o) hm2 hk2 hd2);clear hm2 hk2 hd2)
 go_ret;rw[HR.o];exact⟨rfl,cD.after kX.o Bf.o⟩
theorem afF (C:iu lo mb Hd Ok o) (k:Nat) (w:World) (h:fQ Hd lo mb gb w D vr vo st) (hok:dK Ok st) (hk:k<st.ps.length) (h1:(aK st.ps k).st=1) :
  Calls Tryz.prog 196 #[.pointer (some (Ad gb 0)),I (k:Int),I 1] w fun e w'=>e=.returned (I (fh o st k 1).1)/\cD Hd lo mb gb w D vr vo (fh o st k 1).2 w':=by
 have HG:=ai h;have HC:=ai C;obtain⟨pb,cap,EL,hpb,hpc,Pw⟩:=h.proc k hk;have mr:=ai hpc;have hlv:=ij k hk h1;have hfit:=hok.fit k hk;have Nw:=ai hok;have Th:=ai hlv;have Q3:=ai hfit;have EM:st.ps.length<=4:=by have:=C.ok.few _ _ hok.mem;unfold bX at this;rw[gV] at this;exact this
 have uY:=ai hk;have HH1:=ai h1;have HR:Hid (fh o st k 1=(0,{ st with out:=st.out++[⟨(k:Int),(aK st.ps k).r 0⟩] })):=rfl;obtain⟨q,hq⟩:=ex (aK st.ps k);rw[<- hq] at mr Q3;have HQ:=ai hq;obtain⟨n,hn⟩:=ex st.ps.length;rw[<- hn] at EL hk EM;subst EL;have HN:=ai hn;have JL:(k:Int)<(n:Int):=by omega
 have g0:w.cell? (Ad gb 0)=some (.iface 183 (.pointer (some (Ad mb 0)))):=aq HG.o.head 0 rfl;have g1:w.cell? (Ad gb 1)=some (.slice (some (Ad pb 0)) n cap):=aq HG.o.head 1 rfl;have hgb:=aI HG.o.head;have c0:w.cell? (Ad pb (k*13))=some (I (q.r 0)):=mr.o 0 (by omega);have c1:w.cell? (Ad pb (k*13+1))=some (I (q.r 1)):=mr.o 1 (by omega);have c2:w.cell? (Ad pb (k*13+2))=some (I (q.r 2)):=mr.o 2 (by omega);have c3:w.cell? (Ad pb (k*13+3))=some (I (q.r 3)):=mr.o 3 (by omega);have c4:w.cell? (Ad pb (k*13+4))=some (I (q.r 4)):=mr.o 4 (by omega);have c5:w.cell? (Ad pb (k*13+5))=some (I (q.r 5)):=mr.o 5 (by omega);have c6:w.cell? (Ad pb (k*13+6))=some (I (q.r 6)):=mr.o 6 (by omega);have c7:w.cell? (Ad pb (k*13+7))=some (I (q.r 7)):=mr.o 7 (by omega);have kX:=ai ((aJ w.heap.size w).alloc (aH _) (.cells #[I (q.r 0),I (q.r 1),I (q.r 2),I (q.r 3),I (q.r 4),I (q.r 5),I (q.r 6),I (q.r 7)] 73));have BX:=ai (bD w #[I (q.r 0),I (q.r 1),I (q.r 2),I (q.r 3),I (q.r 4),I (q.r 5),I (q.r 6),I (q.r 7)] 73);clear hq hn hpc Pw h C mr hok hlv hfit;rw[<- HQ.o] at HR;obtain⟨RR,MK⟩:=ex (fh o st k 1);rw[<- MK] at HR ⊢;clear MK;have E1:=Nw.o.out;obtain⟨no,hno⟩:=ex st.out.length;rw[<- hno] at E1;have uP:=ai hno;clear hno;go_enter Tryz.func196,Tryz.ntmps196;go_wp2_with fail
 obtain⟨WA,mj⟩:=ex (w.alloc (.cells #[I (q.r 0),I (q.r 1),I (q.r 2),I (q.r 3),I (q.r 4),I (q.r 5),I (q.r 6),I (q.r 7)] 73));rw[<- mj] at kX BX ⊢;obtain⟨rb,JJ⟩:=ex w.heap.size;rw[<- JJ] at BX ⊢;have EF:=ai (HG.o.below HC.o kX.o);obtain⟨ao,co,hvo,_,_⟩:=bh EF.o.outs;rw[<- uP.o] at hvo;have HVO:=ai hvo;have e2:WA.cell? (Ad gb 2)=some vo:=aq EF.o.head 2 rfl;have e2a:∀ob,(WA.alloc ob).cell? (Ad gb 2)=some vo:=fun ob=>aq (bl EF.o.head ob) 2 rfl
 have x0:WA.cell? (Ad rb 0)=some (I (q.r 0)):=aq BX.o 0 rfl;clear hvo mj JJ c0 c1 c2 c3 c4 c5 c6 c7 g0 g1;obtain⟨i0,hin,hz0,hz1,hz2⟩:=jm Ug;have Ed:=ai hin;have Hh:=ai hz0;have FU:=ai hz1;have yH:=ai hz2;have HOW:Hid ((WA.alloc (.cells #[I (k:Int),I (q.r 0)] 91)).drew.ownsRow lo 91 2 vo no (st.out.flatMap jz)):=by
  have:=EF.o.outs.alloc (.cells #[I (k:Int),I (q.r 0)] 91);rw[<- uP.o] at this;exact this
 have HLO:Hid (lo<=(WA.alloc (.cells #[I (k:Int),I (q.r 0)] 91)).drew.heap.size):=by show lo<=(WA.alloc _).heap.size;rw[fM];have:=EF.o.base;have:=aI EF.o.head;omega
 have HNW:Hid (0<1->∃ad,some ((Ad WA.heap.size 0):Addr)=some ad/\∀j u,([I (k:Int),I (q.r 0)]:List Value)[j]?=some u->((WA.alloc (.cells #[I (k:Int),I (q.r 0)] 91)).drew).cell? (ad.add j)=some u):=fun _=>⟨_,rfl,Gv (w:=(WA.alloc (.cells #[I (k:Int),I (q.r 0)] 91)).drew) (bD WA #[I (k:Int),I (q.r 0)] 91)⟩
 clear hin hz0 hz1 hz2
 go_region_law (refine zW (P:=Tryz.prog) rfl _ _ 32 rfl lo 91 i0 (.agg #[I 0,I 0]) 2 16 Tryz.underlying32 Ed.o Hh.o FU.o yH.o rfl (by decide) vo no (st.out.flatMap jz) rfl HOW.o (some (Ad WA.heap.size 0)) 1 1 [I (k:Int),I (q.r 0)] rfl rfl HNW.o (by intro u hu;simp at hu;rcases hu with rfl | rfl <;> rfl) (by unfold maxLen;omega) (by omega) HLO.o ?_;intro v3 w4 hown hgr hat;obtain⟨a4,c4,rfl,_⟩:=bh hown;have afN:=ai hown;have afZ:Hid ((WA.alloc _).grownBy w4 _):=⟨hgr.os,hgr.tape,hgr.output,hgr.size,hgr.block⟩;have ajZ:=ai hat;have hM4:=Hf (bl EF.o.head (.cells #[I (k:Int),I (q.r 0)] 91)) afZ.o (fun e=>EF.o.n3 e.symm);have y1:w4.cell? (Ad gb 2)=some vo:=aq hM4 2 rfl;have y2:w4.frozen? (Ad gb 2)=false:=aQ hM4 2;clear hown hgr hat hM4)
 all_goals
  go_wp2;go_ret;have hp:=EF.o.akv HC.o (x:=⟨(k:Int),q.r 0⟩) afZ.o (by rw[<- uP.o];exact afN.o) ajZ.o;rw[HR.o];exact⟨rfl,cD.after kX.o hp⟩
theorem Za (C:iu lo mb Hd Ok o) (k:Nat) (c:Int) (w:World) (h:fQ Hd lo mb gb w D vr vo st) (hok:dK Ok st) (hk:k<st.ps.length) (h1:(aK st.ps k).st=1) (hc:1<=c/\c<=6) :
  Calls Tryz.prog 196 #[.pointer (some (Ad gb 0)),I (k:Int),I c] w fun e w'=>e=.returned (I (fh o st k c).1)/\cD Hd lo mb gb w D vr vo (fh o st k c).2 w':=by
 rcases(show c=1∨c=2∨c=3∨c=4∨c=5∨c=6 by omega) with rfl | rfl | rfl | rfl | rfl | rfl
 · exact afF C k w h hok hk h1
 · exact afE C k w h hok hk h1
 · exact afD C k w h hok hk h1
 · exact afC C k w h hok hk h1
 · exact afB C k w h hok hk h1
 · exact afA C k w h hok hk h1
open Go.RowKit
theorem br {p:Prop} (h:p):Hid p:=h
theorem Hm (s:ByteArray) (w:World) (h:s.size=8) :
  Calls Tryz.prog 193 #[.string s] w fun e w'=>e=.returned (.tuple #[.agg (dR.cells (iB s)),I 0])/\Below w.heap.size w w':=by
 have hG:∀V,Calls Tryz.prog 195 #[.string (s.extract 4 8)] V fun e w'=>e=.returned (.tuple #[I (wrap64 (Lib.leNat (s.data.toList.drop 4))),I 0])/\V=w':=fun V=>by
  have h1:(s.extract 4 8).size=4:=by simp;omega
  have h2:=Rl (s.extract 4 8) V (by omega) (by omega);rw[N0 s h] at h2;exact h2
 have h4:=PO s h;have hv:dR.cells (iB s)=#[I (rM s 0),I (rM s 1),I (rM s 2),I (rM s 3),I (uR ((Lib.leNat (s.data.toList.drop 4):Nat):Int))]:=rfl;have akG:=adg ((Lib.leNat (s.data.toList.drop 4):Nat):Int) (by omega) (by omega);have hsr:=Hn ((Lib.leNat (s.data.toList.drop 4):Nat):Int) (by omega) (by omega);rw[hv];have he:wrap64 ((Lib.leNat (s.data.toList.drop 4):Nat):Int)=((Lib.leNat (s.data.toList.drop 4):Nat):Int):=by unfold wrap64;omega
 rw[he] at hG;obtain⟨L,hL⟩:∃L:Int,L=((Lib.leNat (s.data.toList.drop 4):Nat):Int):=⟨_,rfl⟩;rw[<- hL] at hG akG hsr;rw[<- hL];obtain⟨R,hR⟩:∃R:Int,R=uR L:=⟨_,rfl⟩;rw[<- hR] at akG hsr;rw[<- hR];have HG:=br hG;have g0:=GX s 0 (by omega);have g1:=GX s 1 (by omega);have g2:=GX s 2 (by omega);have g3:=GX s 3 (by omega);have hr:IntKind.i64.wrap R=R:=ve _ (by omega);have u0:=Dl s 0;have u1:=Dl s 1;have u2:=Dl s 2;have u3:=Dl s 3;clear hG hL hR hv he h4;go_enter Tryz.func193,Tryz.ntmps193;go_wp2_with fail
 refine(HG.o _).mono ?_;rintro e w1 ⟨rfl,rfl⟩;go_wp2_with fail
 go_region;go_wp2;refine bK (v:=.tuple #[.agg #[I (rM s 0),I (rM s 1),I (rM s 2),I (rM s 3),I R],I 0]) (by simp[results,Tryz.results193,go_sem]) rfl ?_;exact⟨rfl,((aJ _ _).alloc (aH _) _).drew⟩
open Go.RowKit
open Go.RowKit
def oK (l:List Int):Array Value:=(l.map fun x=>I x).toArray
theorem XT (l:List Int) (k:Nat) (h:k<l.length):(oK l)[k]?=some (I (l.getD k 0)):=by
 simp[oK,h]
theorem sk (l:List Int) (b:Nat) (w:World) (hl:l.length<=4) (hx:w.heap[b]?=some (.cells (oK l) 3 (0,0))) :
  Calls Tryz.prog 229 #[.slice (some (Ad b 0)) l.length l.length] w fun e w'=>e=.returned (.bool (fI l))/\w=w':=by
 have HX:=br hx;have HN:=br (R4 l);have HY:=br (PQ l);obtain⟨R,hR⟩:=ex (fI l);rw[<- hR] at HN HY;rw[<- hR];clear hR hx;go_enter Tryz.func229,Tryz.ntmps229;go_wp2
 go_loop [7] (fun i=>∃k:Nat,k<=l.length/\i=I k/\∀j,j<k->0<=l.getD j 0/\l.getD j 0<8) (fun i=>l.length-(intOf i).toNat)
 case atStart=>exact⟨0,by omega,rfl,fun j hj=>absurd hj (by omega)⟩
 case round =>
  obtain⟨k,hk,rfl,hj⟩:=hrel;have HJ:=br hj;clear hj;by_cases hlt:k<l.length
  · have hc:=aq HX.o k (XT l k hlt);have HG:=br (show l[k]?=some (l.getD k 0) from by simp[hlt]);have HJ2:Hid (0<=l.getD k 0/\l.getD k 0<8->∀j,j<k+1->0<=l.getD j 0/\l.getD j 0<8):=fun h j hjj=>by
     rcases Nat.lt_or_ge j k with g | g
     · exact HJ.o j g
     · obtain rfl:j=k:=by omega
       exact h
    obtain⟨x,hx⟩:=ex (l.getD k 0);rw[<- hx] at hc HG HJ2;clear hx;by_cases h0:0<=x
    · by_cases h1:x<8
      · go_wp2
        go_round
        case rel=>exact⟨k+1,by omega,by go_num,HJ2.o ⟨h0,h1⟩⟩
        case measure=>simp[intOf];omega
      · obtain rfl:=HN.o k x HG.o (fun h=>h1 h.2);go_wp2;go_ret;exact⟨rfl,rfl⟩
    · obtain rfl:=HN.o k x HG.o (fun h=>h0 h.1);go_wp2;go_ret;exact⟨rfl,rfl⟩
  · obtain rfl:k=l.length:=by omega
    obtain rfl:=HY.o (fun j x hx=>by
     have JK:j<l.length:=(UF.1 hx).1;have e:l.getD j 0=x:=by simp[hx]
     rw[<- e];exact HJ.o j JK)
    go_wp2;go_ret;exact⟨rfl,rfl⟩
theorem Hl (n:Int) (w:World):Calls Tryz.prog 230 #[I n] w fun e w'=>e=.returned (.bool (oc n))/\w=w':=by
 by_cases h1:n=1
 · subst h1;go_enter Tryz.func230,Tryz.ntmps230;go_wp2;go_ret;exact⟨rfl,rfl⟩
 · by_cases h2:n=2
   · subst h2;go_enter Tryz.func230,Tryz.ntmps230;go_wp2;go_ret;exact⟨rfl,rfl⟩
   · by_cases h3:n=4
     · subst h3;go_enter Tryz.func230,Tryz.ntmps230;go_wp2;go_ret;exact⟨rfl,rfl⟩
     · rw[show oc n=decide (n=8) from by unfold oc;simp[h1,h2,h3]];go_enter Tryz.func230,Tryz.ntmps230;go_wp2;go_ret;have b1:(n==1)=false:=by simpa using h1
       have b2:(n==2)=false:=by simpa using h2
       have b3:(n==4)=false:=by simpa using h3
       have b4:(n==8)=decide (n=8):=by by_cases h:n=8 <;> simp[h]
       exact⟨by simp only[b1,b2,b3,b4,Bool.false_or];rfl,rfl⟩
open Go.RowKit
theorem L1 (op a b c m:Int) (w:World) (h:op=1∨op=11∨op=15):Calls Tryz.prog 217 #[.agg #[I op,I a,I b,I c,I m]] w fun e w'=>e=.returned (.bool (!fI [a]))/\Below w.heap.size w w':=by
 have HA:Hid (∀V:World,Calls Tryz.prog 229 #[.slice (some (Ad (w.heap.size+1) 0)) 1 1] ((w.alloc (.cells #[I op,I a,I b,I c,I m] 108)).alloc (.cells (oK [a]) 3)) fun e w'=>e=.returned (.bool (fI [a]))/\((w.alloc (.cells #[I op,I a,I b,I c,I m] 108)).alloc (.cells (oK [a]) 3))=w'):=fun V=>sk [a] (w.heap.size+1) _ (by simp) (by have e:=bD (w.alloc (.cells #[I op,I a,I b,I c,I m] 108)) (oK [a]) 3;rw[fM] at e;exact e)
 obtain⟨R,hR⟩:=ex (fI [a]);rw[<- hR] at HA;rw[<- hR];clear hR;rcases h with rfl | rfl | rfl
 all_goals
  go_enter Tryz.func217,Tryz.ntmps217;go_wp2_with fail
  refine(HA.o w).mono ?_;rintro e w' ⟨rfl,rfl⟩;go_wp2;go_ret;exact⟨by simp,((aJ _ _).alloc (aH _) _).alloc (by simp) _⟩
theorem zm (op a b c m:Int) (w:World) (h:op=2∨op=3∨op=4∨op=5∨op=6∨op=7):Calls Tryz.prog 217 #[.agg #[I op,I a,I b,I c,I m]] w fun e w'=>e=.returned (.bool (!fI [a,b,c]))/\Below w.heap.size w w':=by
 have HA:Hid (∀V:World,Calls Tryz.prog 229 #[.slice (some (Ad (w.heap.size+1) 0)) 3 3] ((w.alloc (.cells #[I op,I a,I b,I c,I m] 108)).alloc (.cells (oK [a,b,c]) 3)) fun e w'=>e=.returned (.bool (fI [a,b,c]))/\((w.alloc (.cells #[I op,I a,I b,I c,I m] 108)).alloc (.cells (oK [a,b,c]) 3))=w'):=fun V=>sk [a,b,c] (w.heap.size+1) _ (by simp) (by have e:=bD (w.alloc (.cells #[I op,I a,I b,I c,I m] 108)) (oK [a,b,c]) 3;rw[fM] at e;exact e)
 obtain⟨R,hR⟩:=ex (fI [a,b,c]);rw[<- hR] at HA;rw[<- hR];clear hR;rcases h with rfl | rfl | rfl | rfl | rfl | rfl
 all_goals
  go_enter Tryz.func217,Tryz.ntmps217;go_wp2_with fail
  refine(HA.o w).mono ?_;rintro e w' ⟨rfl,rfl⟩;go_wp2;go_ret;exact⟨by simp,((aJ _ _).alloc (aH _) _).alloc (by simp) _⟩
theorem LZ (op a b c m:Int) (w:World) (h:op=8∨op=13∨op=14):Calls Tryz.prog 217 #[.agg #[I op,I a,I b,I c,I m]] w fun e w'=>e=.returned (.bool (!fI [a,b]))/\Below w.heap.size w w':=by
 have HA:Hid (∀V:World,Calls Tryz.prog 229 #[.slice (some (Ad (w.heap.size+1) 0)) 2 2] ((w.alloc (.cells #[I op,I a,I b,I c,I m] 108)).alloc (.cells (oK [a,b]) 3)) fun e w'=>e=.returned (.bool (fI [a,b]))/\((w.alloc (.cells #[I op,I a,I b,I c,I m] 108)).alloc (.cells (oK [a,b]) 3))=w'):=fun V=>sk [a,b] (w.heap.size+1) _ (by simp) (by have e:=bD (w.alloc (.cells #[I op,I a,I b,I c,I m] 108)) (oK [a,b]) 3;rw[fM] at e;exact e)
 obtain⟨R,hR⟩:=ex (fI [a,b]);rw[<- hR] at HA;rw[<- hR];clear hR;rcases h with rfl | rfl | rfl
 all_goals
  go_enter Tryz.func217,Tryz.ntmps217;go_wp2_with fail
  refine(HA.o w).mono ?_;rintro e w' ⟨rfl,rfl⟩;go_wp2;go_ret;exact⟨by simp,((aJ _ _).alloc (aH _) _).alloc (by simp) _⟩
open Go.RowKit
theorem adf (a b c m:Int) (w:World):Calls Tryz.prog 217 #[.agg #[I 9,I a,I b,I c,I m]] w fun e w'=>e=.returned (.bool (!fI [a,b] || !oc c))/\Below w.heap.size w w':=by
 have HA:Hid (∀V:World,Calls Tryz.prog 229 #[.slice (some (Ad (w.heap.size+1) 0)) 2 2] ((w.alloc (.cells #[I 9,I a,I b,I c,I m] 108)).alloc (.cells (oK [a,b]) 3)) fun e w'=>e=.returned (.bool (fI [a,b]))/\((w.alloc (.cells #[I 9,I a,I b,I c,I m] 108)).alloc (.cells (oK [a,b]) 3))=w'):=fun V=>sk [a,b] (w.heap.size+1) _ (by simp) (by have e:=bD (w.alloc (.cells #[I 9,I a,I b,I c,I m] 108)) (oK [a,b]) 3;rw[fM] at e;exact e)
 have HS:=br (Hl c);obtain⟨R,hR⟩:=ex (fI [a,b]);rw[<- hR] at HA;rw[<- hR];obtain⟨S,hS⟩:=ex (oc c);rw[<- hS] at HS;rw[<- hS];clear hR hS;cases R
 · go_enter Tryz.func217,Tryz.ntmps217;go_wp2_with fail
   refine(HA.o w).mono ?_;rintro e w' ⟨rfl,rfl⟩;go_wp2;go_ret;exact⟨by simp,((aJ _ _).alloc (aH _) _).alloc (by simp) _⟩
 · go_enter Tryz.func217,Tryz.ntmps217;go_wp2_with fail
   refine(HA.o w).mono ?_;rintro e w' ⟨rfl,rfl⟩;go_wp2_with fail
   refine(HS.o _).mono ?_;rintro e w' ⟨rfl,rfl⟩;go_wp2;go_ret;exact⟨by simp,((aJ _ _).alloc (aH _) _).alloc (by simp) _⟩
theorem aas (a b c m:Int) (w:World):Calls Tryz.prog 217 #[.agg #[I 10,I a,I b,I c,I m]] w fun e w'=>e=.returned (.bool (!fI [a,b] || !oc c))/\Below w.heap.size w w':=by
 have HA:Hid (∀V:World,Calls Tryz.prog 229 #[.slice (some (Ad (w.heap.size+1) 0)) 2 2] ((w.alloc (.cells #[I 10,I a,I b,I c,I m] 108)).alloc (.cells (oK [a,b]) 3)) fun e w'=>e=.returned (.bool (fI [a,b]))/\((w.alloc (.cells #[I 10,I a,I b,I c,I m] 108)).alloc (.cells (oK [a,b]) 3))=w'):=fun V=>sk [a,b] (w.heap.size+1) _ (by simp) (by have e:=bD (w.alloc (.cells #[I 10,I a,I b,I c,I m] 108)) (oK [a,b]) 3;rw[fM] at e;exact e)
 have HS:=br (Hl c);obtain⟨R,hR⟩:=ex (fI [a,b]);rw[<- hR] at HA;rw[<- hR];obtain⟨S,hS⟩:=ex (oc c);rw[<- hS] at HS;rw[<- hS];clear hR hS;cases R
 · go_enter Tryz.func217,Tryz.ntmps217;go_wp2_with fail
   refine(HA.o w).mono ?_;rintro e w' ⟨rfl,rfl⟩;go_wp2;go_ret;exact⟨by simp,((aJ _ _).alloc (aH _) _).alloc (by simp) _⟩
 · go_enter Tryz.func217,Tryz.ntmps217;go_wp2_with fail
   refine(HA.o w).mono ?_;rintro e w' ⟨rfl,rfl⟩;go_wp2_with fail
   refine(HS.o _).mono ?_;rintro e w' ⟨rfl,rfl⟩;go_wp2;go_ret;exact⟨by simp,((aJ _ _).alloc (aH _) _).alloc (by simp) _⟩
theorem aar (a b c m:Int) (w:World):Calls Tryz.prog 217 #[.agg #[I 12,I a,I b,I c,I m]] w fun e w'=>e=.returned (.bool false)/\Below w.heap.size w w':=by
 go_enter Tryz.func217,Tryz.ntmps217;go_wp2;go_ret;exact⟨by simp,(aJ _ _).alloc (aH _) _⟩
theorem aaq (a b c m:Int) (w:World):Calls Tryz.prog 217 #[.agg #[I 16,I a,I b,I c,I m]] w fun e w'=>e=.returned (.bool (!decide (1<=m/\m<=6)))/\Below w.heap.size w w':=by
 by_cases h1:1<=m
 · by_cases h2:m<=6
   · have HR:=br (show(!decide (1<=m/\m<=6))=false from by simp[h1,h2]);rw[HR.o];go_enter Tryz.func217,Tryz.ntmps217;go_wp2;go_ret;exact⟨by first | (simp;done) | (simp;omega),(aJ _ _).alloc (aH _) _⟩
   · have HR:=br (show(!decide (1<=m/\m<=6))=true from by simp[h1,h2]);rw[HR.o];go_enter Tryz.func217,Tryz.ntmps217;go_wp2;go_ret;exact⟨by first | (simp;done) | (simp;omega),(aJ _ _).alloc (aH _) _⟩
 · have HR:=br (show(!decide (1<=m/\m<=6))=true from by simp[h1]);rw[HR.o];go_enter Tryz.func217,Tryz.ntmps217;go_wp2;go_ret;exact⟨by simp,(aJ _ _).alloc (aH _) _⟩
theorem ade (op a b c m:Int) (w:World) (h:op<1∨16<op):Calls Tryz.prog 217 #[.agg #[I op,I a,I b,I c,I m]] w fun e w'=>e=.returned (.bool true)/\Below w.heap.size w w':=by
 have n1:¬op=1:=by omega
 have n2:¬op=2:=by omega
 have n3:¬op=3:=by omega
 have n4:¬op=4:=by omega
 have n5:¬op=5:=by omega
 have n6:¬op=6:=by omega
 have n7:¬op=7:=by omega
 have n8:¬op=8:=by omega
 have n9:¬op=9:=by omega
 have n10:¬op=10:=by omega
 have n11:¬op=11:=by omega
 have n12:¬op=12:=by omega
 have n13:¬op=13:=by omega
 have n14:¬op=14:=by omega
 have n15:¬op=15:=by omega
 have n16:¬op=16:=by omega
 clear h;go_enter Tryz.func217,Tryz.ntmps217;go_wp2;go_ret;exact⟨by simp[n12],(aJ _ _).alloc (aH _) _⟩
theorem MM (op:Int):(op<1∨16<op)∨op=1∨op=2∨op=3∨op=4∨op=5∨op=6∨op=7∨op=8∨op=9∨op=10∨op=11∨op=12∨op=13∨op=14∨op=15∨op=16:=by omega
theorem MO (i:dR) (h:i.op<1∨16<i.op):i.bad=true:=by
 unfold dR.bad;rw[au (by omega),au (by omega),au (by omega),au (by omega),au (by omega),au (by omega)]
theorem JU (i:dR) (w:World) (hi:i.fits):Calls Tryz.prog 217 #[.agg i.cells] w fun e w'=>e=.returned (.bool i.bad)/\Below w.heap.size w w':=by
 obtain⟨op,a,b,c,m⟩:=i;obtain⟨-,ha,hb,hc,-⟩:=hi;have e1:=ae5 a ha;have e2:=ae4 a b ha hb;have e3:=ae3 a b c ha hb hc;rcases MM op with h | h | h | h | h | h | h | h | h | h | h | h | h | h | h | h | h
 · rw[MO _ h];exact ade op a b c m w h
 · subst h;have g:=L1 1 a b c m w (by simp);rw[e1] at g;exact g
 · subst h;have g:=zm 2 a b c m w (by simp);rw[e3] at g;exact g
 · subst h;have g:=zm 3 a b c m w (by simp);rw[e3] at g;exact g
 · subst h;have g:=zm 4 a b c m w (by simp);rw[e3] at g;exact g
 · subst h;have g:=zm 5 a b c m w (by simp);rw[e3] at g;exact g
 · subst h;have g:=zm 6 a b c m w (by simp);rw[e3] at g;exact g
 · subst h;have g:=zm 7 a b c m w (by simp);rw[e3] at g;exact g
 · subst h;have g:=LZ 8 a b c m w (by simp);rw[e2] at g;exact g
 · subst h;have g:=adf a b c m w;rw[e2] at g;exact g
 · subst h;have g:=aas a b c m w;rw[e2] at g;exact g
 · subst h;have g:=L1 11 a b c m w (by simp);rw[e1] at g;exact g
 · subst h;have g:=aar a b c m w;exact g
 · subst h;have g:=LZ 13 a b c m w (by simp);rw[e2] at g;exact g
 · subst h;have g:=LZ 14 a b c m w (by simp);rw[e2] at g;exact g
 · subst h;have g:=L1 15 a b c m w (by simp);rw[e1] at g;exact g
 · subst h;have g:=aaq a b c m w;exact g
open Go.RowKit
end Go.Proofs.YtlgoihmkgaaemaaGreat
