import Derived.Test.YtlgoihmkgaaemaaGreatGO30
set_option maxHeartbeats 20000000
set_option linter.unusedVariables false
set_option maxRecDepth 100000
set_option linter.unusedSimpArgs false
namespace Go.Proofs.YtlgoihmkgaaemaaGreat
open Go.RowKit
def jh (N q:bO) (j:Nat):bO:=⟨fun i=>if i<j then N.r i else q.r i,if 8<j then N.pc else q.pc,if 9<j then N.st else q.st,if 10<j then N.cd else q.cd,if 11<j then N.fk else q.fk,if 12<j then N.fa else q.fa⟩
theorem aie (N q:bO):bN (jh N q 0)=bN q:=rfl
theorem agj (N q:bO):bN (jh N q 13)=bN N:=rfl
theorem agi (N q:bO):bN (jh N q 1)=(bN (jh N q 0)).set 0 (I (N.r 0)):=rfl
theorem agh (N q:bO):bN (jh N q 2)=(bN (jh N q 1)).set 1 (I (N.r 1)):=rfl
theorem agf (N q:bO):bN (jh N q 3)=(bN (jh N q 2)).set 2 (I (N.r 2)):=rfl
theorem age (N q:bO):bN (jh N q 4)=(bN (jh N q 3)).set 3 (I (N.r 3)):=rfl
theorem agd (N q:bO):bN (jh N q 5)=(bN (jh N q 4)).set 4 (I (N.r 4)):=rfl
theorem agc (N q:bO):bN (jh N q 6)=(bN (jh N q 5)).set 5 (I (N.r 5)):=rfl
theorem agb (N q:bO):bN (jh N q 7)=(bN (jh N q 6)).set 6 (I (N.r 6)):=rfl
theorem aga (N q:bO):bN (jh N q 8)=(bN (jh N q 7)).set 7 (I (N.r 7)):=rfl
theorem af9 (N q:bO):bN (jh N q 9)=(bN (jh N q 8)).set 8 (I N.pc):=rfl
theorem af8 (N q:bO):bN (jh N q 10)=(bN (jh N q 9)).set 9 (I N.st):=rfl
theorem ael (N q:bO):bN (jh N q 11)=(bN (jh N q 10)).set 10 (I N.cd):=rfl
theorem aek (N q:bO):bN (jh N q 12)=(bN (jh N q 11)).set 11 (I N.fk):=rfl
theorem aej (N q:bO):bN (jh N q 13)=(bN (jh N q 12)).set 12 (I N.fa):=rfl
theorem zC {α:Type} (f:α->List Value) (d:α):∀(l:List α) (k:Nat) (x:α),k<l.length->f x=f (l.getD k d)->(l.set k x).flatMap f=l.flatMap f
 | [],k,x,h,_=>by simp at h
 | a::r,0,x,h,e=>by
  have e':f x=f a:=e;rw[dE,nV,nV,e']
 | a::r,k+1,x,h,e=>by
  rw[dz,nV,nV,zC f d r k x (by simpa using h) e]
theorem iM (ps:List bO) (k:Nat) (hk:k<ps.length) (a b:bO) (j:Nat) (hj:j<13) (v:Value) (e:bN b=(bN a).set j v):(ps.set k b).flatMap bN=((ps.set k a).flatMap bN).set (k*13+j) v:=by
 have:=kL bN 13 pX CA b j v hj (ps.set k a) k (by rw[fC];exact hk) (by
  rw[e,fK,PA hk];rfl)
 rw[qi] at this;exact this
theorem W4 {w:World} {lo pb n cap:Nat} {ps:List bO} (hr:w.ownsRow lo 77 13 (.slice (some (Ad pb 0)) n cap) n (ps.flatMap bN)) (k:Nat) (hk:k<ps.length) (N:bO) :
  (((((((((((((w.setCell (Ad pb (k*13)) (I (N.r 0))).setCell (Ad pb (k*13+1)) (I (N.r 1))).setCell (Ad pb (k*13+2)) (I (N.r 2))).setCell (Ad pb (k*13+3)) (I (N.r 3))).setCell (Ad pb (k*13+4)) (I (N.r 4))).setCell (Ad pb (k*13+5)) (I (N.r 5))).setCell (Ad pb (k*13+6)) (I (N.r 6))).setCell (Ad pb (k*13+7)) (I (N.r 7))).setCell (Ad pb (k*13+8)) (I N.pc)).setCell (Ad pb (k*13+9)) (I N.st)).setCell (Ad pb (k*13+10)) (I N.cd)).setCell (Ad pb (k*13+11)) (I N.fk)).setCell (Ad pb (k*13+12)) (I N.fa)).ownsRow lo 77 13 (.slice (some (Ad pb 0)) n cap) n ((ps.set k N).flatMap bN):=by
 have h0:(ps.set k (jh N (aI ps k) 0)).flatMap bN=ps.flatMap bN:=zC bN CA ps k _ hk (aie N (aI ps k));have h13:(ps.set k N).flatMap bN=(ps.set k (jh N (aI ps k) 13)).flatMap bN:=by
  have:=zC bN CA (ps.set k (jh N (aI ps k) 13)) k N (by rw[fC];exact hk) (by rw[fK,PA hk];exact(agj N (aI ps k)).symm);rw[qi] at this;exact this
 rw[<- h0] at hr;rw[h13];have r0:=fy hr (k*13+0) (I (N.r 0));rw[<- iM ps k hk _ _ 0 (by omega) _ (agi N (aI ps k))] at r0;have r1:=fy r0 (k*13+1) (I (N.r 1));rw[<- iM ps k hk _ _ 1 (by omega) _ (agh N (aI ps k))] at r1;have r2:=fy r1 (k*13+2) (I (N.r 2));rw[<- iM ps k hk _ _ 2 (by omega) _ (agf N (aI ps k))] at r2;have r3:=fy r2 (k*13+3) (I (N.r 3));rw[<- iM ps k hk _ _ 3 (by omega) _ (age N (aI ps k))] at r3;have r4:=fy r3 (k*13+4) (I (N.r 4));rw[<- iM ps k hk _ _ 4 (by omega) _ (agd N (aI ps k))] at r4;have r5:=fy r4 (k*13+5) (I (N.r 5));rw[<- iM ps k hk _ _ 5 (by omega) _ (agc N (aI ps k))] at r5;have r6:=fy r5 (k*13+6) (I (N.r 6));rw[<- iM ps k hk _ _ 6 (by omega) _ (agb N (aI ps k))] at r6;have r7:=fy r6 (k*13+7) (I (N.r 7));rw[<- iM ps k hk _ _ 7 (by omega) _ (aga N (aI ps k))] at r7;have r8:=fy r7 (k*13+8) (I N.pc);rw[<- iM ps k hk _ _ 8 (by omega) _ (af9 N (aI ps k))] at r8;have r9:=fy r8 (k*13+9) (I N.st);rw[<- iM ps k hk _ _ 9 (by omega) _ (af8 N (aI ps k))] at r9;have r10:=fy r9 (k*13+10) (I N.cd);rw[<- iM ps k hk _ _ 10 (by omega) _ (ael N (aI ps k))] at r10;have r11:=fy r10 (k*13+11) (I N.fk);rw[<- iM ps k hk _ _ 11 (by omega) _ (aek N (aI ps k))] at r11;have r12:=fy r11 (k*13+12) (I N.fa);rw[<- iM ps k hk _ _ 12 (by omega) _ (aej N (aI ps k))] at r12;exact r12
theorem ZN {D:Nat->Prop} (w:World) (pb k:Nat) (N:bO) (h:D pb):aC D w (((((((((((((w.setCell (Ad pb (k*13)) (I (N.r 0))).setCell (Ad pb (k*13+1)) (I (N.r 1))).setCell (Ad pb (k*13+2)) (I (N.r 2))).setCell (Ad pb (k*13+3)) (I (N.r 3))).setCell (Ad pb (k*13+4)) (I (N.r 4))).setCell (Ad pb (k*13+5)) (I (N.r 5))).setCell (Ad pb (k*13+6)) (I (N.r 6))).setCell (Ad pb (k*13+7)) (I (N.r 7))).setCell (Ad pb (k*13+8)) (I N.pc)).setCell (Ad pb (k*13+9)) (I N.st)).setCell (Ad pb (k*13+10)) (I N.cd)).setCell (Ad pb (k*13+11)) (I N.fk)).setCell (Ad pb (k*13+12)) (I N.fa)) :=
 (((((((((((((aC.refl D w).trans (aC.set D _ (Ad pb (k*13)) _ h) (fun _ _ g=>g)).trans (aC.set D _ (Ad pb (k*13+1)) _ h) (fun _ _ g=>g)).trans (aC.set D _ (Ad pb (k*13+2)) _ h) (fun _ _ g=>g)).trans (aC.set D _ (Ad pb (k*13+3)) _ h) (fun _ _ g=>g)).trans (aC.set D _ (Ad pb (k*13+4)) _ h) (fun _ _ g=>g)).trans (aC.set D _ (Ad pb (k*13+5)) _ h) (fun _ _ g=>g)).trans (aC.set D _ (Ad pb (k*13+6)) _ h) (fun _ _ g=>g)).trans (aC.set D _ (Ad pb (k*13+7)) _ h) (fun _ _ g=>g)).trans (aC.set D _ (Ad pb (k*13+8)) _ h) (fun _ _ g=>g)).trans (aC.set D _ (Ad pb (k*13+9)) _ h) (fun _ _ g=>g)).trans (aC.set D _ (Ad pb (k*13+10)) _ h) (fun _ _ g=>g)).trans (aC.set D _ (Ad pb (k*13+11)) _ h) (fun _ _ g=>g)).trans (aC.set D _ (Ad pb (k*13+12)) _ h) (fun _ _ g=>g)
section
variable {σ:Type} {Hd:World->(Nat->Prop)->σ->Prop} {Ok:σ->List Bool->Prop} {o:gH σ} {lo mb gb:Nat} {w w':World} {D:Nat->Prop} {vo:Value} {st:df σ}
theorem fH.aoM (C:iC lo mb Hd Ok o) {pb n cap:Nat} (h:fH Hd lo mb gb w D (.slice (some (Ad pb 0)) n cap) vo st) (k:Nat) (hk:k<st.ps.length) (hn:n=st.ps.length) (N:bO) :
  cE Hd lo mb gb w D (.slice (some (Ad pb 0)) n cap) vo { st with ps:=st.ps.set k N } (((((((((((((w.setCell (Ad pb (k*13)) (I (N.r 0))).setCell (Ad pb (k*13+1)) (I (N.r 1))).setCell (Ad pb (k*13+2)) (I (N.r 2))).setCell (Ad pb (k*13+3)) (I (N.r 3))).setCell (Ad pb (k*13+4)) (I (N.r 4))).setCell (Ad pb (k*13+5)) (I (N.r 5))).setCell (Ad pb (k*13+6)) (I (N.r 6))).setCell (Ad pb (k*13+7)) (I (N.r 7))).setCell (Ad pb (k*13+8)) (I N.pc)).setCell (Ad pb (k*13+9)) (I N.st)).setCell (Ad pb (k*13+10)) (I N.cd)).setCell (Ad pb (k*13+11)) (I N.fk)).setCell (Ad pb (k*13+12)) (I N.fa)):=by
 have hb:pY (.slice (some (Ad pb 0)) n cap) pb:=rfl;have kS:aC (fun b=>b=pb) w _:=ZN w pb k N rfl;refine⟨D,.slice (some (Ad pb 0)) n cap,vo,⟨kS.keep h.head (fun e=>h.n2 (e ▸ hb)),C.kp _ _ _ _ _ h.mem kS (fun b hd e=>h.n4 pb hb (e ▸ hd)),?_,kS.row h.outs (fun g hg e=>h.n6 pb hb (e ▸ hg)),h.base,h.n1,h.n2,h.n3,h.n4,h.n5,h.n6⟩,kS.mono (fun b _ e=>.inr (.inr (.inl (e ▸ hb)))),fun b hb=>.inl hb⟩;have hp:=h.procs;rw[<- hn] at hp;show World.ownsRow _ lo _ 13 _ (st.ps.set k N).length _;rw[fC,<- hn];exact W4 hp k hk N
end
open Go.RowKit
variable {σ:Type} {Hd:World->(Nat->Prop)->σ->Prop} {Ok:σ->List Bool->Prop} {o:gH σ} {lo mb gb:Nat} {D:Nat->Prop} {vr vo:Value} {st:df σ}
theorem ago (C:iC lo mb Hd Ok o) (k:Nat) (w:World) (h:fH Hd lo mb gb w D vr vo st) (hok:dh Ok st) (hk:k<st.ps.length) (h1:(aI st.ps k).st=1) :
  Calls Tryz.prog 196 #[.pointer (some (Ad gb 0)),I (k:Int),I 2] w fun e w'=>e=.returned (I (eu o st k 2).1)/\cE Hd lo mb gb w D vr vo (eu o st k 2).2 w':=by
 have HG:=ai h;have HC:=ai C;obtain⟨pb,cap,E6,hpb,hpc,P6⟩:=h.proc k hk;have mD:=ai hpc;have hlv:=iu k hk h1;have hfit:=hok.fit k hk;have N1:=ai hok;have T4:=ai hlv;have RJ:=ai hfit;have Fk:st.ps.length<=4:=by have:=C.ok.few _ _ hok.mem;unfold bV at this;rw[ie] at this;exact this
 have vI:=ai hk;have HH1:=ai h1;have HR:Hid (eu o st k 2=((o.map st.mem k ((aI st.ps k).r 0) ((aI st.ps k).r 1) ((aI st.ps k).r 2)).1,{ st with mem:=(o.map st.mem k ((aI st.ps k).r 0) ((aI st.ps k).r 1) ((aI st.ps k).r 2)).2 })):=rfl;obtain⟨q,hq⟩:=ex (aI st.ps k);rw[<- hq] at mD RJ;have HQ:=ai hq;obtain⟨n,hn⟩:=ex st.ps.length;rw[<- hn] at E6 hk Fk;subst E6;have HN:=ai hn;have Jj:(k:Int)<(n:Int):=by omega
 have g0:w.cell? (Ad gb 0)=some (.iface 183 (.pointer (some (Ad mb 0)))):=aq HG.o.head 0 rfl;have g1:w.cell? (Ad gb 1)=some (.slice (some (Ad pb 0)) n cap):=aq HG.o.head 1 rfl;have hgb:=aJ HG.o.head;have c0:w.cell? (Ad pb (k*13))=some (I (q.r 0)):=mD.o 0 (by omega);have c1:w.cell? (Ad pb (k*13+1))=some (I (q.r 1)):=mD.o 1 (by omega);have c2:w.cell? (Ad pb (k*13+2))=some (I (q.r 2)):=mD.o 2 (by omega);have c3:w.cell? (Ad pb (k*13+3))=some (I (q.r 3)):=mD.o 3 (by omega);have c4:w.cell? (Ad pb (k*13+4))=some (I (q.r 4)):=mD.o 4 (by omega);have c5:w.cell? (Ad pb (k*13+5))=some (I (q.r 5)):=mD.o 5 (by omega);have c6:w.cell? (Ad pb (k*13+6))=some (I (q.r 6)):=mD.o 6 (by omega);have c7:w.cell? (Ad pb (k*13+7))=some (I (q.r 7)):=mD.o 7 (by omega);have jm:=ai ((aK w.heap.size w).alloc (aD _) (.cells #[I (q.r 0),I (q.r 1),I (q.r 2),I (q.r 3),I (q.r 4),I (q.r 5),I (q.r 6),I (q.r 7)] 73));have BX:=ai (bB w #[I (q.r 0),I (q.r 1),I (q.r 2),I (q.r 3),I (q.r 4),I (q.r 5),I (q.r 6),I (q.r 7)] 73);clear hq hn hpc P6 h C mD hok hlv hfit;rw[<- HQ.o] at HR;obtain⟨RR,Nj⟩:=ex (eu o st k 2);rw[<- Nj] at HR ⊢;clear Nj;have hm:=W7 (Ad mb 0);have ha:=ZT (Ad mb 0);go_enter Tryz.func196,Tryz.ntmps196;go_wp2_with fail
 obtain⟨WA,lu⟩:=ex (w.alloc (.cells #[I (q.r 0),I (q.r 1),I (q.r 2),I (q.r 3),I (q.r 4),I (q.r 5),I (q.r 6),I (q.r 7)] 73));rw[<- lu] at jm BX ⊢;obtain⟨rb,J5⟩:=ex w.heap.size;rw[<- J5] at BX ⊢;have MS:=ai J5;have E0:=ai (HG.o.below HC.o jm.o);clear lu J5 c0 c1 c2 c3 c4 c5 c6 c7;have HMC:=ai (HC.o.map WA.drew D st.mem _ k (q.r 0) (q.r 1) (q.r 2) (HC.o.kp _ _ _ (fun _=>False) _ E0.o.mem (aC.drew _ _) (fun _ _ g=>g)) N1.o.mem T4.o (RJ.o.1 0 (by omega)) (RJ.o.1 1 (by omega)));have HS:Hid (∀V,aC D WA V->V.cell? (Ad gb 0)=some (.iface 183 (.pointer (some (Ad mb 0))))/\V.cell? (Ad rb 0)=some (I (q.r 0))/\V.cell? (Ad rb 1)=some (I (q.r 1))/\V.cell? (Ad rb 2)=some (I (q.r 2))):=fun V hb=>by
  have h1:=hb.keep BX.o (fun g=>by have:=HC.o.dom _ _ _ HG.o.mem _ g;have:=MS.o;omega);have h2:=hb.keep E0.o.head E0.o.n1;exact⟨aq h2 0 rfl,aq h1 0 rfl,aq h1 1 rfl,aq h1 2 rfl⟩
 have nU:=ai (HS.o _ (aC.drew _ _));obtain⟨X,hX⟩:=ex (o.map st.mem k (q.r 0) (q.r 1) (q.r 2));rw[<- hX] at HMC HR;clear hX
 go_region_held3 (fun V=>V.cell? (Ad gb 0)=some (.iface 183 (.pointer (some (Ad mb 0))))/\V.cell? (Ad rb 0)=some (I (q.r 0))/\V.cell? (Ad rb 1)=some (I (q.r 1))/\V.cell? (Ad rb 2)=some (I (q.r 2))) (first | exact sk.o | exact nU.o)
  (first | (go_at_call 255;refine HMC.o.mono ?_;rintro e w2 ⟨D2,rfl,hm2,hk2,hd2⟩;have pq:Hid (aC D WA w2):=(aC.drew D WA).trans hk2 (fun _ _ g=>g);have sk:=ai (HS.o _ pq.o);have Gx:=ai hm2;have Xu:=ai hd2;clear hm2 hk2 hd2))
 go_wp2;go_ret;rw[HR.o];exact⟨rfl,cE.after jm.o (cE.Fg HC.o E0.o Gx.o pq.o Xu.o)⟩
theorem agn (C:iC lo mb Hd Ok o) (k:Nat) (w:World) (h:fH Hd lo mb gb w D vr vo st) (hok:dh Ok st) (hk:k<st.ps.length) (h1:(aI st.ps k).st=1) :
  Calls Tryz.prog 196 #[.pointer (some (Ad gb 0)),I (k:Int),I 3] w fun e w'=>e=.returned (I (eu o st k 3).1)/\cE Hd lo mb gb w D vr vo (eu o st k 3).2 w':=by
 have HG:=ai h;have HC:=ai C;obtain⟨pb,cap,E6,hpb,hpc,P6⟩:=h.proc k hk;have mD:=ai hpc;have hlv:=iu k hk h1;have hfit:=hok.fit k hk;have N1:=ai hok;have T4:=ai hlv;have RJ:=ai hfit;have Fk:st.ps.length<=4:=by have:=C.ok.few _ _ hok.mem;unfold bV at this;rw[ie] at this;exact this
 have vI:=ai hk;have HH1:=ai h1;have HR:Hid (eu o st k 3=((o.pC st.mem k ((aI st.ps k).r 0) ((aI st.ps k).r 1)).1,{ st with mem:=(o.pC st.mem k ((aI st.ps k).r 0) ((aI st.ps k).r 1)).2 })):=rfl;obtain⟨q,hq⟩:=ex (aI st.ps k);rw[<- hq] at mD RJ;have HQ:=ai hq;obtain⟨n,hn⟩:=ex st.ps.length;rw[<- hn] at E6 hk Fk;subst E6;have HN:=ai hn;have Jj:(k:Int)<(n:Int):=by omega
 have g0:w.cell? (Ad gb 0)=some (.iface 183 (.pointer (some (Ad mb 0)))):=aq HG.o.head 0 rfl;have g1:w.cell? (Ad gb 1)=some (.slice (some (Ad pb 0)) n cap):=aq HG.o.head 1 rfl;have hgb:=aJ HG.o.head;have c0:w.cell? (Ad pb (k*13))=some (I (q.r 0)):=mD.o 0 (by omega);have c1:w.cell? (Ad pb (k*13+1))=some (I (q.r 1)):=mD.o 1 (by omega);have c2:w.cell? (Ad pb (k*13+2))=some (I (q.r 2)):=mD.o 2 (by omega);have c3:w.cell? (Ad pb (k*13+3))=some (I (q.r 3)):=mD.o 3 (by omega);have c4:w.cell? (Ad pb (k*13+4))=some (I (q.r 4)):=mD.o 4 (by omega);have c5:w.cell? (Ad pb (k*13+5))=some (I (q.r 5)):=mD.o 5 (by omega);have c6:w.cell? (Ad pb (k*13+6))=some (I (q.r 6)):=mD.o 6 (by omega);have c7:w.cell? (Ad pb (k*13+7))=some (I (q.r 7)):=mD.o 7 (by omega);have jm:=ai ((aK w.heap.size w).alloc (aD _) (.cells #[I (q.r 0),I (q.r 1),I (q.r 2),I (q.r 3),I (q.r 4),I (q.r 5),I (q.r 6),I (q.r 7)] 73));have BX:=ai (bB w #[I (q.r 0),I (q.r 1),I (q.r 2),I (q.r 3),I (q.r 4),I (q.r 5),I (q.r 6),I (q.r 7)] 73);clear hq hn hpc P6 h C mD hok hlv hfit;rw[<- HQ.o] at HR;obtain⟨RR,Nj⟩:=ex (eu o st k 3);rw[<- Nj] at HR ⊢;clear Nj;have hm:=Rp (Ad mb 0);have ha:=TJ (Ad mb 0);go_enter Tryz.func196,Tryz.ntmps196;go_wp2_with fail
 obtain⟨WA,lu⟩:=ex (w.alloc (.cells #[I (q.r 0),I (q.r 1),I (q.r 2),I (q.r 3),I (q.r 4),I (q.r 5),I (q.r 6),I (q.r 7)] 73));rw[<- lu] at jm BX ⊢;obtain⟨rb,J5⟩:=ex w.heap.size;rw[<- J5] at BX ⊢;have MS:=ai J5;have E0:=ai (HG.o.below HC.o jm.o);clear lu J5 c0 c1 c2 c3 c4 c5 c6 c7;have HMC:=ai (HC.o.pC WA.drew D st.mem _ k (q.r 0) (q.r 1) (HC.o.kp _ _ _ (fun _=>False) _ E0.o.mem (aC.drew _ _) (fun _ _ g=>g)) N1.o.mem T4.o (RJ.o.1 0 (by omega)) (RJ.o.1 1 (by omega)));have HS:Hid (∀V,aC D WA V->V.cell? (Ad gb 0)=some (.iface 183 (.pointer (some (Ad mb 0))))/\V.cell? (Ad rb 0)=some (I (q.r 0))/\V.cell? (Ad rb 1)=some (I (q.r 1))):=fun V hb=>by
  have h1:=hb.keep BX.o (fun g=>by have:=HC.o.dom _ _ _ HG.o.mem _ g;have:=MS.o;omega);have h2:=hb.keep E0.o.head E0.o.n1;exact⟨aq h2 0 rfl,aq h1 0 rfl,aq h1 1 rfl⟩
 have nU:=ai (HS.o _ (aC.drew _ _));obtain⟨X,hX⟩:=ex (o.pC st.mem k (q.r 0) (q.r 1));rw[<- hX] at HMC HR;clear hX
 go_region_held3 (fun V=>V.cell? (Ad gb 0)=some (.iface 183 (.pointer (some (Ad mb 0))))/\V.cell? (Ad rb 0)=some (I (q.r 0))/\V.cell? (Ad rb 1)=some (I (q.r 1))) (first | exact sk.o | exact nU.o)
  (first | (go_at_call 258;refine HMC.o.mono ?_;rintro e w2 ⟨D2,rfl,hm2,hk2,hd2⟩;have pq:Hid (aC D WA w2):=(aC.drew D WA).trans hk2 (fun _ _ g=>g);have sk:=ai (HS.o _ pq.o);have Gx:=ai hm2;have Xu:=ai hd2;clear hm2 hk2 hd2))
 go_wp2;go_ret;rw[HR.o];exact⟨rfl,cE.after jm.o (cE.Fg HC.o E0.o Gx.o pq.o Xu.o)⟩
theorem agm (C:iC lo mb Hd Ok o) (k:Nat) (w:World) (h:fH Hd lo mb gb w D vr vo st) (hok:dh Ok st) (hk:k<st.ps.length) (h1:(aI st.ps k).st=1) :
  Calls Tryz.prog 196 #[.pointer (some (Ad gb 0)),I (k:Int),I 4] w fun e w'=>e=.returned (I (eu o st k 4).1)/\cE Hd lo mb gb w D vr vo (eu o st k 4).2 w':=by
 have HG:=ai h;have HC:=ai C;obtain⟨pb,cap,E6,hpb,hpc,P6⟩:=h.proc k hk;have mD:=ai hpc;have hlv:=iu k hk h1;have hfit:=hok.fit k hk;have N1:=ai hok;have T4:=ai hlv;have RJ:=ai hfit;have Fk:st.ps.length<=4:=by have:=C.ok.few _ _ hok.mem;unfold bV at this;rw[ie] at this;exact this
 have vI:=ai hk;have HH1:=ai h1;have HR:Hid (eu o st k 4=((o.jx st.mem k ((aI st.ps k).r 0) ((aI st.ps k).r 1) ((aI st.ps k).r 2)).1,{ st with mem:=(o.jx st.mem k ((aI st.ps k).r 0) ((aI st.ps k).r 1) ((aI st.ps k).r 2)).2 })):=rfl;obtain⟨q,hq⟩:=ex (aI st.ps k);rw[<- hq] at mD RJ;have HQ:=ai hq;obtain⟨n,hn⟩:=ex st.ps.length;rw[<- hn] at E6 hk Fk;subst E6;have HN:=ai hn;have Jj:(k:Int)<(n:Int):=by omega
 have g0:w.cell? (Ad gb 0)=some (.iface 183 (.pointer (some (Ad mb 0)))):=aq HG.o.head 0 rfl;have g1:w.cell? (Ad gb 1)=some (.slice (some (Ad pb 0)) n cap):=aq HG.o.head 1 rfl;have hgb:=aJ HG.o.head;have c0:w.cell? (Ad pb (k*13))=some (I (q.r 0)):=mD.o 0 (by omega);have c1:w.cell? (Ad pb (k*13+1))=some (I (q.r 1)):=mD.o 1 (by omega);have c2:w.cell? (Ad pb (k*13+2))=some (I (q.r 2)):=mD.o 2 (by omega);have c3:w.cell? (Ad pb (k*13+3))=some (I (q.r 3)):=mD.o 3 (by omega);have c4:w.cell? (Ad pb (k*13+4))=some (I (q.r 4)):=mD.o 4 (by omega);have c5:w.cell? (Ad pb (k*13+5))=some (I (q.r 5)):=mD.o 5 (by omega);have c6:w.cell? (Ad pb (k*13+6))=some (I (q.r 6)):=mD.o 6 (by omega);have c7:w.cell? (Ad pb (k*13+7))=some (I (q.r 7)):=mD.o 7 (by omega);have jm:=ai ((aK w.heap.size w).alloc (aD _) (.cells #[I (q.r 0),I (q.r 1),I (q.r 2),I (q.r 3),I (q.r 4),I (q.r 5),I (q.r 6),I (q.r 7)] 73));have BX:=ai (bB w #[I (q.r 0),I (q.r 1),I (q.r 2),I (q.r 3),I (q.r 4),I (q.r 5),I (q.r 6),I (q.r 7)] 73);clear hq hn hpc P6 h C mD hok hlv hfit;rw[<- HQ.o] at HR;obtain⟨RR,Nj⟩:=ex (eu o st k 4);rw[<- Nj] at HR ⊢;clear Nj;have hm:=MP (Ad mb 0);have ha:=OV (Ad mb 0);go_enter Tryz.func196,Tryz.ntmps196;go_wp2_with fail
 obtain⟨WA,lu⟩:=ex (w.alloc (.cells #[I (q.r 0),I (q.r 1),I (q.r 2),I (q.r 3),I (q.r 4),I (q.r 5),I (q.r 6),I (q.r 7)] 73));rw[<- lu] at jm BX ⊢;obtain⟨rb,J5⟩:=ex w.heap.size;rw[<- J5] at BX ⊢;have MS:=ai J5;have E0:=ai (HG.o.below HC.o jm.o);clear lu J5 c0 c1 c2 c3 c4 c5 c6 c7;have HMC:=ai (HC.o.jx WA.drew D st.mem _ k (q.r 0) (q.r 1) (q.r 2) (HC.o.kp _ _ _ (fun _=>False) _ E0.o.mem (aC.drew _ _) (fun _ _ g=>g)) N1.o.mem T4.o (RJ.o.1 0 (by omega)) (RJ.o.1 1 (by omega)));have HS:Hid (∀V,aC D WA V->V.cell? (Ad gb 0)=some (.iface 183 (.pointer (some (Ad mb 0))))/\V.cell? (Ad rb 0)=some (I (q.r 0))/\V.cell? (Ad rb 1)=some (I (q.r 1))/\V.cell? (Ad rb 2)=some (I (q.r 2))):=fun V hb=>by
  have h1:=hb.keep BX.o (fun g=>by have:=HC.o.dom _ _ _ HG.o.mem _ g;have:=MS.o;omega);have h2:=hb.keep E0.o.head E0.o.n1;exact⟨aq h2 0 rfl,aq h1 0 rfl,aq h1 1 rfl,aq h1 2 rfl⟩
 have nU:=ai (HS.o _ (aC.drew _ _));obtain⟨X,hX⟩:=ex (o.jx st.mem k (q.r 0) (q.r 1) (q.r 2));rw[<- hX] at HMC HR;clear hX
 go_region_held3 (fun V=>V.cell? (Ad gb 0)=some (.iface 183 (.pointer (some (Ad mb 0))))/\V.cell? (Ad rb 0)=some (I (q.r 0))/\V.cell? (Ad rb 1)=some (I (q.r 1))/\V.cell? (Ad rb 2)=some (I (q.r 2))) (first | exact sk.o | exact nU.o)
  (first | (go_at_call 256;refine HMC.o.mono ?_;rintro e w2 ⟨D2,rfl,hm2,hk2,hd2⟩;have pq:Hid (aC D WA w2):=(aC.drew D WA).trans hk2 (fun _ _ g=>g);have sk:=ai (HS.o _ pq.o);have Gx:=ai hm2;have Xu:=ai hd2;clear hm2 hk2 hd2))
 go_wp2;go_ret;rw[HR.o];exact⟨rfl,cE.after jm.o (cE.Fg HC.o E0.o Gx.o pq.o Xu.o)⟩
open Go.RowKit
variable {σ:Type} {Hd:World->(Nat->Prop)->σ->Prop} {Ok:σ->List Bool->Prop} {o:gH σ} {lo mb gb:Nat} {D:Nat->Prop} {vr vo:Value} {st:df σ}
theorem agl (C:iC lo mb Hd Ok o) (k:Nat) (w:World) (h:fH Hd lo mb gb w D vr vo st) (hok:dh Ok st) (hk:k<st.ps.length) (h1:(aI st.ps k).st=1) :
  Calls Tryz.prog 196 #[.pointer (some (Ad gb 0)),I (k:Int),I 5] w fun e w'=>e=.returned (I (eu o st k 5).1)/\cE Hd lo mb gb w D vr vo (eu o st k 5).2 w':=by
 have HG:=ai h;have HC:=ai C;obtain⟨pb,cap,E6,hpb,hpc,P6⟩:=h.proc k hk;have mD:=ai hpc;have hlv:=iu k hk h1;have hfit:=hok.fit k hk;have N1:=ai hok;have T4:=ai hlv;have RJ:=ai hfit;have Fk:st.ps.length<=4:=by have:=C.ok.few _ _ hok.mem;unfold bV at this;rw[ie] at this;exact this
 have vI:=ai hk;have HH1:=ai h1;have HFK:=ai (fun V (hV:Below w.heap.size w V)=>ZO C k V (h.below C hV) hok hk h1);obtain⟨q,hq⟩:=ex (aI st.ps k);rw[<- hq] at mD RJ;have HQ:=ai hq;obtain⟨n,hn⟩:=ex st.ps.length;rw[<- hn] at E6 hk Fk;subst E6;have HN:=ai hn;have Jj:(k:Int)<(n:Int):=by omega
 have g0:w.cell? (Ad gb 0)=some (.iface 183 (.pointer (some (Ad mb 0)))):=aq HG.o.head 0 rfl;have g1:w.cell? (Ad gb 1)=some (.slice (some (Ad pb 0)) n cap):=aq HG.o.head 1 rfl;have hgb:=aJ HG.o.head;have c0:w.cell? (Ad pb (k*13))=some (I (q.r 0)):=mD.o 0 (by omega);have c1:w.cell? (Ad pb (k*13+1))=some (I (q.r 1)):=mD.o 1 (by omega);have c2:w.cell? (Ad pb (k*13+2))=some (I (q.r 2)):=mD.o 2 (by omega);have c3:w.cell? (Ad pb (k*13+3))=some (I (q.r 3)):=mD.o 3 (by omega);have c4:w.cell? (Ad pb (k*13+4))=some (I (q.r 4)):=mD.o 4 (by omega);have c5:w.cell? (Ad pb (k*13+5))=some (I (q.r 5)):=mD.o 5 (by omega);have c6:w.cell? (Ad pb (k*13+6))=some (I (q.r 6)):=mD.o 6 (by omega);have c7:w.cell? (Ad pb (k*13+7))=some (I (q.r 7)):=mD.o 7 (by omega);have jm:=ai ((aK w.heap.size w).alloc (aD _) (.cells #[I (q.r 0),I (q.r 1),I (q.r 2),I (q.r 3),I (q.r 4),I (q.r 5),I (q.r 6),I (q.r 7)] 73));have BX:=ai (bB w #[I (q.r 0),I (q.r 1),I (q.r 2),I (q.r 3),I (q.r 4),I (q.r 5),I (q.r 6),I (q.r 7)] 73);clear hq hn hpc P6 h C mD hok hlv hfit;obtain⟨RR,Nj⟩:=ex (eu o st k 5);rw[<- Nj] at HFK ⊢;clear Nj;go_enter Tryz.func196,Tryz.ntmps196;go_wp2_with (go_at_call 218;refine(HFK.o _ jm.o).mono ?_;rintro e w1 ⟨rfl,Qc⟩;have HL1:=ai Qc;clear Qc)
 go_ret;exact⟨rfl,cE.after jm.o HL1.o⟩
theorem agk (C:iC lo mb Hd Ok o) (k:Nat) (w:World) (h:fH Hd lo mb gb w D vr vo st) (hok:dh Ok st) (hk:k<st.ps.length) (h1:(aI st.ps k).st=1) :
  Calls Tryz.prog 196 #[.pointer (some (Ad gb 0)),I (k:Int),I 6] w fun e w'=>e=.returned (I (eu o st k 6).1)/\cE Hd lo mb gb w D vr vo (eu o st k 6).2 w':=by
 have HG:=ai h;have HC:=ai C;obtain⟨pb,cap,E6,hpb,hpc,P6⟩:=h.proc k hk;have mD:=ai hpc;have hlv:=iu k hk h1;have hfit:=hok.fit k hk;have N1:=ai hok;have T4:=ai hlv;have RJ:=ai hfit;have Fk:st.ps.length<=4:=by have:=C.ok.few _ _ hok.mem;unfold bV at this;rw[ie] at this;exact this
 have vI:=ai hk;have HH1:=ai h1;have HR:Hid (eu o st k 6=(0,{ st with mem:=o.drop st.mem k })):=rfl;have HMC:=ai (fun V (hV:Below w.heap.size w V)=>C.drop V D st.mem _ k (h.below C hV).mem hok.mem (iu k hk h1));obtain⟨q,hq⟩:=ex (aI st.ps k);rw[<- hq] at mD RJ;have HQ:=ai hq;obtain⟨n,hn⟩:=ex st.ps.length;rw[<- hn] at E6 hk Fk;subst E6;have HN:=ai hn;have Jj:(k:Int)<(n:Int):=by omega
 have g0:w.cell? (Ad gb 0)=some (.iface 183 (.pointer (some (Ad mb 0)))):=aq HG.o.head 0 rfl;have g1:w.cell? (Ad gb 1)=some (.slice (some (Ad pb 0)) n cap):=aq HG.o.head 1 rfl;have hgb:=aJ HG.o.head;have c0:w.cell? (Ad pb (k*13))=some (I (q.r 0)):=mD.o 0 (by omega);have c1:w.cell? (Ad pb (k*13+1))=some (I (q.r 1)):=mD.o 1 (by omega);have c2:w.cell? (Ad pb (k*13+2))=some (I (q.r 2)):=mD.o 2 (by omega);have c3:w.cell? (Ad pb (k*13+3))=some (I (q.r 3)):=mD.o 3 (by omega);have c4:w.cell? (Ad pb (k*13+4))=some (I (q.r 4)):=mD.o 4 (by omega);have c5:w.cell? (Ad pb (k*13+5))=some (I (q.r 5)):=mD.o 5 (by omega);have c6:w.cell? (Ad pb (k*13+6))=some (I (q.r 6)):=mD.o 6 (by omega);have c7:w.cell? (Ad pb (k*13+7))=some (I (q.r 7)):=mD.o 7 (by omega);have jm:=ai ((aK w.heap.size w).alloc (aD _) (.cells #[I (q.r 0),I (q.r 1),I (q.r 2),I (q.r 3),I (q.r 4),I (q.r 5),I (q.r 6),I (q.r 7)] 73));have BX:=ai (bB w #[I (q.r 0),I (q.r 1),I (q.r 2),I (q.r 3),I (q.r 4),I (q.r 5),I (q.r 6),I (q.r 7)] 73);clear hq hn hpc P6 h C mD hok hlv hfit;obtain⟨RR,Nj⟩:=ex (eu o st k 6);rw[<- Nj] at HR ⊢;clear Nj;have hm:=IW (Ad mb 0);have ha:=LF (Ad mb 0);go_enter Tryz.func196,Tryz.ntmps196;go_wp2_with (go_at_call 252;refine(HMC.o _ jm.o).mono ?_;rintro e w2 ⟨D2,rfl,hm2,hk2,hd2⟩;have Bz:=ai (cE.Fg HC.o (HG.o.below HC.o jm.o) hm2 hk2 hd2);clear hm2 hk2 hd2)
 go_ret;rw[HR.o];exact⟨rfl,cE.after jm.o Bz.o⟩
theorem agp (C:iC lo mb Hd Ok o) (k:Nat) (w:World) (h:fH Hd lo mb gb w D vr vo st) (hok:dh Ok st) (hk:k<st.ps.length) (h1:(aI st.ps k).st=1) :
  Calls Tryz.prog 196 #[.pointer (some (Ad gb 0)),I (k:Int),I 1] w fun e w'=>e=.returned (I (eu o st k 1).1)/\cE Hd lo mb gb w D vr vo (eu o st k 1).2 w':=by
 have HG:=ai h;have HC:=ai C;obtain⟨pb,cap,E6,hpb,hpc,P6⟩:=h.proc k hk;have mD:=ai hpc;have hlv:=iu k hk h1;have hfit:=hok.fit k hk;have N1:=ai hok;have T4:=ai hlv;have RJ:=ai hfit;have Fk:st.ps.length<=4:=by have:=C.ok.few _ _ hok.mem;unfold bV at this;rw[ie] at this;exact this
 have vI:=ai hk;have HH1:=ai h1;have HR:Hid (eu o st k 1=(0,{ st with out:=st.out++[⟨(k:Int),(aI st.ps k).r 0⟩] })):=rfl;obtain⟨q,hq⟩:=ex (aI st.ps k);rw[<- hq] at mD RJ;have HQ:=ai hq;obtain⟨n,hn⟩:=ex st.ps.length;rw[<- hn] at E6 hk Fk;subst E6;have HN:=ai hn;have Jj:(k:Int)<(n:Int):=by omega
 have g0:w.cell? (Ad gb 0)=some (.iface 183 (.pointer (some (Ad mb 0)))):=aq HG.o.head 0 rfl;have g1:w.cell? (Ad gb 1)=some (.slice (some (Ad pb 0)) n cap):=aq HG.o.head 1 rfl;have hgb:=aJ HG.o.head;have c0:w.cell? (Ad pb (k*13))=some (I (q.r 0)):=mD.o 0 (by omega);have c1:w.cell? (Ad pb (k*13+1))=some (I (q.r 1)):=mD.o 1 (by omega);have c2:w.cell? (Ad pb (k*13+2))=some (I (q.r 2)):=mD.o 2 (by omega);have c3:w.cell? (Ad pb (k*13+3))=some (I (q.r 3)):=mD.o 3 (by omega);have c4:w.cell? (Ad pb (k*13+4))=some (I (q.r 4)):=mD.o 4 (by omega);have c5:w.cell? (Ad pb (k*13+5))=some (I (q.r 5)):=mD.o 5 (by omega);have c6:w.cell? (Ad pb (k*13+6))=some (I (q.r 6)):=mD.o 6 (by omega);have c7:w.cell? (Ad pb (k*13+7))=some (I (q.r 7)):=mD.o 7 (by omega);have jm:=ai ((aK w.heap.size w).alloc (aD _) (.cells #[I (q.r 0),I (q.r 1),I (q.r 2),I (q.r 3),I (q.r 4),I (q.r 5),I (q.r 6),I (q.r 7)] 73));have BX:=ai (bB w #[I (q.r 0),I (q.r 1),I (q.r 2),I (q.r 3),I (q.r 4),I (q.r 5),I (q.r 6),I (q.r 7)] 73);clear hq hn hpc P6 h C mD hok hlv hfit;rw[<- HQ.o] at HR;obtain⟨RR,Nj⟩:=ex (eu o st k 1);rw[<- Nj] at HR ⊢;clear Nj;have Fj:=N1.o.out;obtain⟨no,hno⟩:=ex st.out.length;rw[<- hno] at Fj;have uJ:=ai hno;clear hno;go_enter Tryz.func196,Tryz.ntmps196;go_wp2_with fail
 obtain⟨WA,lu⟩:=ex (w.alloc (.cells #[I (q.r 0),I (q.r 1),I (q.r 2),I (q.r 3),I (q.r 4),I (q.r 5),I (q.r 6),I (q.r 7)] 73));rw[<- lu] at jm BX ⊢;obtain⟨rb,J5⟩:=ex w.heap.size;rw[<- J5] at BX ⊢;have E0:=ai (HG.o.below HC.o jm.o);obtain⟨ao,co,hvo,_,_⟩:=bg E0.o.outs;rw[<- uJ.o] at hvo;have HVO:=ai hvo;have e2:WA.cell? (Ad gb 2)=some vo:=aq E0.o.head 2 rfl;have e2a:∀ob,(WA.alloc ob).cell? (Ad gb 2)=some vo:=fun ob=>aq (bk E0.o.head ob) 2 rfl
 have x0:WA.cell? (Ad rb 0)=some (I (q.r 0)):=aq BX.o 0 rfl;clear hvo lu J5 c0 c1 c2 c3 c4 c5 c6 c7 g0 g1;obtain⟨i0,hin,hz0,hz1,hz2⟩:=jy U4;have Eu:=ai hin;have Ia:=ai hz0;have E9:=ai hz1;have yZ:=ai hz2;have HOW:Hid ((WA.alloc (.cells #[I (k:Int),I (q.r 0)] 91)).drew.ownsRow lo 91 2 vo no (st.out.flatMap iQ)):=by
  have:=E0.o.outs.alloc (.cells #[I (k:Int),I (q.r 0)] 91);rw[<- uJ.o] at this;exact this
 have HLO:Hid (lo<=(WA.alloc (.cells #[I (k:Int),I (q.r 0)] 91)).drew.heap.size):=by show lo<=(WA.alloc _).heap.size;rw[gh];have:=E0.o.base;have:=aJ E0.o.head;omega
 have HNW:Hid (0<1->∃ad,some ((Ad WA.heap.size 0):Addr)=some ad/\∀j u,([I (k:Int),I (q.r 0)]:List Value)[j]?=some u->((WA.alloc (.cells #[I (k:Int),I (q.r 0)] 91)).drew).cell? (ad.add j)=some u):=fun _=>⟨_,rfl,GR (w:=(WA.alloc (.cells #[I (k:Int),I (q.r 0)] 91)).drew) (bB WA #[I (k:Int),I (q.r 0)] 91)⟩
 clear hin hz0 hz1 hz2
 go_region_law (refine Aq (P:=Tryz.prog) rfl _ _ 32 rfl lo 91 i0 (.agg #[I 0,I 0]) 2 16 Tryz.underlying32 Eu.o Ia.o E9.o yZ.o rfl (by decide) vo no (st.out.flatMap iQ) rfl HOW.o (some (Ad WA.heap.size 0)) 1 1 [I (k:Int),I (q.r 0)] rfl rfl HNW.o (by intro u hu;simp at hu;rcases hu with rfl | rfl <;> rfl) (by unfold maxLen;omega) (by omega) HLO.o ?_;intro v3 w4 hown hgr hat;obtain⟨a4,c4,rfl,_⟩:=bg hown;have agA:=ai hown;have agN:Hid ((WA.alloc _).grownBy w4 _):=⟨hgr.os,hgr.tape,hgr.output,hgr.size,hgr.block⟩;have akQ:=ai hat;have hM4:=H6 (bk E0.o.head (.cells #[I (k:Int),I (q.r 0)] 91)) agN.o (fun e=>E0.o.n3 e.symm);have y1:w4.cell? (Ad gb 2)=some vo:=aq hM4 2 rfl;have y2:w4.frozen? (Ad gb 2)=false:=aO hM4 2;clear hown hgr hat hM4)
 all_goals
  go_wp2;go_ret;have hp:=E0.o.alv HC.o (x:=⟨(k:Int),q.r 0⟩) agN.o (by rw[<- uJ.o];exact agA.o) akQ.o;rw[HR.o];exact⟨rfl,cE.after jm.o hp⟩
theorem ZP (C:iC lo mb Hd Ok o) (k:Nat) (c:Int) (w:World) (h:fH Hd lo mb gb w D vr vo st) (hok:dh Ok st) (hk:k<st.ps.length) (h1:(aI st.ps k).st=1) (hc:1<=c/\c<=6) :
  Calls Tryz.prog 196 #[.pointer (some (Ad gb 0)),I (k:Int),I c] w fun e w'=>e=.returned (I (eu o st k c).1)/\cE Hd lo mb gb w D vr vo (eu o st k c).2 w':=by
 rcases(show c=1∨c=2∨c=3∨c=4∨c=5∨c=6 by omega) with rfl | rfl | rfl | rfl | rfl | rfl
 · exact agp C k w h hok hk h1
 · exact ago C k w h hok hk h1
 · exact agn C k w h hok hk h1
 · exact agm C k w h hok hk h1
 · exact agl C k w h hok hk h1
 · exact agk C k w h hok hk h1
open Go.RowKit
theorem br {p:Prop} (h:p):Hid p:=h
theorem Ie (s:ByteArray) (w:World) (h:s.size=8) :
  Calls Tryz.prog 193 #[.string s] w fun e w'=>e=.returned (.tuple #[.agg (dU.cells (ik s)),I 0])/\Below w.heap.size w w':=by
 have hG:∀V,Calls Tryz.prog 195 #[.string (s.extract 4 8)] V fun e w'=>e=.returned (.tuple #[I (wrap64 (Lib.leNat (s.data.toList.drop 4))),I 0])/\V=w':=fun V=>by
  have h1:(s.extract 4 8).size=4:=by simp;omega
  have h2:=Sc (s.extract 4 8) V (by omega) (by omega);rw[Oz s h] at h2;exact h2
 have h4:=Qm s h;have hv:dU.cells (ik s)=#[I (sA s 0),I (sA s 1),I (sA s 2),I (sA s 3),I (vt ((Lib.leNat (s.data.toList.drop 4):Nat):Int))]:=rfl;have alI:=adU ((Lib.leNat (s.data.toList.drop 4):Nat):Int) (by omega) (by omega);have hsr:=Ig ((Lib.leNat (s.data.toList.drop 4):Nat):Int) (by omega) (by omega);rw[hv];have he:wrap64 ((Lib.leNat (s.data.toList.drop 4):Nat):Int)=((Lib.leNat (s.data.toList.drop 4):Nat):Int):=by unfold wrap64;omega
 rw[he] at hG;obtain⟨L,hL⟩:∃L:Int,L=((Lib.leNat (s.data.toList.drop 4):Nat):Int):=⟨_,rfl⟩;rw[<- hL] at hG alI hsr;rw[<- hL];obtain⟨R,hR⟩:∃R:Int,R=vt L:=⟨_,rfl⟩;rw[<- hR] at alI hsr;rw[<- hR];have HG:=br hG;have g0:=Hk s 0 (by omega);have g1:=Hk s 1 (by omega);have g2:=Hk s 2 (by omega);have g3:=Hk s 3 (by omega);have hr:IntKind.i64.wrap R=R:=vN _ (by omega);have u0:=DC s 0;have u1:=DC s 1;have u2:=DC s 2;have u3:=DC s 3;clear hG hL hR hv he h4;go_enter Tryz.func193,Tryz.ntmps193;go_wp2_with fail
 refine(HG.o _).mono ?_;rintro e w1 ⟨rfl,rfl⟩;go_wp2_with fail
 go_region;go_wp2;refine bI (v:=.tuple #[.agg #[I (sA s 0),I (sA s 1),I (sA s 2),I (sA s 3),I R],I 0]) (by simp[results,Tryz.results193,go_sem]) rfl ?_;exact⟨rfl,((aK _ _).alloc (aD _) _).drew⟩
open Go.RowKit
open Go.RowKit
def o7 (l:List Int):Array Value:=(l.map fun x=>I x).toArray
theorem YK (l:List Int) (k:Nat) (h:k<l.length):(o7 l)[k]?=some (I (l.getD k 0)):=by
 simp[o7,h]
theorem sS (l:List Int) (b:Nat) (w:World) (hl:l.length<=4) (hx:w.heap[b]?=some (.cells (o7 l) 3 (0,0))) :
  Calls Tryz.prog 229 #[.slice (some (Ad b 0)) l.length l.length] w fun e w'=>e=.returned (.bool (fT l))/\w=w':=by
 have HX:=br hx;have HN:=br (SL l);have HY:=br (Qn l);obtain⟨R,hR⟩:=ex (fT l);rw[<- hR] at HN HY;rw[<- hR];clear hR hx;go_enter Tryz.func229,Tryz.ntmps229;go_wp2
 go_loop [7] (fun i=>∃k:Nat,k<=l.length/\i=I k/\∀j,j<k->0<=l.getD j 0/\l.getD j 0<8) (fun i=>l.length-(intOf i).toNat)
 case atStart=>exact⟨0,by omega,rfl,fun j hj=>absurd hj (by omega)⟩
 case round =>
  obtain⟨k,hk,rfl,hj⟩:=hrel;have HJ:=br hj;clear hj;by_cases hlt:k<l.length
  · have hc:=aq HX.o k (YK l k hlt);have HG:=br (show l[k]?=some (l.getD k 0) from by simp[hlt]);have HJ2:Hid (0<=l.getD k 0/\l.getD k 0<8->∀j,j<k+1->0<=l.getD j 0/\l.getD j 0<8):=fun h j hjj=>by
     rcases Nat.lt_or_ge j k with g | g
     · exact HJ.o j g
     · obtain rfl:j=k:=by omega
       exact h
    obtain⟨x,hx⟩:=ex (l.getD k 0);rw[<- hx] at hc HG HJ2;clear hx;by_cases h0:0<=x
    · by_cases h1:x<8
      · go_wp2
        go_round
        case rel=>exact⟨k+1,by omega,by go_num,HJ2.o ⟨h0,h1⟩⟩
        case measure=>simp[intOf];omega
      · obtain rfl:=HN.o k x HG.o (fun h=>h1 h.2);go_wp2;go_ret;exact⟨rfl,rfl⟩
    · obtain rfl:=HN.o k x HG.o (fun h=>h0 h.1);go_wp2;go_ret;exact⟨rfl,rfl⟩
  · obtain rfl:k=l.length:=by omega
    obtain rfl:=HY.o (fun j x hx=>by
     have J6:j<l.length:=(Vv.1 hx).1;have e:l.getD j 0=x:=by simp[hx]
     rw[<- e];exact HJ.o j J6)
    go_wp2;go_ret;exact⟨rfl,rfl⟩
theorem Ic (n:Int) (w:World):Calls Tryz.prog 230 #[I n] w fun e w'=>e=.returned (.bool (oD n))/\w=w':=by
 by_cases h1:n=1
 · subst h1;go_enter Tryz.func230,Tryz.ntmps230;go_wp2;go_ret;exact⟨rfl,rfl⟩
 · by_cases h2:n=2
   · subst h2;go_enter Tryz.func230,Tryz.ntmps230;go_wp2;go_ret;exact⟨rfl,rfl⟩
   · by_cases h3:n=4
     · subst h3;go_enter Tryz.func230,Tryz.ntmps230;go_wp2;go_ret;exact⟨rfl,rfl⟩
     · rw[show oD n=decide (n=8) from by unfold oD;simp[h1,h2,h3]];go_enter Tryz.func230,Tryz.ntmps230;go_wp2;go_ret;have b1:(n==1)=false:=by simpa using h1
       have b2:(n==2)=false:=by simpa using h2
       have b3:(n==4)=false:=by simpa using h3
       have b4:(n==8)=decide (n=8):=by by_cases h:n=8 <;> simp[h]
       exact⟨by simp only[b1,b2,b3,b4,Bool.false_or];rfl,rfl⟩
open Go.RowKit
theorem Mu (op a b c m:Int) (w:World) (h:op=1∨op=11∨op=15):Calls Tryz.prog 217 #[.agg #[I op,I a,I b,I c,I m]] w fun e w'=>e=.returned (.bool (!fT [a]))/\Below w.heap.size w w':=by
 have HA:Hid (∀V:World,Calls Tryz.prog 229 #[.slice (some (Ad (w.heap.size+1) 0)) 1 1] ((w.alloc (.cells #[I op,I a,I b,I c,I m] 108)).alloc (.cells (o7 [a]) 3)) fun e w'=>e=.returned (.bool (fT [a]))/\((w.alloc (.cells #[I op,I a,I b,I c,I m] 108)).alloc (.cells (o7 [a]) 3))=w'):=fun V=>sS [a] (w.heap.size+1) _ (by simp) (by have e:=bB (w.alloc (.cells #[I op,I a,I b,I c,I m] 108)) (o7 [a]) 3;rw[gh] at e;exact e)
 obtain⟨R,hR⟩:=ex (fT [a]);rw[<- hR] at HA;rw[<- hR];clear hR;rcases h with rfl | rfl | rfl
 all_goals
  go_enter Tryz.func217,Tryz.ntmps217;go_wp2_with fail
  refine(HA.o w).mono ?_;rintro e w' ⟨rfl,rfl⟩;go_wp2;go_ret;exact⟨by simp,((aK _ _).alloc (aD _) _).alloc (by simp) _⟩
theorem zN (op a b c m:Int) (w:World) (h:op=2∨op=3∨op=4∨op=5∨op=6∨op=7):Calls Tryz.prog 217 #[.agg #[I op,I a,I b,I c,I m]] w fun e w'=>e=.returned (.bool (!fT [a,b,c]))/\Below w.heap.size w w':=by
 have HA:Hid (∀V:World,Calls Tryz.prog 229 #[.slice (some (Ad (w.heap.size+1) 0)) 3 3] ((w.alloc (.cells #[I op,I a,I b,I c,I m] 108)).alloc (.cells (o7 [a,b,c]) 3)) fun e w'=>e=.returned (.bool (fT [a,b,c]))/\((w.alloc (.cells #[I op,I a,I b,I c,I m] 108)).alloc (.cells (o7 [a,b,c]) 3))=w'):=fun V=>sS [a,b,c] (w.heap.size+1) _ (by simp) (by have e:=bB (w.alloc (.cells #[I op,I a,I b,I c,I m] 108)) (o7 [a,b,c]) 3;rw[gh] at e;exact e)
 obtain⟨R,hR⟩:=ex (fT [a,b,c]);rw[<- hR] at HA;rw[<- hR];clear hR;rcases h with rfl | rfl | rfl | rfl | rfl | rfl
 all_goals
  go_enter Tryz.func217,Tryz.ntmps217;go_wp2_with fail
  refine(HA.o w).mono ?_;rintro e w' ⟨rfl,rfl⟩;go_wp2;go_ret;exact⟨by simp,((aK _ _).alloc (aD _) _).alloc (by simp) _⟩
theorem Mt (op a b c m:Int) (w:World) (h:op=8∨op=13∨op=14):Calls Tryz.prog 217 #[.agg #[I op,I a,I b,I c,I m]] w fun e w'=>e=.returned (.bool (!fT [a,b]))/\Below w.heap.size w w':=by
 have HA:Hid (∀V:World,Calls Tryz.prog 229 #[.slice (some (Ad (w.heap.size+1) 0)) 2 2] ((w.alloc (.cells #[I op,I a,I b,I c,I m] 108)).alloc (.cells (o7 [a,b]) 3)) fun e w'=>e=.returned (.bool (fT [a,b]))/\((w.alloc (.cells #[I op,I a,I b,I c,I m] 108)).alloc (.cells (o7 [a,b]) 3))=w'):=fun V=>sS [a,b] (w.heap.size+1) _ (by simp) (by have e:=bB (w.alloc (.cells #[I op,I a,I b,I c,I m] 108)) (o7 [a,b]) 3;rw[gh] at e;exact e)
 obtain⟨R,hR⟩:=ex (fT [a,b]);rw[<- hR] at HA;rw[<- hR];clear hR;rcases h with rfl | rfl | rfl
 all_goals
  go_enter Tryz.func217,Tryz.ntmps217;go_wp2_with fail
  refine(HA.o w).mono ?_;rintro e w' ⟨rfl,rfl⟩;go_wp2;go_ret;exact⟨by simp,((aK _ _).alloc (aD _) _).alloc (by simp) _⟩
open Go.RowKit
theorem adT (a b c m:Int) (w:World):Calls Tryz.prog 217 #[.agg #[I 9,I a,I b,I c,I m]] w fun e w'=>e=.returned (.bool (!fT [a,b] || !oD c))/\Below w.heap.size w w':=by
 have HA:Hid (∀V:World,Calls Tryz.prog 229 #[.slice (some (Ad (w.heap.size+1) 0)) 2 2] ((w.alloc (.cells #[I 9,I a,I b,I c,I m] 108)).alloc (.cells (o7 [a,b]) 3)) fun e w'=>e=.returned (.bool (fT [a,b]))/\((w.alloc (.cells #[I 9,I a,I b,I c,I m] 108)).alloc (.cells (o7 [a,b]) 3))=w'):=fun V=>sS [a,b] (w.heap.size+1) _ (by simp) (by have e:=bB (w.alloc (.cells #[I 9,I a,I b,I c,I m] 108)) (o7 [a,b]) 3;rw[gh] at e;exact e)
 have HS:=br (Ic c);obtain⟨R,hR⟩:=ex (fT [a,b]);rw[<- hR] at HA;rw[<- hR];obtain⟨S,hS⟩:=ex (oD c);rw[<- hS] at HS;rw[<- hS];clear hR hS;cases R
 · go_enter Tryz.func217,Tryz.ntmps217;go_wp2_with fail
   refine(HA.o w).mono ?_;rintro e w' ⟨rfl,rfl⟩;go_wp2;go_ret;exact⟨by simp,((aK _ _).alloc (aD _) _).alloc (by simp) _⟩
 · go_enter Tryz.func217,Tryz.ntmps217;go_wp2_with fail
   refine(HA.o w).mono ?_;rintro e w' ⟨rfl,rfl⟩;go_wp2_with fail
   refine(HS.o _).mono ?_;rintro e w' ⟨rfl,rfl⟩;go_wp2;go_ret;exact⟨by simp,((aK _ _).alloc (aD _) _).alloc (by simp) _⟩
theorem abd (a b c m:Int) (w:World):Calls Tryz.prog 217 #[.agg #[I 10,I a,I b,I c,I m]] w fun e w'=>e=.returned (.bool (!fT [a,b] || !oD c))/\Below w.heap.size w w':=by
 have HA:Hid (∀V:World,Calls Tryz.prog 229 #[.slice (some (Ad (w.heap.size+1) 0)) 2 2] ((w.alloc (.cells #[I 10,I a,I b,I c,I m] 108)).alloc (.cells (o7 [a,b]) 3)) fun e w'=>e=.returned (.bool (fT [a,b]))/\((w.alloc (.cells #[I 10,I a,I b,I c,I m] 108)).alloc (.cells (o7 [a,b]) 3))=w'):=fun V=>sS [a,b] (w.heap.size+1) _ (by simp) (by have e:=bB (w.alloc (.cells #[I 10,I a,I b,I c,I m] 108)) (o7 [a,b]) 3;rw[gh] at e;exact e)
 have HS:=br (Ic c);obtain⟨R,hR⟩:=ex (fT [a,b]);rw[<- hR] at HA;rw[<- hR];obtain⟨S,hS⟩:=ex (oD c);rw[<- hS] at HS;rw[<- hS];clear hR hS;cases R
 · go_enter Tryz.func217,Tryz.ntmps217;go_wp2_with fail
   refine(HA.o w).mono ?_;rintro e w' ⟨rfl,rfl⟩;go_wp2;go_ret;exact⟨by simp,((aK _ _).alloc (aD _) _).alloc (by simp) _⟩
 · go_enter Tryz.func217,Tryz.ntmps217;go_wp2_with fail
   refine(HA.o w).mono ?_;rintro e w' ⟨rfl,rfl⟩;go_wp2_with fail
   refine(HS.o _).mono ?_;rintro e w' ⟨rfl,rfl⟩;go_wp2;go_ret;exact⟨by simp,((aK _ _).alloc (aD _) _).alloc (by simp) _⟩
theorem abc (a b c m:Int) (w:World):Calls Tryz.prog 217 #[.agg #[I 12,I a,I b,I c,I m]] w fun e w'=>e=.returned (.bool false)/\Below w.heap.size w w':=by
 go_enter Tryz.func217,Tryz.ntmps217;go_wp2;go_ret;exact⟨by simp,(aK _ _).alloc (aD _) _⟩
theorem abb (a b c m:Int) (w:World):Calls Tryz.prog 217 #[.agg #[I 16,I a,I b,I c,I m]] w fun e w'=>e=.returned (.bool (!decide (1<=m/\m<=6)))/\Below w.heap.size w w':=by
 by_cases h1:1<=m
 · by_cases h2:m<=6
   · have HR:=br (show(!decide (1<=m/\m<=6))=false from by simp[h1,h2]);rw[HR.o];go_enter Tryz.func217,Tryz.ntmps217;go_wp2;go_ret;exact⟨by first | (simp;done) | (simp;omega),(aK _ _).alloc (aD _) _⟩
   · have HR:=br (show(!decide (1<=m/\m<=6))=true from by simp[h1,h2]);rw[HR.o];go_enter Tryz.func217,Tryz.ntmps217;go_wp2;go_ret;exact⟨by first | (simp;done) | (simp;omega),(aK _ _).alloc (aD _) _⟩
 · have HR:=br (show(!decide (1<=m/\m<=6))=true from by simp[h1]);rw[HR.o];go_enter Tryz.func217,Tryz.ntmps217;go_wp2;go_ret;exact⟨by simp,(aK _ _).alloc (aD _) _⟩
theorem adS (op a b c m:Int) (w:World) (h:op<1∨16<op):Calls Tryz.prog 217 #[.agg #[I op,I a,I b,I c,I m]] w fun e w'=>e=.returned (.bool true)/\Below w.heap.size w w':=by
 have n1:¬op=1:=by omega
 have n2:¬op=2:=by omega
 have n3:¬op=3:=by omega
 have n4:¬op=4:=by omega
 have n5:¬op=5:=by omega
 have n6:¬op=6:=by omega
 have n7:¬op=7:=by omega
 have n8:¬op=8:=by omega
 have n9:¬op=9:=by omega
 have n10:¬op=10:=by omega
 have n11:¬op=11:=by omega
 have n12:¬op=12:=by omega
 have n13:¬op=13:=by omega
 have n14:¬op=14:=by omega
 have n15:¬op=15:=by omega
 have n16:¬op=16:=by omega
 clear h;go_enter Tryz.func217,Tryz.ntmps217;go_wp2;go_ret;exact⟨by simp[n12],(aK _ _).alloc (aD _) _⟩
theorem Nk (op:Int):(op<1∨16<op)∨op=1∨op=2∨op=3∨op=4∨op=5∨op=6∨op=7∨op=8∨op=9∨op=10∨op=11∨op=12∨op=13∨op=14∨op=15∨op=16:=by omega
theorem Nn (i:dU) (h:i.op<1∨16<i.op):i.bad=true:=by
 unfold dU.bad;rw[au (by omega),au (by omega),au (by omega),au (by omega),au (by omega),au (by omega)]
theorem Kh (i:dU) (w:World) (hi:i.fits):Calls Tryz.prog 217 #[.agg i.cells] w fun e w'=>e=.returned (.bool i.bad)/\Below w.heap.size w w':=by
 obtain⟨op,a,b,c,m⟩:=i;obtain⟨-,ha,hb,hc,-⟩:=hi;have e1:=afO a ha;have e2:=afN a b ha hb;have e3:=afM a b c ha hb hc;rcases Nk op with h | h | h | h | h | h | h | h | h | h | h | h | h | h | h | h | h
 · rw[Nn _ h];exact adS op a b c m w h
 · subst h;have g:=Mu 1 a b c m w (by simp);rw[e1] at g;exact g
 · subst h;have g:=zN 2 a b c m w (by simp);rw[e3] at g;exact g
 · subst h;have g:=zN 3 a b c m w (by simp);rw[e3] at g;exact g
 · subst h;have g:=zN 4 a b c m w (by simp);rw[e3] at g;exact g
 · subst h;have g:=zN 5 a b c m w (by simp);rw[e3] at g;exact g
 · subst h;have g:=zN 6 a b c m w (by simp);rw[e3] at g;exact g
 · subst h;have g:=zN 7 a b c m w (by simp);rw[e3] at g;exact g
 · subst h;have g:=Mt 8 a b c m w (by simp);rw[e2] at g;exact g
 · subst h;have g:=adT a b c m w;rw[e2] at g;exact g
 · subst h;have g:=abd a b c m w;rw[e2] at g;exact g
 · subst h;have g:=Mu 11 a b c m w (by simp);rw[e1] at g;exact g
 · subst h;have g:=abc a b c m w;exact g
 · subst h;have g:=Mt 13 a b c m w (by simp);rw[e2] at g;exact g
 · subst h;have g:=Mt 14 a b c m w (by simp);rw[e2] at g;exact g
 · subst h;have g:=Mu 15 a b c m w (by simp);rw[e1] at g;exact g
 · subst h;have g:=abb a b c m w;exact g
open Go.RowKit
end Go.Proofs.YtlgoihmkgaaemaaGreat
