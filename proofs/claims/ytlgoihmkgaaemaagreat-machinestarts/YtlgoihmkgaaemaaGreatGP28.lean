import Derived.Test.YtlgoihmkgaaemaaGreatGP26
set_option maxHeartbeats 20000000
set_option linter.unusedVariables false
set_option maxRecDepth 100000
set_option linter.unusedSimpArgs false
namespace Go.Proofs.YtlgoihmkgaaemaaGreat
open Go.RowKit Tryz
variable {σ:Type} {Hd:World->(Nat->Prop)->σ->Prop} {Ok:σ->List Bool->Prop} {o:iZ σ} {lo mb gb:Nat} {D:Nat->Prop} {vr vo:Value} {st:dC σ}
theorem abf (C:jc lo mb Hd Ok o) (k:Nat) (w:World) (h:gD Hd lo mb gb w D vr vo st) (hok:fZ Ok st) (hk:k<st.ps.length) (h1:(aR st.ps k).st=1) :
  Calls prog 218 #[.pointer (some (Ad gb 0)),I (k:Int)] w λe w'=>e=.returned (I (iw o st k 5).1)/\cY Hd lo mb gb w D vr vo (iw o st k 5).2 w':=by
 have HG:=ai h;have HC:=ai C;have ZG:=ai (C.fork w D st.mem _ k h.mem hok.mem (jn k hk h1));have g0:w.cell? (Ad gb 0)=some (.iface 183 (.pointer (some (Ad mb 0)))):=aA h.head 0 rfl;have af:=Ul (Ad mb 0);have a8:=Yq (Ad mb 0);have a9:k<9223372036854775807:=by have:=C.ok.few _ _ hok.mem;unfold cI at this;rw[jw] at this;omega
 obtain⟨fv,J⟩:=ex ((o.fork st.mem k).1);have F:Hid (iw o st k 5=if fv=0 then ((st.ps.length:Int),{ st with mem:=(o.fork st.mem k).2,ps:=st.ps++[aR st.ps k] }) else (-1,{ st with mem:=(o.fork st.mem k).2 })):=by rw[J];exact rfl
 rw[<- J] at ZG;generalize (o.fork st.mem k).2=fm at ZG F;generalize iw o st k 5=R at F ⊢;clear h C J;by_cases hf0:fv=0
 . subst hf0;have HR:Hid (R=((st.ps.length:Int),{ st with mem:=fm,ps:=st.ps++[aR st.ps k] })):=by rw[F.o,aQ rfl];exact rfl
   clear F;go_enter func218,ntmps218;go_wp2_with (go_at_call 253;refine ZG.o.mono ?_;rintro e w1 ⟨D1,rfl,vW,A,y⟩;have ZF:=ai (HG.o.turn HC.o vW A y);have Dg:=ai A;have a3:=ai y;clear vW A y;have e1:=aA (v:=vr) ZF.o.head 1 rfl);obtain⟨pb,cap,Jt,ac,N,Wu⟩:=ZF.o.proc k hk;have U:=ai Jt;have pK:=ai N;have L:=ai HR.o;obtain⟨q,hq⟩:=ex (aR st.ps k);simp only at pK;rw[<- hq] at pK L;have Ho:st.ps.length<=4:=by have:=HC.o.ok.few _ _ hok.mem;unfold cI at this;rw[jw] at this;exact this
   obtain⟨n,hn⟩:=ex st.ps.length;simp only at U Jt;rw[<- hn] at U Jt Ho hk;have HN:=ai hn;subst Jt;have Il:(k:Int)<(n:Int):=by omega
   clear hq hn N Wu HR hok h1;have c0:w1.cell? (Ad pb (k*13))=some (I (q.r 0)):=pK.o 0 ω;have c1:w1.cell? (Ad pb (k*13+1))=some (I (q.r 1)):=pK.o 1 ω;have c2:w1.cell? (Ad pb (k*13+2))=some (I (q.r 2)):=pK.o 2 ω;have c3:w1.cell? (Ad pb (k*13+3))=some (I (q.r 3)):=pK.o 3 ω;have c4:w1.cell? (Ad pb (k*13+4))=some (I (q.r 4)):=pK.o 4 ω;have c5:w1.cell? (Ad pb (k*13+5))=some (I (q.r 5)):=pK.o 5 ω;have c6:w1.cell? (Ad pb (k*13+6))=some (I (q.r 6)):=pK.o 6 ω;have c7:w1.cell? (Ad pb (k*13+7))=some (I (q.r 7)):=pK.o 7 ω;have c8:w1.cell? (Ad pb (k*13+8))=some (I q.pc):=pK.o 8 ω;have c9:w1.cell? (Ad pb (k*13+9))=some (I q.st):=pK.o 9 ω;have ag:w1.cell? (Ad pb (k*13+10))=some (I q.cd):=pK.o 10 ω;have ab:w1.cell? (Ad pb (k*13+11))=some (I q.fk):=pK.o 11 ω;have a7:w1.cell? (Ad pb (k*13+12))=some (I q.fa):=pK.o 12 ω;have aa:∀ob,(w1.alloc ob).cell? (Ad gb 1)=some (.slice (some (Ad pb 0)) n cap):=λob=>aA (bB ZF.o.head ob) 1 rfl
   obtain⟨i0,M,X,W,Q⟩:=mQ VV;have PE:=ai M;have a0:=ai X;have ZA:=ai W;have Ih:=ai Q;have a1:Hid ((w1.alloc (.cells #[I (q.r 0),I (q.r 1),I (q.r 2),I (q.r 3),I (q.r 4),I (q.r 5),I (q.r 6),I (q.r 7),I q.pc,I q.st,I q.cd,I q.fk,I q.fa] 77)).ownsRow lo 77 13 (.slice (some (Ad pb 0)) n cap) n (st.ps.flatMap bV)):=by
    have:=ZF.o.procs.alloc (.cells #[I (q.r 0),I (q.r 1),I (q.r 2),I (q.r 3),I (q.r 4),I (q.r 5),I (q.r 6),I (q.r 7),I q.pc,I q.st,I q.cd,I q.fk,I q.fa] 77);simp only at this;rw[<- HN.o] at this;exact this
   have a2:Hid (lo<=(w1.alloc (.cells #[I (q.r 0),I (q.r 1),I (q.r 2),I (q.r 3),I (q.r 4),I (q.r 5),I (q.r 6),I (q.r 7),I q.pc,I q.st,I q.cd,I q.fk,I q.fa] 77)).heap.size):=by show _<=_;rw[fp];have:=ZF.o.base;have:=aM ZF.o.head;omega
   have Z:Hid (0<1->∃ad,some ((Ad w1.heap.size 0):Addr)=some ad/\∀j u,(bV q)[j]?=some u->((w1.alloc (.cells #[I (q.r 0),I (q.r 1),I (q.r 2),I (q.r 3),I (q.r 4),I (q.r 5),I (q.r 6),I (q.r 7),I q.pc,I q.st,I q.cd,I q.fk,I q.fa] 77)).drew).cell? (ad.add j)=some u):=λ_=>⟨_,rfl,EW (w:=(w1.alloc (.cells #[I (q.r 0),I (q.r 1),I (q.r 2),I (q.r 3),I (q.r 4),I (q.r 5),I (q.r 6),I (q.r 7),I q.pc,I q.st,I q.cd,I q.fk,I q.fa] 77)).drew) (bG w1 #[I (q.r 0),I (q.r 1),I (q.r 2),I (q.r 3),I (q.r 4),I (q.r 5),I (q.r 6),I (q.r 7),I q.pc,I q.st,I q.cd,I q.fk,I q.fa] 77)⟩
   clear M X W Q pK
   go_region_law (refine Bd (P:=prog) rfl _ _ 31 rfl lo 77 i0 (.agg #[I 0,I 0,I 0,I 0,I 0,I 0,I 0,I 0,I 0,I 0,I 0,I 0,I 0]) 13 104 underlying31 PE.o a0.o ZA.o Ih.o rfl Δ (.slice (some (Ad pb 0)) n cap) n (st.ps.flatMap bV) rfl a1.o.drew (some (Ad w1.heap.size 0)) 1 1 (bV q) rfl rfl Z.o (by intro u hu;simp[bV] at hu;rcases hu with rfl | rfl | rfl | rfl | rfl | rfl | rfl | rfl | rfl | rfl | rfl | rfl | rfl <;> rfl) (by unfold maxLen;omega) ω a2.o ?_;intro v3 w4 G B T;obtain⟨a4,c4,rfl,_⟩:=bh G;have a5:=ai G;have O:Hid ((w1.alloc _).grownBy w4 _):=⟨B.os,B.tape,B.output,B.size,B.block⟩;have a6:=ai T;have K:=EY (bB ZF.o.head (.cells #[I (q.r 0),I (q.r 1),I (q.r 2),I (q.r 3),I (q.r 4),I (q.r 5),I (q.r 6),I (q.r 7),I q.pc,I q.st,I q.cd,I q.fk,I q.fa] 77)) O.o (λe=>ZF.o.n2 e.symm);have y1:w4.cell? (Ad gb 1)=some (.slice (some (Ad pb 0)) n cap):=aA K 1 rfl;have y2:w4.frozen? (Ad gb 1)=false:=br K 1;clear G B T K)
   all_goals
    go_wp2;go_ret;have hp:=ZF.o.apr HC.o (p:=q) O.o (by show w4.ownsRow lo _ 13 _ (st.ps.length+1) (st.ps.flatMap bV++bV q);rw[<- HN.o];exact a5.o) a6.o;rw[L.o];refine⟨by rw[<- HN.o];go_num,?_⟩;obtain⟨hA,hB⟩:aI (kV gb D (.slice (some (Ad pb 0)) n cap) vo) w w1/\∀b,kV gb D1 (.slice (some (Ad pb 0)) n cap) vo b->kV gb D (.slice (some (Ad pb 0)) n cap) vo b\/w.heap.size<=b:=⟨Dg.o.mono (λb _ g=>.inr (.inl g)),λb hb=>by
     rcases hb with g | g | g | g
     . exact .inl (.inl g)
     . rcases a3.o b g with x | x
       . exact .inl (.inr (.inl x))
       exact .inr x
     . exact .inl (.inr (.inr (.inl g)))
     exact .inl (.inr (.inr (.inr g)))⟩
    exact cY.trans hA hB hp
 have HR:Hid (R=(-1,{ st with mem:=fm })):=by rw[F.o,aH hf0];exact rfl
 have ae:(fv==0)=false:=by rw[jx];exact hf0
 clear F hf0;go_enter func218,ntmps218;go_wp2_with (go_at_call 253;refine ZG.o.mono ?_;rintro e w1 ⟨D1,rfl,vW,A,y⟩;have Y:=ai (cY.ML HC.o HG.o vW A y);clear vW A y);go_ret;rw[HR.o];exact⟨rfl,Y.o⟩
open Go.RowKit Tryz
def jm (N q:bQ) (j:Nat):bQ:=⟨λi=>if i<j then N.r i else q.r i,if 8<j then N.pc else q.pc,if 9<j then N.st else q.st,if 10<j then N.cd else q.cd,if 11<j then N.fk else q.fk,if 12<j then N.fa else q.fa⟩
theorem akQ (N q:bQ):bV (jm N q 0)=bV q:=rfl
theorem ais (N q:bQ):bV (jm N q 13)=bV N:=rfl
theorem air (N q:bQ):bV (jm N q 1)=(bV (jm N q 0)).set 0 (I (N.r 0)):=rfl
theorem aiq (N q:bQ):bV (jm N q 2)=(bV (jm N q 1)).set 1 (I (N.r 1)):=rfl
theorem aip (N q:bQ):bV (jm N q 3)=(bV (jm N q 2)).set 2 (I (N.r 2)):=rfl
theorem aio (N q:bQ):bV (jm N q 4)=(bV (jm N q 3)).set 3 (I (N.r 3)):=rfl
theorem ain (N q:bQ):bV (jm N q 5)=(bV (jm N q 4)).set 4 (I (N.r 4)):=rfl
theorem aim (N q:bQ):bV (jm N q 6)=(bV (jm N q 5)).set 5 (I (N.r 5)):=rfl
theorem ail (N q:bQ):bV (jm N q 7)=(bV (jm N q 6)).set 6 (I (N.r 6)):=rfl
theorem aik (N q:bQ):bV (jm N q 8)=(bV (jm N q 7)).set 7 (I (N.r 7)):=rfl
theorem aij (N q:bQ):bV (jm N q 9)=(bV (jm N q 8)).set 8 (I N.pc):=rfl
theorem aii (N q:bQ):bV (jm N q 10)=(bV (jm N q 9)).set 9 (I N.st):=rfl
theorem agu (N q:bQ):bV (jm N q 11)=(bV (jm N q 10)).set 10 (I N.cd):=rfl
theorem agt (N q:bQ):bV (jm N q 12)=(bV (jm N q 11)).set 11 (I N.fk):=rfl
theorem ags (N q:bQ):bV (jm N q 13)=(bV (jm N q 12)).set 12 (I N.fa):=rfl
theorem zZ {α:Type} (f:α->List Value) (d:α):∀(l:List α) (k:Nat) (x:α),k<l.length->f x=f (l.getD k d)->(l.set k x).flatMap f=l.flatMap f
 | [],k,x,h,_=>by simp at h
 | a::r,0,x,h,e=>by
  have e':f x=f a:=e;rw[eI,oF,oF,e']
 | a::r,k+1,x,h,e=>by
  rw[ed,oF,oF,zZ f d r k x (by simpa using h) e]
theorem iQ (ps:List bQ) (k:Nat) (hk:k<ps.length) (a b:bQ) (j:Nat) (hj:j<13) (v:Value) (e:bV b=(bV a).set j v):(ps.set k b).flatMap bV=((ps.set k a).flatMap bV).set (k*13+j) v:=by
 have:=kW bV 13 sL C5 b j v hj (ps.set k a) k (by rw[gX];exact hk) (by
  rw[e,jI,Qp hk];rfl)
 rw[rD] at this;exact this
theorem Yo {w:World} {lo pb n cap:Nat} {ps:List bQ} (hr:w.ownsRow lo 77 13 (.slice (some (Ad pb 0)) n cap) n (ps.flatMap bV)) (k:Nat) (hk:k<ps.length) (N:bQ) :
  (((((((((((((w.setCell (Ad pb (k*13)) (I (N.r 0))).setCell (Ad pb (k*13+1)) (I (N.r 1))).setCell (Ad pb (k*13+2)) (I (N.r 2))).setCell (Ad pb (k*13+3)) (I (N.r 3))).setCell (Ad pb (k*13+4)) (I (N.r 4))).setCell (Ad pb (k*13+5)) (I (N.r 5))).setCell (Ad pb (k*13+6)) (I (N.r 6))).setCell (Ad pb (k*13+7)) (I (N.r 7))).setCell (Ad pb (k*13+8)) (I N.pc)).setCell (Ad pb (k*13+9)) (I N.st)).setCell (Ad pb (k*13+10)) (I N.cd)).setCell (Ad pb (k*13+11)) (I N.fk)).setCell (Ad pb (k*13+12)) (I N.fa)).ownsRow lo 77 13 (.slice (some (Ad pb 0)) n cap) n ((ps.set k N).flatMap bV):=by
 have h0:(ps.set k (jm N (aR ps k) 0)).flatMap bV=ps.flatMap bV:=zZ bV C5 ps k _ hk (akQ N (aR ps k));have y:(ps.set k N).flatMap bV=(ps.set k (jm N (aR ps k) 13)).flatMap bV:=by
  have:=zZ bV C5 (ps.set k (jm N (aR ps k) 13)) k N (by rw[gX];exact hk) (by rw[jI,Qp hk];exact(ais N (aR ps k)).symm);rw[rD] at this;exact this
 rw[<- h0] at hr;rw[y];have r0:=fI hr (k*13+0) (I (N.r 0));rw[<- iQ ps k hk _ _ 0 ω _ (air N (aR ps k))] at r0;have r1:=fI r0 (k*13+1) (I (N.r 1));rw[<- iQ ps k hk _ _ 1 ω _ (aiq N (aR ps k))] at r1;have r2:=fI r1 (k*13+2) (I (N.r 2));rw[<- iQ ps k hk _ _ 2 ω _ (aip N (aR ps k))] at r2;have r3:=fI r2 (k*13+3) (I (N.r 3));rw[<- iQ ps k hk _ _ 3 ω _ (aio N (aR ps k))] at r3;have r4:=fI r3 (k*13+4) (I (N.r 4));rw[<- iQ ps k hk _ _ 4 ω _ (ain N (aR ps k))] at r4;have r5:=fI r4 (k*13+5) (I (N.r 5));rw[<- iQ ps k hk _ _ 5 ω _ (aim N (aR ps k))] at r5;have r6:=fI r5 (k*13+6) (I (N.r 6));rw[<- iQ ps k hk _ _ 6 ω _ (ail N (aR ps k))] at r6;have r7:=fI r6 (k*13+7) (I (N.r 7));rw[<- iQ ps k hk _ _ 7 ω _ (aik N (aR ps k))] at r7;have r8:=fI r7 (k*13+8) (I N.pc);rw[<- iQ ps k hk _ _ 8 ω _ (aij N (aR ps k))] at r8;have r9:=fI r8 (k*13+9) (I N.st);rw[<- iQ ps k hk _ _ 9 ω _ (aii N (aR ps k))] at r9;have h:=fI r9 (k*13+10) (I N.cd);rw[<- iQ ps k hk _ _ 10 ω _ (agu N (aR ps k))] at h;have q:=fI h (k*13+11) (I N.fk);rw[<- iQ ps k hk _ _ 11 ω _ (agt N (aR ps k))] at q;have b:=fI q (k*13+12) (I N.fa);rw[<- iQ ps k hk _ _ 12 ω _ (ags N (aR ps k))] at b;exact b
theorem abe {D:Nat->Prop} (w:World) (pb k:Nat) (N:bQ) (h:D pb):aI D w (((((((((((((w.setCell (Ad pb (k*13)) (I (N.r 0))).setCell (Ad pb (k*13+1)) (I (N.r 1))).setCell (Ad pb (k*13+2)) (I (N.r 2))).setCell (Ad pb (k*13+3)) (I (N.r 3))).setCell (Ad pb (k*13+4)) (I (N.r 4))).setCell (Ad pb (k*13+5)) (I (N.r 5))).setCell (Ad pb (k*13+6)) (I (N.r 6))).setCell (Ad pb (k*13+7)) (I (N.r 7))).setCell (Ad pb (k*13+8)) (I N.pc)).setCell (Ad pb (k*13+9)) (I N.st)).setCell (Ad pb (k*13+10)) (I N.cd)).setCell (Ad pb (k*13+11)) (I N.fk)).setCell (Ad pb (k*13+12)) (I N.fa)) :=
 (((((((((((((aI.refl D w).trans (aI.set D _ (Ad pb (k*13)) _ h) (λ_ _ g=>g)).trans (aI.set D _ (Ad pb (k*13+1)) _ h) (λ_ _ g=>g)).trans (aI.set D _ (Ad pb (k*13+2)) _ h) (λ_ _ g=>g)).trans (aI.set D _ (Ad pb (k*13+3)) _ h) (λ_ _ g=>g)).trans (aI.set D _ (Ad pb (k*13+4)) _ h) (λ_ _ g=>g)).trans (aI.set D _ (Ad pb (k*13+5)) _ h) (λ_ _ g=>g)).trans (aI.set D _ (Ad pb (k*13+6)) _ h) (λ_ _ g=>g)).trans (aI.set D _ (Ad pb (k*13+7)) _ h) (λ_ _ g=>g)).trans (aI.set D _ (Ad pb (k*13+8)) _ h) (λ_ _ g=>g)).trans (aI.set D _ (Ad pb (k*13+9)) _ h) (λ_ _ g=>g)).trans (aI.set D _ (Ad pb (k*13+10)) _ h) (λ_ _ g=>g)).trans (aI.set D _ (Ad pb (k*13+11)) _ h) (λ_ _ g=>g)).trans (aI.set D _ (Ad pb (k*13+12)) _ h) (λ_ _ g=>g)
section
variable {σ:Type} {Hd:World->(Nat->Prop)->σ->Prop} {Ok:σ->List Bool->Prop} {o:iZ σ} {lo mb gb:Nat} {w w':World} {D:Nat->Prop} {vo:Value} {st:dC σ}
theorem gD.asL (C:jc lo mb Hd Ok o) {pb n cap:Nat} (h:gD Hd lo mb gb w D (.slice (some (Ad pb 0)) n cap) vo st) (k:Nat) (hk:k<st.ps.length) (hn:n=st.ps.length) (N:bQ) :
  cY Hd lo mb gb w D (.slice (some (Ad pb 0)) n cap) vo { st with ps:=st.ps.set k N } (((((((((((((w.setCell (Ad pb (k*13)) (I (N.r 0))).setCell (Ad pb (k*13+1)) (I (N.r 1))).setCell (Ad pb (k*13+2)) (I (N.r 2))).setCell (Ad pb (k*13+3)) (I (N.r 3))).setCell (Ad pb (k*13+4)) (I (N.r 4))).setCell (Ad pb (k*13+5)) (I (N.r 5))).setCell (Ad pb (k*13+6)) (I (N.r 6))).setCell (Ad pb (k*13+7)) (I (N.r 7))).setCell (Ad pb (k*13+8)) (I N.pc)).setCell (Ad pb (k*13+9)) (I N.st)).setCell (Ad pb (k*13+10)) (I N.cd)).setCell (Ad pb (k*13+11)) (I N.fk)).setCell (Ad pb (k*13+12)) (I N.fa)):=by
 have hb:qz (.slice (some (Ad pb 0)) n cap) pb:=rfl;have kS:aI (λb=>b=pb) w _:=abe w pb k N rfl;refine⟨D,.slice (some (Ad pb 0)) n cap,vo,⟨kS.keep h.head (λe=>h.n2 (e ▸ hb)),C.kp _ _ _ _ _ h.mem kS (λb hd e=>h.n4 pb hb (e ▸ hd)),?_,kS.row h.outs (λg hg e=>h.n6 pb hb (e ▸ hg)),h.base,h.n1,h.n2,h.n3,h.n4,h.n5,h.n6⟩,kS.mono (λb _ e=>.inr (.inr (.inl (e ▸ hb)))),λb hb=>.inl hb⟩;have hp:=h.procs;rw[<- hn] at hp;show World.ownsRow _ lo _ 13 _ (st.ps.set k N).length _;rw[gX,<- hn];exact Yo hp k hk N
end
open Go.RowKit Tryz
variable {σ:Type} {Hd:World->(Nat->Prop)->σ->Prop} {Ok:σ->List Bool->Prop} {o:iZ σ} {lo mb gb:Nat} {D:Nat->Prop} {vr vo:Value} {st:dC σ}
theorem JU (c:Int) (hc:c=2\/c=3\/c=4) (C:jc lo mb Hd Ok o) (k:Nat) (w:World) (h:gD Hd lo mb gb w D vr vo st) (hok:fZ Ok st) (hk:k<st.ps.length) (h1:(aR st.ps k).st=1) :
  Calls prog 196 #[.pointer (some (Ad gb 0)),I (k:Int),I c] w λe w'=>e=.returned (I (iw o st k c).1)/\cY Hd lo mb gb w D vr vo (iw o st k c).2 w':=by
 have HG:=ai h;have HC:=ai C;obtain⟨pb,cap,Jt,N,J,Wu⟩:=h.proc k hk;have pK:=ai J;have L:=jn k hk h1;have y:=hok.fit k hk;have QB:=ai hok;have YI:=ai L;have OI:=ai y;have Ho:st.ps.length<=4:=by have:=C.ok.few _ _ hok.mem;unfold cI at this;rw[jw] at this;exact this
 have Dg:=ai hk;have Q:=ai h1;obtain⟨q,hq⟩:=ex (aR st.ps k);rw[<- hq] at pK OI;have HQ:=ai hq;obtain⟨n,hn⟩:=ex st.ps.length;rw[<- hn] at Jt hk Ho;subst Jt;have HN:=ai hn;have Il:(k:Int)<(n:Int):=by omega
 have g0:w.cell? (Ad gb 0)=some (.iface 183 (.pointer (some (Ad mb 0)))):=aA HG.o.head 0 rfl;have g1:w.cell? (Ad gb 1)=some (.slice (some (Ad pb 0)) n cap):=aA HG.o.head 1 rfl;have O:=aM HG.o.head;have c0:w.cell? (Ad pb (k*13))=some (I (q.r 0)):=pK.o 0 ω;have c1:w.cell? (Ad pb (k*13+1))=some (I (q.r 1)):=pK.o 1 ω;have c2:w.cell? (Ad pb (k*13+2))=some (I (q.r 2)):=pK.o 2 ω;have c3:w.cell? (Ad pb (k*13+3))=some (I (q.r 3)):=pK.o 3 ω;have c4:w.cell? (Ad pb (k*13+4))=some (I (q.r 4)):=pK.o 4 ω;have c5:w.cell? (Ad pb (k*13+5))=some (I (q.r 5)):=pK.o 5 ω;have c6:w.cell? (Ad pb (k*13+6))=some (I (q.r 6)):=pK.o 6 ω;have c7:w.cell? (Ad pb (k*13+7))=some (I (q.r 7)):=pK.o 7 ω;have mh:=ai ((aN w.heap.size w).alloc (aJ _) (.cells #[I (q.r 0),I (q.r 1),I (q.r 2),I (q.r 3),I (q.r 4),I (q.r 5),I (q.r 6),I (q.r 7)] 73));have BX:=ai (bG w #[I (q.r 0),I (q.r 1),I (q.r 2),I (q.r 3),I (q.r 4),I (q.r 5),I (q.r 6),I (q.r 7)] 73);clear hq hn J Wu h C pK hok L y;have hm:=Yp (Ad mb 0);have ha:=abk (Ad mb 0);have mu:=Sm (Ad mb 0);have au:=Un (Ad mb 0);have mp:=Nq (Ad mb 0);have ap:=Py (Ad mb 0);obtain⟨RR,A⟩:=ex (iw o st k c);rw[<- A];have B:=ai A;clear A;rcases hc with rfl | rfl | rfl
 all_goals
  go_enter func196,ntmps196;go_wp2_with fail;obtain⟨WA,lQ⟩:=ex (w.alloc (.cells #[I (q.r 0),I (q.r 1),I (q.r 2),I (q.r 3),I (q.r 4),I (q.r 5),I (q.r 6),I (q.r 7)] 73));rw[<- lQ] at mh BX ⊢;obtain⟨rb,MG⟩:=ex w.heap.size;rw[<- MG] at BX ⊢;have Kc:=ai MG;have Kg:=ai (HG.o.below HC.o mh.o);clear lQ MG c0 c1 c2 c3 c4 c5 c6 c7
  first
   | (have b:=ai (HC.o.map WA.drew D st.mem _ k (q.r 0) (q.r 1) (q.r 2) (HC.o.kp _ _ _ (λ_=>False) _ Kg.o.mem (aI.drew _ _) (λ_ _ g=>g)) QB.o.mem YI.o (OI.o.1 0 ω) (OI.o.1 1 ω));have HR:Hid (RR=((o.map st.mem k (q.r 0) (q.r 1) (q.r 2)).1,{ st with mem:=(o.map st.mem k (q.r 0) (q.r 1) (q.r 2)).2 })):=by show _=_;rw[B.o,HQ.o];exact rfl
      generalize o.map st.mem k (q.r 0) (q.r 1) (q.r 2)=X at b HR)
   | (have b:=ai (HC.o.ry WA.drew D st.mem _ k (q.r 0) (q.r 1) (HC.o.kp _ _ _ (λ_=>False) _ Kg.o.mem (aI.drew _ _) (λ_ _ g=>g)) QB.o.mem YI.o (OI.o.1 0 ω) (OI.o.1 1 ω));have HR:Hid (RR=((o.ry st.mem k (q.r 0) (q.r 1)).1,{ st with mem:=(o.ry st.mem k (q.r 0) (q.r 1)).2 })):=by show _=_;rw[B.o,HQ.o];exact rfl
      generalize o.ry st.mem k (q.r 0) (q.r 1)=X at b HR)
   | (have b:=ai (HC.o.kL WA.drew D st.mem _ k (q.r 0) (q.r 1) (q.r 2) (HC.o.kp _ _ _ (λ_=>False) _ Kg.o.mem (aI.drew _ _) (λ_ _ g=>g)) QB.o.mem YI.o (OI.o.1 0 ω) (OI.o.1 1 ω));have HR:Hid (RR=((o.kL st.mem k (q.r 0) (q.r 1) (q.r 2)).1,{ st with mem:=(o.kL st.mem k (q.r 0) (q.r 1) (q.r 2)).2 })):=by show _=_;rw[B.o,HQ.o];exact rfl
      generalize o.kL st.mem k (q.r 0) (q.r 1) (q.r 2)=X at b HR)
  have HS:Hid (∀V,aI D WA V->V.cell? (Ad gb 0)=some (.iface 183 (.pointer (some (Ad mb 0))))/\V.cell? (Ad rb 0)=some (I (q.r 0))/\V.cell? (Ad rb 1)=some (I (q.r 1))/\V.cell? (Ad rb 2)=some (I (q.r 2))):=λV hb=>by
   have h1:=hb.keep BX.o (λg=>by have:=HC.o.dom _ _ _ HG.o.mem _ g;have:=Kc.o;omega);have h2:=hb.keep Kg.o.head Kg.o.n1;exact⟨aA h2 0 rfl,aA h1 0 rfl,aA h1 1 rfl,aA h1 2 rfl⟩
  have o5:=ai (HS.o _ (aI.drew _ _))
  go_region_held3 (λV=>V.cell? (Ad gb 0)=some (.iface 183 (.pointer (some (Ad mb 0))))/\V.cell? (Ad rb 0)=some (I (q.r 0))/\V.cell? (Ad rb 1)=some (I (q.r 1))/\V.cell? (Ad rb 2)=some (I (q.r 2))) (first | exact Cu.o | exact o5.o)
   (((first | go_at_call 255 | go_at_call 258 | go_at_call 256);refine b.o.mono ?_;rintro e w2 ⟨D2,rfl,F,K,G⟩;have Aa:Hid (aI D WA w2):=(aI.drew D WA).trans K (λ_ _ g=>g);have Cu:=ai (HS.o _ Aa.o);have YG:=ai F;have M:=ai G;clear F K G))
  go_wp2;go_ret;rw[HR.o];exact⟨rfl,cY.after mh.o (cY.ML HC.o Kg.o YG.o Aa.o M.o)⟩
open Go.RowKit Tryz
variable {σ:Type} {Hd:World->(Nat->Prop)->σ->Prop} {Ok:σ->List Bool->Prop} {o:iZ σ} {lo mb gb:Nat} {D:Nat->Prop} {vr vo:Value} {st:dC σ}
theorem aiu (C:jc lo mb Hd Ok o) (k:Nat) (w:World) (h:gD Hd lo mb gb w D vr vo st) (hok:fZ Ok st) (hk:k<st.ps.length) (h1:(aR st.ps k).st=1) :
  Calls prog 196 #[.pointer (some (Ad gb 0)),I (k:Int),I 5] w λe w'=>e=.returned (I (iw o st k 5).1)/\cY Hd lo mb gb w D vr vo (iw o st k 5).2 w':=by
 have HG:=ai h;have HC:=ai C;obtain⟨pb,cap,Jt,G,A,Wu⟩:=h.proc k hk;have pK:=ai A;have B:=jn k hk h1;have b:=hok.fit k hk;have QB:=ai hok;have YI:=ai B;have OI:=ai b;have Ho:st.ps.length<=4:=by have:=C.ok.few _ _ hok.mem;unfold cI at this;rw[jw] at this;exact this
 have Dg:=ai hk;have K:=ai h1;have ZG:=ai (λV (hV:Below w.heap.size w V)=>abf C k V (h.below C hV) hok hk h1);obtain⟨q,hq⟩:=ex (aR st.ps k);rw[<- hq] at pK OI;have HQ:=ai hq;obtain⟨n,hn⟩:=ex st.ps.length;rw[<- hn] at Jt hk Ho;subst Jt;have HN:=ai hn;have Il:(k:Int)<(n:Int):=by omega
 have g0:w.cell? (Ad gb 0)=some (.iface 183 (.pointer (some (Ad mb 0)))):=aA HG.o.head 0 rfl;have g1:w.cell? (Ad gb 1)=some (.slice (some (Ad pb 0)) n cap):=aA HG.o.head 1 rfl;have J:=aM HG.o.head;have c0:w.cell? (Ad pb (k*13))=some (I (q.r 0)):=pK.o 0 ω;have c1:w.cell? (Ad pb (k*13+1))=some (I (q.r 1)):=pK.o 1 ω;have c2:w.cell? (Ad pb (k*13+2))=some (I (q.r 2)):=pK.o 2 ω;have c3:w.cell? (Ad pb (k*13+3))=some (I (q.r 3)):=pK.o 3 ω;have c4:w.cell? (Ad pb (k*13+4))=some (I (q.r 4)):=pK.o 4 ω;have c5:w.cell? (Ad pb (k*13+5))=some (I (q.r 5)):=pK.o 5 ω;have c6:w.cell? (Ad pb (k*13+6))=some (I (q.r 6)):=pK.o 6 ω;have c7:w.cell? (Ad pb (k*13+7))=some (I (q.r 7)):=pK.o 7 ω;have mh:=ai ((aN w.heap.size w).alloc (aJ _) (.cells #[I (q.r 0),I (q.r 1),I (q.r 2),I (q.r 3),I (q.r 4),I (q.r 5),I (q.r 6),I (q.r 7)] 73));have BX:=ai (bG w #[I (q.r 0),I (q.r 1),I (q.r 2),I (q.r 3),I (q.r 4),I (q.r 5),I (q.r 6),I (q.r 7)] 73);clear hq hn A Wu h C pK hok B b;obtain⟨RR,y⟩:=ex (iw o st k 5);rw[<- y] at ZG ⊢;clear y;go_enter func196,ntmps196;go_wp2_with (go_at_call 218;refine(ZG.o _ mh.o).mono ?_;rintro e w1 ⟨rfl,Te⟩;have F:=ai Te;clear Te);go_ret;exact⟨rfl,cY.after mh.o F.o⟩
theorem ait (C:jc lo mb Hd Ok o) (k:Nat) (w:World) (h:gD Hd lo mb gb w D vr vo st) (hok:fZ Ok st) (hk:k<st.ps.length) (h1:(aR st.ps k).st=1) :
  Calls prog 196 #[.pointer (some (Ad gb 0)),I (k:Int),I 6] w λe w'=>e=.returned (I (iw o st k 6).1)/\cY Hd lo mb gb w D vr vo (iw o st k 6).2 w':=by
 have HG:=ai h;have HC:=ai C;obtain⟨pb,cap,Jt,L,F,Wu⟩:=h.proc k hk;have pK:=ai F;have J:=jn k hk h1;have b:=hok.fit k hk;have QB:=ai hok;have YI:=ai J;have OI:=ai b;have Ho:st.ps.length<=4:=by have:=C.ok.few _ _ hok.mem;unfold cI at this;rw[jw] at this;exact this
 have Dg:=ai hk;have N:=ai h1;have HR:Hid (iw o st k 6=(0,{ st with mem:=o.drop st.mem k })):=rfl;have K:=ai (λV (hV:Below w.heap.size w V)=>C.drop V D st.mem _ k (h.below C hV).mem hok.mem (jn k hk h1));obtain⟨q,hq⟩:=ex (aR st.ps k);rw[<- hq] at pK OI;have HQ:=ai hq;obtain⟨n,hn⟩:=ex st.ps.length;rw[<- hn] at Jt hk Ho;subst Jt;have HN:=ai hn;have Il:(k:Int)<(n:Int):=by omega
 have g0:w.cell? (Ad gb 0)=some (.iface 183 (.pointer (some (Ad mb 0)))):=aA HG.o.head 0 rfl;have g1:w.cell? (Ad gb 1)=some (.slice (some (Ad pb 0)) n cap):=aA HG.o.head 1 rfl;have M:=aM HG.o.head;have c0:w.cell? (Ad pb (k*13))=some (I (q.r 0)):=pK.o 0 ω;have c1:w.cell? (Ad pb (k*13+1))=some (I (q.r 1)):=pK.o 1 ω;have c2:w.cell? (Ad pb (k*13+2))=some (I (q.r 2)):=pK.o 2 ω;have c3:w.cell? (Ad pb (k*13+3))=some (I (q.r 3)):=pK.o 3 ω;have c4:w.cell? (Ad pb (k*13+4))=some (I (q.r 4)):=pK.o 4 ω;have c5:w.cell? (Ad pb (k*13+5))=some (I (q.r 5)):=pK.o 5 ω;have c6:w.cell? (Ad pb (k*13+6))=some (I (q.r 6)):=pK.o 6 ω;have c7:w.cell? (Ad pb (k*13+7))=some (I (q.r 7)):=pK.o 7 ω;have mh:=ai ((aN w.heap.size w).alloc (aJ _) (.cells #[I (q.r 0),I (q.r 1),I (q.r 2),I (q.r 3),I (q.r 4),I (q.r 5),I (q.r 6),I (q.r 7)] 73));have BX:=ai (bG w #[I (q.r 0),I (q.r 1),I (q.r 2),I (q.r 3),I (q.r 4),I (q.r 5),I (q.r 6),I (q.r 7)] 73);clear hq hn F Wu h C pK hok J b;obtain⟨RR,y⟩:=ex (iw o st k 6);rw[<- y] at HR ⊢;clear y;have hm:=I7 (Ad mb 0);have ha:=Mc (Ad mb 0);go_enter func196,ntmps196;go_wp2_with (go_at_call 252;refine(K.o _ mh.o).mono ?_;rintro e w2 ⟨D2,rfl,A,G,B⟩;have Cw:=ai (cY.ML HC.o (HG.o.below HC.o mh.o) A G B);clear A G B);go_ret;rw[HR.o];exact⟨rfl,cY.after mh.o Cw.o⟩
theorem aiv (C:jc lo mb Hd Ok o) (k:Nat) (w:World) (h:gD Hd lo mb gb w D vr vo st) (hok:fZ Ok st) (hk:k<st.ps.length) (h1:(aR st.ps k).st=1) :
  Calls prog 196 #[.pointer (some (Ad gb 0)),I (k:Int),I 1] w λe w'=>e=.returned (I (iw o st k 1).1)/\cY Hd lo mb gb w D vr vo (iw o st k 1).2 w':=by
 have HG:=ai h;have HC:=ai C;obtain⟨pb,cap,Jt,a7,K,Wu⟩:=h.proc k hk;have pK:=ai K;have L:=jn k hk h1;have A:=hok.fit k hk;have QB:=ai hok;have YI:=ai L;have OI:=ai A;have Ho:st.ps.length<=4:=by have:=C.ok.few _ _ hok.mem;unfold cI at this;rw[jw] at this;exact this
 have Dg:=ai hk;have a6:=ai h1;have HR:Hid (iw o st k 1=(0,{ st with out:=st.out++[⟨(k:Int),(aR st.ps k).r 0⟩] })):=rfl;obtain⟨q,hq⟩:=ex (aR st.ps k);rw[<- hq] at pK OI;have HQ:=ai hq;obtain⟨n,hn⟩:=ex st.ps.length;rw[<- hn] at Jt hk Ho;subst Jt;have HN:=ai hn;have Il:(k:Int)<(n:Int):=by omega
 have g0:w.cell? (Ad gb 0)=some (.iface 183 (.pointer (some (Ad mb 0)))):=aA HG.o.head 0 rfl;have g1:w.cell? (Ad gb 1)=some (.slice (some (Ad pb 0)) n cap):=aA HG.o.head 1 rfl;have a3:=aM HG.o.head;have c0:w.cell? (Ad pb (k*13))=some (I (q.r 0)):=pK.o 0 ω;have c1:w.cell? (Ad pb (k*13+1))=some (I (q.r 1)):=pK.o 1 ω;have c2:w.cell? (Ad pb (k*13+2))=some (I (q.r 2)):=pK.o 2 ω;have c3:w.cell? (Ad pb (k*13+3))=some (I (q.r 3)):=pK.o 3 ω;have c4:w.cell? (Ad pb (k*13+4))=some (I (q.r 4)):=pK.o 4 ω;have c5:w.cell? (Ad pb (k*13+5))=some (I (q.r 5)):=pK.o 5 ω;have c6:w.cell? (Ad pb (k*13+6))=some (I (q.r 6)):=pK.o 6 ω;have c7:w.cell? (Ad pb (k*13+7))=some (I (q.r 7)):=pK.o 7 ω;have mh:=ai ((aN w.heap.size w).alloc (aJ _) (.cells #[I (q.r 0),I (q.r 1),I (q.r 2),I (q.r 3),I (q.r 4),I (q.r 5),I (q.r 6),I (q.r 7)] 73));have BX:=ai (bG w #[I (q.r 0),I (q.r 1),I (q.r 2),I (q.r 3),I (q.r 4),I (q.r 5),I (q.r 6),I (q.r 7)] 73);clear hq hn K Wu h C pK hok L A;rw[<- HQ.o] at HR;obtain⟨RR,M⟩:=ex (iw o st k 1);rw[<- M] at HR ⊢;clear M;have X:=QB.o.out;obtain⟨no,B⟩:=ex st.out.length;rw[<- B] at X;have sS:=ai B;clear B;go_enter func196,ntmps196;go_wp2_with fail;obtain⟨WA,lQ⟩:=ex (w.alloc (.cells #[I (q.r 0),I (q.r 1),I (q.r 2),I (q.r 3),I (q.r 4),I (q.r 5),I (q.r 6),I (q.r 7)] 73));rw[<- lQ] at mh BX ⊢;obtain⟨rb,MG⟩:=ex w.heap.size;rw[<- MG] at BX ⊢;have Kg:=ai (HG.o.below HC.o mh.o);obtain⟨ao,co,G,_,_⟩:=bh Kg.o.outs;rw[<- sS.o] at G;have a2:=ai G;have e2:WA.cell? (Ad gb 2)=some vo:=aA Kg.o.head 2 rfl;have a5:∀ob,(WA.alloc ob).cell? (Ad gb 2)=some vo:=λob=>aA (bB Kg.o.head ob) 2 rfl
 have x0:WA.cell? (Ad rb 0)=some (I (q.r 0)):=aA BX.o 0 rfl;clear G lQ MG c0 c1 c2 c3 c4 c5 c6 c7 g0 g1;obtain⟨i0,J,T,R,O⟩:=mQ VR;have PE:=ai J;have W:=ai T;have ZA:=ai R;have Ih:=ai O;have Y:Hid ((WA.alloc (.cells #[I (k:Int),I (q.r 0)] 91)).drew.ownsRow lo 91 2 vo no (st.out.flatMap jP)):=by
  have:=Kg.o.outs.alloc (.cells #[I (k:Int),I (q.r 0)] 91);rw[<- sS.o] at this;exact this
 have Z:Hid (lo<=(WA.alloc (.cells #[I (k:Int),I (q.r 0)] 91)).drew.heap.size):=by show lo<=(WA.alloc _).heap.size;rw[fp];have:=Kg.o.base;have:=aM Kg.o.head;omega
 have U:Hid (0<1->∃ad,some ((Ad WA.heap.size 0):Addr)=some ad/\∀j u,([I (k:Int),I (q.r 0)]:List Value)[j]?=some u->((WA.alloc (.cells #[I (k:Int),I (q.r 0)] 91)).drew).cell? (ad.add j)=some u):=λ_=>⟨_,rfl,EW (w:=(WA.alloc (.cells #[I (k:Int),I (q.r 0)] 91)).drew) (bG WA #[I (k:Int),I (q.r 0)] 91)⟩
 clear J T R O
 go_region_law (refine Bd (P:=prog) rfl _ _ 32 rfl lo 91 i0 (.agg #[I 0,I 0]) 2 16 underlying32 PE.o W.o ZA.o Ih.o rfl Δ vo no (st.out.flatMap jP) rfl Y.o (some (Ad WA.heap.size 0)) 1 1 [I (k:Int),I (q.r 0)] rfl rfl U.o (by intro u hu;simp at hu;rcases hu with rfl | rfl <;> rfl) (by unfold maxLen;omega) ω Z.o ?_;intro v3 w4 y b Q;obtain⟨a4,c4,rfl,_⟩:=bh y;have a0:=ai y;have N:Hid ((WA.alloc _).grownBy w4 _):=⟨b.os,b.tape,b.output,b.size,b.block⟩;have a1:=ai Q;have F:=EY (bB Kg.o.head (.cells #[I (k:Int),I (q.r 0)] 91)) N.o (λe=>Kg.o.n3 e.symm);have y1:w4.cell? (Ad gb 2)=some vo:=aA F 2 rfl;have y2:w4.frozen? (Ad gb 2)=false:=br F 2;clear y b Q F)
 all_goals
  go_wp2;go_ret;have hp:=Kg.o.apo HC.o (x:=⟨(k:Int),q.r 0⟩) N.o (by rw[<- sS.o];exact a0.o) a1.o;rw[HR.o];exact⟨rfl,cY.after mh.o hp⟩
theorem abg (C:jc lo mb Hd Ok o) (k:Nat) (c:Int) (w:World) (h:gD Hd lo mb gb w D vr vo st) (hok:fZ Ok st) (hk:k<st.ps.length) (h1:(aR st.ps k).st=1) (hc:1<=c/\c<=6) :
  Calls prog 196 #[.pointer (some (Ad gb 0)),I (k:Int),I c] w λe w'=>e=.returned (I (iw o st k c).1)/\cY Hd lo mb gb w D vr vo (iw o st k c).2 w':=by
 rcases(ω:c=1\/c=2\/c=3\/c=4\/c=5\/c=6) with rfl | rfl | rfl | rfl | rfl | rfl
 . exact aiv C k w h hok hk h1
 . exact JU 2 (.inl rfl) C k w h hok hk h1
 . exact JU 3 (.inr (.inl rfl)) C k w h hok hk h1
 . exact JU 4 (.inr (.inr rfl)) C k w h hok hk h1
 . exact aiu C k w h hok hk h1
 exact ait C k w h hok hk h1
open Go.RowKit Tryz
theorem bJ {p:Prop} (h:p):Hid p:=h
theorem Io (s:ByteArray) (w:World) (h:s.size=8) :
  Calls prog 193 #[.string s] w λe w'=>e=.returned (.tuple #[.agg (eJ.cells (iq s)),I 0])/\Below w.heap.size w w':=by
 have hG:∀V,Calls prog 195 #[.string (s.extract 4 8)] V λe w'=>e=.returned (.tuple #[I (wrap64 (Lib.leNat (s.data.toList.drop 4))),I 0])/\V=w':=λV=>by
  have h1:(s.extract 4 8).size=4:=by simp;omega
  have h2:=SK (s.extract 4 8) V ω ω;rw[Pe s h] at h2;exact h2
 have h4:=QQ s h;have hv:eJ.cells (iq s)=#[I (sP s 0),I (sP s 1),I (sP s 2),I (sP s 3),I (vI ((Lib.leNat (s.data.toList.drop 4):Nat):Int))]:=rfl;have q:=af0 ((Lib.leNat (s.data.toList.drop 4):Nat):Int) ω ω;have b:=Ip ((Lib.leNat (s.data.toList.drop 4):Nat):Int) ω ω;rw[hv];have he:wrap64 ((Lib.leNat (s.data.toList.drop 4):Nat):Int)=((Lib.leNat (s.data.toList.drop 4):Nat):Int):=by unfold wrap64;omega
 rw[he] at hG;obtain⟨L,hL⟩:∃L:Int,L=((Lib.leNat (s.data.toList.drop 4):Nat):Int):=⟨_,rfl⟩;rw[<- hL] at hG q b;rw[<- hL];obtain⟨R,hR⟩:∃R:Int,R=vI L:=⟨_,rfl⟩;rw[<- hR] at q b;rw[<- hR];have HG:=bJ hG;have g0:=Hr s 0 ω;have g1:=Hr s 1 ω;have g2:=Hr s 2 ω;have g3:=Hr s 3 ω;have hr:IntKind.i64.wrap R=R:=wh _ ω;have u0:=Eg s 0;have u1:=Eg s 1;have u2:=Eg s 2;have u3:=Eg s 3;clear hG hL hR hv he h4;go_enter func193,ntmps193;go_wp2_with fail;refine(HG.o _).mono ?_;rintro e w1 ⟨rfl,rfl⟩;go_wp2_with fail;go_region;go_wp2;refine bW (v:=.tuple #[.agg #[I (sP s 0),I (sP s 1),I (sP s 2),I (sP s 3),I R],I 0]) (by simp[results,results193,go_sem]) rfl ?_;exact⟨rfl,((aN _ _).alloc (aJ _) _).drew⟩
open Go.RowKit Tryz
open Go.RowKit Tryz
def pH (l:List Int):Array Value:=(l.map λx=>I x).toArray
theorem Z5 (l:List Int) (k:Nat) (h:k<l.length):(pH l)[k]?=some (I (l.getD k 0)):=by
 simp[pH,h]
theorem tj (l:List Int) (b:Nat) (w:World) (hl:l.length<=4) (hx:w.heap[b]?=some (.cells (pH l) 3 (0,0))) :
  Calls prog 229 #[.slice (some (Ad b 0)) l.length l.length] w λe w'=>e=.returned (.bool (fW l))/\w=w':=by
 have HX:=bJ hx;have HN:=bJ (Ty l);have HY:=bJ (QR l);generalize fW l=R at HN HY ⊢;clear hx;go_enter func229,ntmps229;go_wp2
 go_loop [7] (λi=>∃k:Nat,k<=l.length/\i=I k/\∀j,j<k->0<=l.getD j 0/\l.getD j 0<8) (λi=>l.length-(intOf i).toNat)
 case atStart=>exact⟨0,ω,rfl,λj hj=>absurd hj ω⟩
 case round =>
  obtain⟨k,hk,rfl,hj⟩:=hrel;have HJ:=bJ hj;clear hj;by_cases hlt:k<l.length
  . have hc:=aA HX.o k (Z5 l k hlt);have HG:=bJ (show l[k]?=some (l.getD k 0) from by simp[hlt]);have q:Hid (0<=l.getD k 0/\l.getD k 0<8->∀j,j<k+1->0<=l.getD j 0/\l.getD j 0<8):=λh j hjj=>by
     rcases Nat.lt_or_ge j k with g | g
     . exact HJ.o j g
     obtain rfl:j=k:=by omega
     exact h
    generalize l.getD k 0=x at hc HG q;by_cases h0:0<=x
    . by_cases h1:x<8
      . go_wp2
        go_round
        case rel=>exact⟨k+1,ω,by go_num,q.o ⟨h0,h1⟩⟩
        case measure=>simp[intOf];omega
      obtain rfl:=HN.o k x HG.o (λh=>h1 h.2);go_wp2;go_ret;exact⟨rfl,rfl⟩
    obtain rfl:=HN.o k x HG.o (λh=>h0 h.1);go_wp2;go_ret;exact⟨rfl,rfl⟩
  obtain rfl:k=l.length:=by omega
  obtain rfl:=HY.o (λj x hx=>by
   have Am:j<l.length:=(Ws.1 hx).1;have e:l.getD j 0=x:=by simp[hx]
   rw[<- e];exact HJ.o j Am)
  go_wp2;go_ret;exact⟨rfl,rfl⟩
theorem Im (n:Int) (w:World):Calls prog 230 #[I n] w λe w'=>e=.returned (.bool (pR n))/\w=w':=by
 by_cases h1:n=1
 . subst h1;go_enter func230,ntmps230;go_wp2;go_ret;exact⟨rfl,rfl⟩
 by_cases h2:n=2
 . subst h2;go_enter func230,ntmps230;go_wp2;go_ret;exact⟨rfl,rfl⟩
 by_cases h3:n=4
 . subst h3;go_enter func230,ntmps230;go_wp2;go_ret;exact⟨rfl,rfl⟩
 rw[show pR n=decide (n=8) from by unfold pR;simp[h1,h2,h3]];go_enter func230,ntmps230;go_wp2;go_ret;have b1:(n==1)=false:=by simpa using h1
 have b2:(n==2)=false:=by simpa using h2
 have b3:(n==4)=false:=by simpa using h3
 have b4:(n==8)=decide (n=8):=by by_cases h:n=8 <;> simp[h]
 exact⟨by simp only[b1,b2,b3,b4,Bool.false_or];rfl,rfl⟩
open Go.RowKit Tryz
theorem MT (op a b c m:Int) (w:World) (h:op=1\/op=11\/op=15):Calls prog 217 #[.agg #[I op,I a,I b,I c,I m]] w λe w'=>e=.returned (.bool (!fW [a]))/\Below w.heap.size w w':=by
 have HA:Hid (∀V:World,Calls prog 229 #[.slice (some (Ad (w.heap.size+1) 0)) 1 1] ((w.alloc (.cells #[I op,I a,I b,I c,I m] 108)).alloc (.cells (pH [a]) 3)) λe w'=>e=.returned (.bool (fW [a]))/\((w.alloc (.cells #[I op,I a,I b,I c,I m] 108)).alloc (.cells (pH [a]) 3))=w'):=λV=>tj [a] (w.heap.size+1) _ ξ (by have e:=bG (w.alloc (.cells #[I op,I a,I b,I c,I m] 108)) (pH [a]) 3;rw[fp] at e;exact e)
 generalize fW [a]=R at HA ⊢;rcases h with rfl | rfl | rfl
 all_goals
  go_enter func217,ntmps217;go_wp2_with fail;refine(HA.o w).mono ?_;rintro e w' ⟨rfl,rfl⟩;go_wp2;go_ret;exact⟨ξ,((aN _ _).alloc (aJ _) _).alloc ξ _⟩
theorem Ah (op a b c m:Int) (w:World) (h:op=2\/op=3\/op=4\/op=5\/op=6\/op=7):Calls prog 217 #[.agg #[I op,I a,I b,I c,I m]] w λe w'=>e=.returned (.bool (!fW [a,b,c]))/\Below w.heap.size w w':=by
 have HA:Hid (∀V:World,Calls prog 229 #[.slice (some (Ad (w.heap.size+1) 0)) 3 3] ((w.alloc (.cells #[I op,I a,I b,I c,I m] 108)).alloc (.cells (pH [a,b,c]) 3)) λe w'=>e=.returned (.bool (fW [a,b,c]))/\((w.alloc (.cells #[I op,I a,I b,I c,I m] 108)).alloc (.cells (pH [a,b,c]) 3))=w'):=λV=>tj [a,b,c] (w.heap.size+1) _ ξ (by have e:=bG (w.alloc (.cells #[I op,I a,I b,I c,I m] 108)) (pH [a,b,c]) 3;rw[fp] at e;exact e)
 generalize fW [a,b,c]=R at HA ⊢;rcases h with rfl | rfl | rfl | rfl | rfl | rfl
 all_goals
  go_enter func217,ntmps217;go_wp2_with fail;refine(HA.o w).mono ?_;rintro e w' ⟨rfl,rfl⟩;go_wp2;go_ret;exact⟨ξ,((aN _ _).alloc (aJ _) _).alloc ξ _⟩
theorem MS (op a b c m:Int) (w:World) (h:op=8\/op=13\/op=14):Calls prog 217 #[.agg #[I op,I a,I b,I c,I m]] w λe w'=>e=.returned (.bool (!fW [a,b]))/\Below w.heap.size w w':=by
 have HA:Hid (∀V:World,Calls prog 229 #[.slice (some (Ad (w.heap.size+1) 0)) 2 2] ((w.alloc (.cells #[I op,I a,I b,I c,I m] 108)).alloc (.cells (pH [a,b]) 3)) λe w'=>e=.returned (.bool (fW [a,b]))/\((w.alloc (.cells #[I op,I a,I b,I c,I m] 108)).alloc (.cells (pH [a,b]) 3))=w'):=λV=>tj [a,b] (w.heap.size+1) _ ξ (by have e:=bG (w.alloc (.cells #[I op,I a,I b,I c,I m] 108)) (pH [a,b]) 3;rw[fp] at e;exact e)
 generalize fW [a,b]=R at HA ⊢;rcases h with rfl | rfl | rfl
 all_goals
  go_enter func217,ntmps217;go_wp2_with fail;refine(HA.o w).mono ?_;rintro e w' ⟨rfl,rfl⟩;go_wp2;go_ret;exact⟨ξ,((aN _ _).alloc (aJ _) _).alloc ξ _⟩
open Go.RowKit Tryz
theorem afY (a b c m:Int) (w:World):Calls prog 217 #[.agg #[I 9,I a,I b,I c,I m]] w λe w'=>e=.returned (.bool (!fW [a,b] || !pR c))/\Below w.heap.size w w':=by
 have HA:Hid (∀V:World,Calls prog 229 #[.slice (some (Ad (w.heap.size+1) 0)) 2 2] ((w.alloc (.cells #[I 9,I a,I b,I c,I m] 108)).alloc (.cells (pH [a,b]) 3)) λe w'=>e=.returned (.bool (fW [a,b]))/\((w.alloc (.cells #[I 9,I a,I b,I c,I m] 108)).alloc (.cells (pH [a,b]) 3))=w'):=λV=>tj [a,b] (w.heap.size+1) _ ξ (by have e:=bG (w.alloc (.cells #[I 9,I a,I b,I c,I m] 108)) (pH [a,b]) 3;rw[fp] at e;exact e)
 have HS:=bJ (Im c);generalize fW [a,b]=R at HA ⊢;generalize pR c=S at HS ⊢;cases R
 . go_enter func217,ntmps217;go_wp2_with fail;refine(HA.o w).mono ?_;rintro e w' ⟨rfl,rfl⟩;go_wp2;go_ret;exact⟨ξ,((aN _ _).alloc (aJ _) _).alloc ξ _⟩
 go_enter func217,ntmps217;go_wp2_with fail;refine(HA.o w).mono ?_;rintro e w' ⟨rfl,rfl⟩;go_wp2_with fail;refine(HS.o _).mono ?_;rintro e w' ⟨rfl,rfl⟩;go_wp2;go_ret;exact⟨ξ,((aN _ _).alloc (aJ _) _).alloc ξ _⟩
theorem acI (a b c m:Int) (w:World):Calls prog 217 #[.agg #[I 10,I a,I b,I c,I m]] w λe w'=>e=.returned (.bool (!fW [a,b] || !pR c))/\Below w.heap.size w w':=by
 have HA:Hid (∀V:World,Calls prog 229 #[.slice (some (Ad (w.heap.size+1) 0)) 2 2] ((w.alloc (.cells #[I 10,I a,I b,I c,I m] 108)).alloc (.cells (pH [a,b]) 3)) λe w'=>e=.returned (.bool (fW [a,b]))/\((w.alloc (.cells #[I 10,I a,I b,I c,I m] 108)).alloc (.cells (pH [a,b]) 3))=w'):=λV=>tj [a,b] (w.heap.size+1) _ ξ (by have e:=bG (w.alloc (.cells #[I 10,I a,I b,I c,I m] 108)) (pH [a,b]) 3;rw[fp] at e;exact e)
 have HS:=bJ (Im c);generalize fW [a,b]=R at HA ⊢;generalize pR c=S at HS ⊢;cases R
 . go_enter func217,ntmps217;go_wp2_with fail;refine(HA.o w).mono ?_;rintro e w' ⟨rfl,rfl⟩;go_wp2;go_ret;exact⟨ξ,((aN _ _).alloc (aJ _) _).alloc ξ _⟩
 go_enter func217,ntmps217;go_wp2_with fail;refine(HA.o w).mono ?_;rintro e w' ⟨rfl,rfl⟩;go_wp2_with fail;refine(HS.o _).mono ?_;rintro e w' ⟨rfl,rfl⟩;go_wp2;go_ret;exact⟨ξ,((aN _ _).alloc (aJ _) _).alloc ξ _⟩
theorem acH (a b c m:Int) (w:World):Calls prog 217 #[.agg #[I 12,I a,I b,I c,I m]] w λe w'=>e=.returned (.bool false)/\Below w.heap.size w w':=by
 go_enter func217,ntmps217;go_wp2;go_ret;exact⟨ξ,(aN _ _).alloc (aJ _) _⟩
theorem acG (a b c m:Int) (w:World):Calls prog 217 #[.agg #[I 16,I a,I b,I c,I m]] w λe w'=>e=.returned (.bool (!decide (1<=m/\m<=6)))/\Below w.heap.size w w':=by
 by_cases h1:1<=m
 . by_cases h2:m<=6
   . have HR:=bJ (show(!decide (1<=m/\m<=6))=false from by simp[h1,h2]);rw[HR.o];go_enter func217,ntmps217;go_wp2;go_ret;exact⟨by first | (simp;done) | (simp;omega),(aN _ _).alloc (aJ _) _⟩
   have HR:=bJ (show(!decide (1<=m/\m<=6))=true from by simp[h1,h2]);rw[HR.o];go_enter func217,ntmps217;go_wp2;go_ret;exact⟨by first | (simp;done) | (simp;omega),(aN _ _).alloc (aJ _) _⟩
 have HR:=bJ (show(!decide (1<=m/\m<=6))=true from by simp[h1]);rw[HR.o];go_enter func217,ntmps217;go_wp2;go_ret;exact⟨ξ,(aN _ _).alloc (aJ _) _⟩
theorem afX (op a b c m:Int) (w:World) (h:op<1\/16<op):Calls prog 217 #[.agg #[I op,I a,I b,I c,I m]] w λe w'=>e=.returned (.bool true)/\Below w.heap.size w w':=by
 have n1:¬op=1:=by omega
 have n2:¬op=2:=by omega
 have n3:¬op=3:=by omega
 have n4:¬op=4:=by omega
 have n5:¬op=5:=by omega
 have n6:¬op=6:=by omega
 have n7:¬op=7:=by omega
 have n8:¬op=8:=by omega
 have n9:¬op=9:=by omega
 have y:¬op=10:=by omega
 have G:¬op=11:=by omega
 have q:¬op=12:=by omega
 have F:¬op=13:=by omega
 have A:¬op=14:=by omega
 have B:¬op=15:=by omega
 have r:¬op=16:=by omega
 clear h;go_enter func217,ntmps217;go_wp2;go_ret;exact⟨by simp[q],(aN _ _).alloc (aJ _) _⟩
theorem Z4 (op:Int):(op<1\/16<op)\/op=1\/op=2\/op=3\/op=4\/op=5\/op=6\/op=7\/op=8\/op=9\/op=10\/op=11\/op=12\/op=13\/op=14\/op=15\/op=16:=by omega
theorem NW (i:eJ) (h:i.op<1\/16<i.op):i.bad=true:=by
 unfold eJ.bad;rw[aH ω,aH ω,aH ω,aH ω,aH ω,aH ω]
theorem KI (i:eJ) (w:World) (hi:i.fits):Calls prog 217 #[.agg i.cells] w λe w'=>e=.returned (.bool i.bad)/\Below w.heap.size w w':=by
 obtain⟨op,a,b,c,m⟩:=i;obtain⟨-,ha,hb,hc,-⟩:=hi;have e1:=ahO a ha;have e2:=ahN a b ha hb;have e3:=ahM a b c ha hb hc;rcases Z4 op with h | h | h | h | h | h | h | h | h | h | h | h | h | h | h | h | h
 . rw[NW _ h];exact afX op a b c m w h
 . subst h;have g:=MT 1 a b c m w ξ;rw[e1] at g;exact g
 . subst h;have g:=Ah 2 a b c m w ξ;rw[e3] at g;exact g
 . subst h;have g:=Ah 3 a b c m w ξ;rw[e3] at g;exact g
 . subst h;have g:=Ah 4 a b c m w ξ;rw[e3] at g;exact g
 . subst h;have g:=Ah 5 a b c m w ξ;rw[e3] at g;exact g
 . subst h;have g:=Ah 6 a b c m w ξ;rw[e3] at g;exact g
 . subst h;have g:=Ah 7 a b c m w ξ;rw[e3] at g;exact g
 . subst h;have g:=MS 8 a b c m w ξ;rw[e2] at g;exact g
 . subst h;have g:=afY a b c m w;rw[e2] at g;exact g
 . subst h;have g:=acI a b c m w;rw[e2] at g;exact g
 . subst h;have g:=MT 11 a b c m w ξ;rw[e1] at g;exact g
 . subst h;have g:=acH a b c m w;exact g
 . subst h;have g:=MS 13 a b c m w ξ;rw[e2] at g;exact g
 . subst h;have g:=MS 14 a b c m w ξ;rw[e2] at g;exact g
 . subst h;have g:=MT 15 a b c m w ξ;rw[e1] at g;exact g
 subst h;have g:=acG a b c m w;exact g
open Go.RowKit Tryz
end Go.Proofs.YtlgoihmkgaaemaaGreat
