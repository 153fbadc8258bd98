import Derived.Test.YtlgoihmkgaaemaaGreatGQ30
set_option maxHeartbeats 20000000
set_option linter.unusedVariables false
set_option maxRecDepth 100000
set_option linter.unusedSimpArgs false
namespace Go.Proofs.YtlgoihmkgaaemaaGreat
open Go.RowKit Tryz
structure iT where
 iF:aT
 procs:List bT
 out:List uN
def jZ (m:iT):Int:=if ¬gu m.iF=0 then gu m.iF else if 2000<m.out.length then 2 else if m.procs.length=m.iF.aj.length/\iO m.procs m.out (λk=>(ak m.iF.aj k).live)=true then 0 else 1
structure xJ (w:World) (a:jC) (ar ao:Option Addr) (m:iT):Prop where
 iF:ju w a m.iF
 procs:xK w ar m.procs
 out:zj w ao m.out
theorem xJ.below {w w':World} {a:jC} {ar ao:Option Addr} {m:iT} (h:xJ w a ar ao m) (hb:Below w.heap.size w w'):xJ w' a ar ao m:=⟨h.iF.below hb,h.procs.below hb,h.out.below hb⟩
structure Ps (m:iT):Prop where
 iF:pY m.iF
 procs:bD m.procs.length
 out:bD m.out.length
def ir (m:iT) (a:jC) (ar ao:Option Addr) (cr co:Nat):Array Value:=#[.slice a.aS m.iF.aR.length a.cS,.slice a.aF m.iF.frames.length a.cF,.slice a.aL m.iF.slots.length a.cL,.slice a.aP m.iF.aj.length a.cP,I m.iF.hand,.slice ar m.procs.length cr,.slice ao m.out.length co]
theorem B0 {w:World} {b:Nat} {Ss a1 a2 a3 a4 a5 a6:Value} {t:TypeId} (h:w.heap[b]?=some (.cells #[Ss,a1,a2,a3,a4,a5,a6] t (0,0))):w.cell? (Ad b 0)=some Ss/\w.cell? (Ad b 1)=some a1/\w.cell? (Ad b 2)=some a2/\w.cell? (Ad b 3)=some a3/\w.cell? (Ad b 4)=some a4/\w.cell? (Ad b 5)=some a5/\w.cell? (Ad b 6)=some a6:=⟨aA h 0 rfl,aA h 1 rfl,aA h 2 rfl,aA h 3 rfl,aA h 4 rfl,aA h 5 rfl,aA h 6 rfl⟩
theorem acj (l:List dA) (az:Option Addr) (cs P k:Nat) (w:World) (h:Dl w az l) (hk:k<l.length) (hn:l.length<=140737488351232) (hP:w.cell? (Ad P 3)=some (.slice az l.length cs)) :
  Calls prog 89 #[I (k:Int),.pointer (some (Ad P 0))] w λe w'=>e=.returned (.bool (ak l k).live)/\Below w.heap.size w w':=by
 obtain⟨b,off,q,y,di⟩:=h ω;subst q;obtain⟨va,ap,cp,c0,c1,c2,c3,c4,c5⟩:=di k hk;clear di c1 c2 c3 c4 c5 h;generalize (ak l k).live=lv at c0 ⊢;go_enter func89,ntmps89;go_wp2;go_ret;exact⟨rfl,aN _ _⟩
theorem Pr (m:iT) (a:jC) (ar ao:Option Addr) (cr co:Nat) (w:World) (h:xJ w a ar ao m) (hf:Ps m) :
  Calls prog 41 #[.agg (ir m a ar ao cr co)] w λe w'=>e=.returned (.bool (decide (m.procs.length=m.iF.aj.length/\iO m.procs m.out (λk=>(ak m.iF.aj k).live)=true)))/\Below w.heap.size w w':=by
 have C0:=hf.procs;have F:=hf.iF.np;have A:=hf.out;unfold bD at C0 F A;have Xy:Hid (m.procs.length=m.iF.aj.length->∀P V,Below w.heap.size w V->V.heap[P]?=some (.cells (ir m a ar ao cr co) 34 (0,0))->Calls prog 88 #[.slice ar m.procs.length cr,.slice ao m.out.length co,.func (.func 89) #[] #[.pointer (some (Ad P 0))]] V λe w'=>e=.returned (.bool (iO m.procs m.out (λk=>(ak m.iF.aj k).live)))/\Below V.heap.size V w'):=λhl P V hV hP =>
  Ke _ (.inr rfl) m.procs m.out (λk=>(ak m.iF.aj k).live) ar ao cr co P V (h.procs.below hV) (h.out.below hV) ω ω (λk hk U hU=>acj m.iF.aj a.aP a.cP P k U (h.iF.aj.below (bq hV hU)) ω ω ((hU.cell (p:=(Ad P 3)) (aQ hP)).trans (aA hP 3 rfl)))
 have fU:=ai ((aN w.heap.size w).alloc (aK _) (.cells (ir m a ar ao cr co) 34));have X0:=ai (bH w (ir m a ar ao cr co) 34);generalize iO m.procs m.out (λk=>(ak m.iF.aj k).live)=R at Xy ⊢;unfold ir at Xy fU X0 ⊢;obtain⟨ns,b⟩:=ex m.iF.aj.length;obtain⟨np,UH⟩:=ex m.procs.length;obtain⟨no,y⟩:=ex m.out.length;obtain⟨n0,q⟩:∃n,n=m.iF.aR.length:=⟨_,rfl⟩;obtain⟨n1,UJ⟩:∃n,n=m.iF.frames.length:=⟨_,rfl⟩;obtain⟨n2,KI⟩:∃n,n=m.iF.slots.length:=⟨_,rfl⟩;obtain⟨n4,Lm⟩:∃n,n=m.iF.hand:=⟨_,rfl⟩;rw[<- b,<- UH,<- y,<- q,<- UJ,<- KI,<- Lm] at Xy fU X0 ⊢;rw[<- b] at F;rw[<- UH] at C0;clear h hf b UH y q UJ KI Lm A;by_cases c:np=ns
 . have Fm:=ai (Xy.o c);subst c;clear Xy;go_enter func41,ntmps41;go_wp2_with (go_at_call 88;refine(Fm.o _ _ fU.o X0.o).mono ?_;rintro e w1 ⟨rfl,B⟩;have cD:=ai (bq fU.o B);clear B);go_ret;exact⟨gq ξ,cD.o⟩
 have cb:((np:Int)==(ns:Int))=false:=by rw[gT];omega
 have e:decide (np=ns/\R=true)=false:=by simp[c]
 rw[e];clear c e Xy;go_enter func41,ntmps41;go_wp2;go_ret;exact⟨gq rfl,fU.o⟩
theorem ack (m:iT) (a:jC) (ar ao:Option Addr) (cr co:Nat) (w:World) (h:xJ w a ar ao m) (hf:Ps m) :
  Calls prog 15 #[.agg (ir m a ar ao cr co)] w λe w'=>e=.returned (I (jZ m))/\Below w.heap.size w w':=by
 have J:=hf.out;unfold bD at J;have ym:Hid (∀V,Below w.heap.size w V->Calls prog 40 #[.agg (br a m.iF)] V λe w'=>e=.returned (I (gu m.iF))/\Below V.heap.size V w'):=λV hV=>abY m.iF a V (h.iF.below hV) hf.iF
 have q:Hid (∀V,Below w.heap.size w V->Calls prog 41 #[.agg (ir m a ar ao cr co)] V λe w'=>e=.returned (.bool (decide (m.procs.length=m.iF.aj.length/\iO m.procs m.out (λk=>(ak m.iF.aj k).live)=true)))/\Below V.heap.size V w'):=λV hV=>Pr m a ar ao cr co V (h.below hV) hf
 have fU:=ai ((aN w.heap.size w).alloc (aK _) (.cells (ir m a ar ao cr co) 34));have X0:=ai (bH w (ir m a ar ao cr co) 34);obtain⟨R,hR⟩:=ex (decide (m.procs.length=m.iF.aj.length/\iO m.procs m.out (λk=>(ak m.iF.aj k).live)=true));obtain⟨ck,Lh⟩:=ex (gu m.iF);have HA:Hid (jZ m=if ¬ck=0 then ck else if 2000<m.out.length then 2 else if R=true then 0 else 1):=by
  show _=_;rw[Lh,hR];unfold jZ;simp only[fX]
 generalize jZ m=A at HA ⊢;rw[<- hR] at q;rw[<- Lh] at ym;unfold ir at q fU X0 ⊢;unfold br at ym;obtain⟨ns,G⟩:=ex m.iF.aj.length;obtain⟨np,UH⟩:=ex m.procs.length;obtain⟨no,F⟩:=ex m.out.length;obtain⟨n0,B⟩:∃n,n=m.iF.aR.length:=⟨_,rfl⟩;obtain⟨n1,UJ⟩:∃n,n=m.iF.frames.length:=⟨_,rfl⟩;obtain⟨n2,KI⟩:∃n,n=m.iF.slots.length:=⟨_,rfl⟩;obtain⟨n4,Lm⟩:∃n,n=m.iF.hand:=⟨_,rfl⟩;rw[<- G,<- UH,<- F,<- B,<- UJ,<- KI,<- Lm] at q fU X0 ⊢;rw[<- G,<- B,<- UJ,<- KI,<- Lm] at ym;rw[<- F] at HA J;clear h hf hR G UH F B UJ KI Lm Lh;by_cases c:ck=0
 . subst c;by_cases c2:2000<no
   . have qO:Hid (A=2):=by show _=_;rw[HA.o,aB (λg=>g rfl),aC c2]
     clear HA q;go_enter func15,ntmps15;go_wp2_with (go_at_call 40;refine(ym.o _ fU.o).mono ?_;rintro e w1 ⟨rfl,b⟩;have cD:=ai (bq fU.o b);have X1:=ai (aU X0.o b (aQ X0.o));clear b;obtain⟨x0,x1,x2,x3,x4,x5,x6⟩:=B0 X1.o);go_ret;exact⟨by rw[qO.o];rfl,cD.o⟩
   have qO:Hid (A=if R=true then 0 else 1):=by show _=_;rw[HA.o,aB (λg=>g rfl),aB c2]
   clear HA;cases R with
   | false =>
    have CF:Hid (A=1):=qO.o;clear qO;go_enter func15,ntmps15;go_wp2_with (first
     | (go_at_call 40;refine(ym.o _ fU.o).mono ?_;rintro e w1 ⟨rfl,b⟩;have cD:=ai (bq fU.o b);have X1:=ai (aU X0.o b (aQ X0.o));clear b;obtain⟨x0,x1,x2,x3,x4,x5,x6⟩:=B0 X1.o)
     | (go_at_call 41;refine(q.o _ cD.o).mono ?_;rintro e w2 ⟨rfl,y⟩;have iJ:=ai (bq cD.o y);clear y))
    go_ret;exact⟨by rw[CF.o];rfl,iJ.o⟩
   | true =>
    have CF:Hid (A=0):=qO.o;clear qO;go_enter func15,ntmps15;go_wp2_with (first
     | (go_at_call 40;refine(ym.o _ fU.o).mono ?_;rintro e w1 ⟨rfl,b⟩;have cD:=ai (bq fU.o b);have X1:=ai (aU X0.o b (aQ X0.o));clear b;obtain⟨x0,x1,x2,x3,x4,x5,x6⟩:=B0 X1.o)
     | (go_at_call 41;refine(q.o _ cD.o).mono ?_;rintro e w2 ⟨rfl,y⟩;have iJ:=ai (bq cD.o y);clear y))
    go_ret;exact⟨by rw[CF.o];rfl,iJ.o⟩
 have qO:Hid (A=ck):=by show _=_;rw[HA.o,aC c]
 have cb:(ck==0)=false:=by grind
 clear c HA q;go_enter func15,ntmps15;go_wp2_with (go_at_call 40;refine(ym.o _ fU.o).mono ?_;rintro e w1 ⟨rfl,b⟩;have cD:=ai (bq fU.o b);clear b);go_ret;exact⟨by rw[qO.o];rfl,cD.o⟩
open Go.RowKit
variable {MT:y7} {σ:Type} {Hd:World->(Nat->Prop)->σ->Prop} {Ok:σ->List Bool->Prop} {o:lK σ} {lo mb gb:Nat} {D:Nat->Prop} {vr vo:Value} {st:dB σ}
theorem ae3 (C:ja MT lo mb Hd Ok o) (k:Nat) (w:World) (h:fR MT Hd lo mb gb w D vr vo st) (hok:ez Ok st) (hk:k<st.ps.length) (h1:(aO st.ps k).st=1) :
  Calls prog 218 #[.pointer (some (Ad gb 0)),I (k:Int)] w λe w'=>e=.returned (I (iH o st k 5).1)/\cV MT Hd lo mb gb w D vr vo (iH o st k 5).2 w':=by
 have HG:=ai h;have HC:=ai C;have XG:=ai (C.fork w D st.mem _ k h.mem hok.mem (lY k hk h1));have g0:w.cell? (Ad gb 0)=some (.iface MT.T (.pointer (some (Ad mb 0)))):=aA h.head 0 rfl;have a7:=MT.alQ (Ad mb 0);have aa:=MT.amk (Ad mb 0);have af:=MT.amj;have ae:k<9223372036854775807:=by have:=C.ok.few _ _ hok.mem;unfold bY at this;rw[fI] at this;omega
 obtain⟨fv,L⟩:=ex ((o.fork st.mem k).1);have F:Hid (iH o st k 5=if fv=0 then ((st.ps.length:Int),{ st with mem:=(o.fork st.mem k).2,ps:=st.ps++[aO st.ps k] }) else (-1,{ st with mem:=(o.fork st.mem k).2 })):=by rw[L];exact rfl
 rw[<- L] at XG;generalize (o.fork st.mem k).2=fm at XG F;generalize iH o st k 5=R at F ⊢;clear h C L;by_cases hf0:fv=0
 . subst hf0;have HR:Hid (R=((st.ps.length:Int),{ st with mem:=fm,ps:=st.ps++[aO st.ps k] })):=by rw[F.o,aC rfl];exact rfl
   clear F;go_enter func218,ntmps218;go_wp2_with ((with_reducible refine XG.o.mono ?_);rintro e w1 ⟨D1,rfl,yr,G,A⟩;have y:=ai (HG.o.turn HC.o yr G A);have Nc:=ai G;have a2:=ai A;clear yr G A;have e1:=aA (v:=vr) y.o.head 1 rfl);obtain⟨pb,cap,S0,a9,Y,Z⟩:=y.o.proc k hk;have M:=ai S0;have Xz:=ai Y;have Q:=ai HR.o;obtain⟨q,hq⟩:=ex (aO st.ps k);simp only at Xz;rw[<- hq] at Xz Q;have Lm:st.ps.length<=4:=by have:=HC.o.ok.few _ _ hok.mem;unfold bY at this;rw[fI] at this;exact this
   obtain⟨n,hn⟩:=ex st.ps.length;simp only at M S0;rw[<- hn] at M S0 Lm hk;have HN:=ai hn;subst S0;have C2:(k:Int)<(n:Int):=by omega
   clear hq hn Y Z HR hok h1;obtain⟨c0,c1,c2,c3,c4,c5,c6,c7,c8,c9,ab,ac,ag⟩:=Pp Xz.o;have ah:∀ob,(w1.alloc ob).cell? (Ad gb 1)=some (.slice (some (Ad pb 0)) n cap):=λob=>aA (bu y.o.head ob) 1 rfl
   obtain⟨i0,N,X,W,U⟩:=kI aaw;have Mk:=ai N;have Tn:=ai X;have Nr:=ai W;have DY:=ai U;have a1:Hid ((w1.alloc (.cells #[I (q.r 0),I (q.r 1),I (q.r 2),I (q.r 3),I (q.r 4),I (q.r 5),I (q.r 6),I (q.r 7),I q.pc,I q.st,I q.cd,I q.fk,I q.fa] 77)).ownsRow lo 77 13 (.slice (some (Ad pb 0)) n cap) n (st.ps.flatMap bO)):=by
    have:=y.o.procs.alloc (.cells #[I (q.r 0),I (q.r 1),I (q.r 2),I (q.r 3),I (q.r 4),I (q.r 5),I (q.r 6),I (q.r 7),I q.pc,I q.st,I q.cd,I q.fk,I q.fa] 77);simp only at this;rw[<- HN.o] at this;exact this
   have a3:Hid (lo<=(w1.alloc (.cells #[I (q.r 0),I (q.r 1),I (q.r 2),I (q.r 3),I (q.r 4),I (q.r 5),I (q.r 6),I (q.r 7),I q.pc,I q.st,I q.cd,I q.fk,I q.fa] 77)).heap.size):=by show _<=_;rw[fY];have:=y.o.base;have:=aQ y.o.head;omega
   have a6:Hid (0<1->∃ad,some ((Ad w1.heap.size 0):Addr)=some ad/\∀j u,(bO q)[j]?=some u->((w1.alloc (.cells #[I (q.r 0),I (q.r 1),I (q.r 2),I (q.r 3),I (q.r 4),I (q.r 5),I (q.r 6),I (q.r 7),I q.pc,I q.st,I q.cd,I q.fk,I q.fa] 77)).drew).cell? (ad.add j)=some u):=λ_=>⟨_,rfl,xY (w:=(w1.alloc (.cells #[I (q.r 0),I (q.r 1),I (q.r 2),I (q.r 3),I (q.r 4),I (q.r 5),I (q.r 6),I (q.r 7),I q.pc,I q.st,I q.cd,I q.fk,I q.fa] 77)).drew) (bH w1 #[I (q.r 0),I (q.r 1),I (q.r 2),I (q.r 3),I (q.r 4),I (q.r 5),I (q.r 6),I (q.r 7),I q.pc,I q.st,I q.cd,I q.fk,I q.fa] 77)⟩
   clear N X W U Xz
   go_region_law (refine tX (P:=prog) rfl _ _ 31 rfl lo 77 i0 (.agg #[I 0,I 0,I 0,I 0,I 0,I 0,I 0,I 0,I 0,I 0,I 0,I 0,I 0]) 13 104 underlying31 Mk.o Tn.o Nr.o DY.o rfl Δ (.slice (some (Ad pb 0)) n cap) n (st.ps.flatMap bO) rfl a1.o.drew (some (Ad w1.heap.size 0)) 1 1 (bO q) rfl rfl a6.o (by intro u hu;simp[bO] at hu;rcases hu with rfl | rfl | rfl | rfl | rfl | rfl | rfl | rfl | rfl | rfl | rfl | rfl | rfl <;> rfl) (by unfold maxLen;omega) ω a3.o ?_;intro v3 w4 J B O;obtain⟨a4,c4,rfl,_⟩:=aZ J;have M7:=ai J;have Y4:Hid ((w1.alloc _).grownBy w4 _):=⟨B.os,B.tape,B.output,B.size,B.block⟩;have a5:=ai O;have K:=AK (bu y.o.head (.cells #[I (q.r 0),I (q.r 1),I (q.r 2),I (q.r 3),I (q.r 4),I (q.r 5),I (q.r 6),I (q.r 7),I q.pc,I q.st,I q.cd,I q.fk,I q.fa] 77)) Y4.o (λe=>y.o.n2 e.symm);have y1:w4.cell? (Ad gb 1)=some (.slice (some (Ad pb 0)) n cap):=aA K 1 rfl;have y2:w4.frozen? (Ad gb 1)=false:=bG K 1;clear J B O K)
   all_goals
    go_wp2;go_ret;have hp:=y.o.asS HC.o (p:=q) Y4.o (by show w4.ownsRow lo _ 13 _ (st.ps.length+1) (st.ps.flatMap bO++bO q);rw[<- HN.o];exact M7.o) a5.o;rw[Q.o];refine⟨by rw[<- HN.o];go_num,?_⟩;obtain⟨hA,hB⟩:aH (kM gb D (.slice (some (Ad pb 0)) n cap) vo) w w1/\∀b,kM gb D1 (.slice (some (Ad pb 0)) n cap) vo b->kM gb D (.slice (some (Ad pb 0)) n cap) vo b\/w.heap.size<=b:=⟨Nc.o.mono (λb _ g=>.inr (.inl g)),λb hb=>by
     rcases hb with g | g | g | g
     . exact .inl (.inl g)
     . rcases a2.o b g with x | x
       . exact .inl (.inr (.inl x))
       exact .inr x
     . exact .inl (.inr (.inr (.inl g)))
     exact .inl (.inr (.inr (.inr g)))⟩
    exact cV.trans hA hB hp
 have HR:Hid (R=(-1,{ st with mem:=fm })):=by rw[F.o,aB hf0];exact rfl
 have a8:(fv==0)=false:=by rw[gT];exact hf0
 clear F hf0;go_enter func218,ntmps218;go_wp2_with ((with_reducible refine XG.o.mono ?_);rintro e w1 ⟨D1,rfl,yr,G,A⟩;have a0:=ai (cV.Qo HC.o HG.o yr G A);clear yr G A);go_ret;rw[HR.o];exact⟨rfl,a0.o⟩
open Go.RowKit
def jN (N q:bT) (j:Nat):bT:=⟨λi=>if i<j then N.r i else q.r i,if 8<j then N.pc else q.pc,if 9<j then N.st else q.st,if 10<j then N.cd else q.cd,if 11<j then N.fk else q.fk,if 12<j then N.fa else q.fa⟩
theorem aoM (N q:bT):bO (jN N q 0)=bO q:=rfl
theorem amV (N q:bT):bO (jN N q 13)=bO N:=rfl
theorem amU (N q:bT):bO (jN N q 1)=(bO (jN N q 0)).set 0 (I (N.r 0)):=rfl
theorem amT (N q:bT):bO (jN N q 2)=(bO (jN N q 1)).set 1 (I (N.r 1)):=rfl
theorem amS (N q:bT):bO (jN N q 3)=(bO (jN N q 2)).set 2 (I (N.r 2)):=rfl
theorem amR (N q:bT):bO (jN N q 4)=(bO (jN N q 3)).set 3 (I (N.r 3)):=rfl
theorem amQ (N q:bT):bO (jN N q 5)=(bO (jN N q 4)).set 4 (I (N.r 4)):=rfl
theorem amP (N q:bT):bO (jN N q 6)=(bO (jN N q 5)).set 5 (I (N.r 5)):=rfl
theorem amO (N q:bT):bO (jN N q 7)=(bO (jN N q 6)).set 6 (I (N.r 6)):=rfl
theorem amN (N q:bT):bO (jN N q 8)=(bO (jN N q 7)).set 7 (I (N.r 7)):=rfl
theorem amM (N q:bT):bO (jN N q 9)=(bO (jN N q 8)).set 8 (I N.pc):=rfl
theorem amL (N q:bT):bO (jN N q 10)=(bO (jN N q 9)).set 9 (I N.st):=rfl
theorem akP (N q:bT):bO (jN N q 11)=(bO (jN N q 10)).set 10 (I N.cd):=rfl
theorem akO (N q:bT):bO (jN N q 12)=(bO (jN N q 11)).set 11 (I N.fk):=rfl
theorem akN (N q:bT):bO (jN N q 13)=(bO (jN N q 12)).set 12 (I N.fa):=rfl
theorem CC {α:Type} (f:α->List Value) (d:α):∀(l:List α) (k:Nat) (x:α),k<l.length->f x=f (l.getD k d)->(l.set k x).flatMap f=l.flatMap f
 | [],k,x,h,_=>by simp at h
 | a::r,0,x,h,e=>by
  have e':f x=f a:=e;rw[sK,o8,o8,e']
 | a::r,k+1,x,h,e=>by
  rw[q9,o8,o8,CC f d r k x (by simpa using h) e]
theorem jh (ps:List bT) (k:Nat) (hk:k<ps.length) (a b:bT) (j:Nat) (hj:j<13) (v:Value) (e:bO b=(bO a).set j v):(ps.set k b).flatMap bO=((ps.set k a).flatMap bO).set (k*13+j) v:=by
 have:=jf bO 13 se Hz b j v hj (ps.set k a) k (by rw[dE];exact hk) (by
  rw[e,cB,KG hk];rfl)
 rw[pS] at this;exact this
theorem aci {w:World} {lo pb n cap:Nat} {ps:List bT} (hr:w.ownsRow lo 77 13 (.slice (some (Ad pb 0)) n cap) n (ps.flatMap bO)) (k:Nat) (hk:k<ps.length) (N:bT) :
  (((((((((((((w.setCell (Ad pb (k*13)) (I (N.r 0))).setCell (Ad pb (k*13+1)) (I (N.r 1))).setCell (Ad pb (k*13+2)) (I (N.r 2))).setCell (Ad pb (k*13+3)) (I (N.r 3))).setCell (Ad pb (k*13+4)) (I (N.r 4))).setCell (Ad pb (k*13+5)) (I (N.r 5))).setCell (Ad pb (k*13+6)) (I (N.r 6))).setCell (Ad pb (k*13+7)) (I (N.r 7))).setCell (Ad pb (k*13+8)) (I N.pc)).setCell (Ad pb (k*13+9)) (I N.st)).setCell (Ad pb (k*13+10)) (I N.cd)).setCell (Ad pb (k*13+11)) (I N.fk)).setCell (Ad pb (k*13+12)) (I N.fa)).ownsRow lo 77 13 (.slice (some (Ad pb 0)) n cap) n ((ps.set k N).flatMap bO):=by
 have h0:(ps.set k (jN N (aO ps k) 0)).flatMap bO=ps.flatMap bO:=CC bO Hz ps k _ hk (aoM N (aO ps k));have A:(ps.set k N).flatMap bO=(ps.set k (jN N (aO ps k) 13)).flatMap bO:=by
  have:=CC bO Hz (ps.set k (jN N (aO ps k) 13)) k N (by rw[dE];exact hk) (by rw[cB,KG hk];exact(amV N (aO ps k)).symm);rw[pS] at this;exact this
 rw[<- h0] at hr;rw[A];have r0:=dJ hr (k*13+0) (I (N.r 0));rw[<- jh ps k hk _ _ 0 ω _ (amU N (aO ps k))] at r0;have r1:=dJ r0 (k*13+1) (I (N.r 1));rw[<- jh ps k hk _ _ 1 ω _ (amT N (aO ps k))] at r1;have r2:=dJ r1 (k*13+2) (I (N.r 2));rw[<- jh ps k hk _ _ 2 ω _ (amS N (aO ps k))] at r2;have r3:=dJ r2 (k*13+3) (I (N.r 3));rw[<- jh ps k hk _ _ 3 ω _ (amR N (aO ps k))] at r3;have r4:=dJ r3 (k*13+4) (I (N.r 4));rw[<- jh ps k hk _ _ 4 ω _ (amQ N (aO ps k))] at r4;have r5:=dJ r4 (k*13+5) (I (N.r 5));rw[<- jh ps k hk _ _ 5 ω _ (amP N (aO ps k))] at r5;have r6:=dJ r5 (k*13+6) (I (N.r 6));rw[<- jh ps k hk _ _ 6 ω _ (amO N (aO ps k))] at r6;have r7:=dJ r6 (k*13+7) (I (N.r 7));rw[<- jh ps k hk _ _ 7 ω _ (amN N (aO ps k))] at r7;have r8:=dJ r7 (k*13+8) (I N.pc);rw[<- jh ps k hk _ _ 8 ω _ (amM N (aO ps k))] at r8;have r9:=dJ r8 (k*13+9) (I N.st);rw[<- jh ps k hk _ _ 9 ω _ (amL N (aO ps k))] at r9;have b:=dJ r9 (k*13+10) (I N.cd);rw[<- jh ps k hk _ _ 10 ω _ (akP N (aO ps k))] at b;have q:=dJ b (k*13+11) (I N.fk);rw[<- jh ps k hk _ _ 11 ω _ (akO N (aO ps k))] at q;have y:=dJ q (k*13+12) (I N.fa);rw[<- jh ps k hk _ _ 12 ω _ (akN N (aO ps k))] at y;exact y
theorem ae2 {D:Nat->Prop} (w:World) (pb k:Nat) (N:bT) (h:D pb):aH D w (((((((((((((w.setCell (Ad pb (k*13)) (I (N.r 0))).setCell (Ad pb (k*13+1)) (I (N.r 1))).setCell (Ad pb (k*13+2)) (I (N.r 2))).setCell (Ad pb (k*13+3)) (I (N.r 3))).setCell (Ad pb (k*13+4)) (I (N.r 4))).setCell (Ad pb (k*13+5)) (I (N.r 5))).setCell (Ad pb (k*13+6)) (I (N.r 6))).setCell (Ad pb (k*13+7)) (I (N.r 7))).setCell (Ad pb (k*13+8)) (I N.pc)).setCell (Ad pb (k*13+9)) (I N.st)).setCell (Ad pb (k*13+10)) (I N.cd)).setCell (Ad pb (k*13+11)) (I N.fk)).setCell (Ad pb (k*13+12)) (I N.fa)) :=
 (((((((((((((aH.refl D w).trans (aH.set D _ (Ad pb (k*13)) _ h) (λ_ _ g=>g)).trans (aH.set D _ (Ad pb (k*13+1)) _ h) (λ_ _ g=>g)).trans (aH.set D _ (Ad pb (k*13+2)) _ h) (λ_ _ g=>g)).trans (aH.set D _ (Ad pb (k*13+3)) _ h) (λ_ _ g=>g)).trans (aH.set D _ (Ad pb (k*13+4)) _ h) (λ_ _ g=>g)).trans (aH.set D _ (Ad pb (k*13+5)) _ h) (λ_ _ g=>g)).trans (aH.set D _ (Ad pb (k*13+6)) _ h) (λ_ _ g=>g)).trans (aH.set D _ (Ad pb (k*13+7)) _ h) (λ_ _ g=>g)).trans (aH.set D _ (Ad pb (k*13+8)) _ h) (λ_ _ g=>g)).trans (aH.set D _ (Ad pb (k*13+9)) _ h) (λ_ _ g=>g)).trans (aH.set D _ (Ad pb (k*13+10)) _ h) (λ_ _ g=>g)).trans (aH.set D _ (Ad pb (k*13+11)) _ h) (λ_ _ g=>g)).trans (aH.set D _ (Ad pb (k*13+12)) _ h) (λ_ _ g=>g)
section
variable {MT:y7} {σ:Type} {Hd:World->(Nat->Prop)->σ->Prop} {Ok:σ->List Bool->Prop} {o:lK σ} {lo mb gb:Nat} {w w':World} {D:Nat->Prop} {vo:Value} {st:dB σ}
theorem fR.an8 (C:ja MT lo mb Hd Ok o) {pb n cap:Nat} (h:fR MT Hd lo mb gb w D (.slice (some (Ad pb 0)) n cap) vo st) (k:Nat) (hk:k<st.ps.length) (hn:n=st.ps.length) (N:bT) :
  cV MT Hd lo mb gb w D (.slice (some (Ad pb 0)) n cap) vo { st with ps:=st.ps.set k N } (((((((((((((w.setCell (Ad pb (k*13)) (I (N.r 0))).setCell (Ad pb (k*13+1)) (I (N.r 1))).setCell (Ad pb (k*13+2)) (I (N.r 2))).setCell (Ad pb (k*13+3)) (I (N.r 3))).setCell (Ad pb (k*13+4)) (I (N.r 4))).setCell (Ad pb (k*13+5)) (I (N.r 5))).setCell (Ad pb (k*13+6)) (I (N.r 6))).setCell (Ad pb (k*13+7)) (I (N.r 7))).setCell (Ad pb (k*13+8)) (I N.pc)).setCell (Ad pb (k*13+9)) (I N.st)).setCell (Ad pb (k*13+10)) (I N.cd)).setCell (Ad pb (k*13+11)) (I N.fk)).setCell (Ad pb (k*13+12)) (I N.fa)):=by
 have hb:si (.slice (some (Ad pb 0)) n cap) pb:=rfl;have kS:aH (λb=>b=pb) w _:=ae2 w pb k N rfl;refine⟨D,.slice (some (Ad pb 0)) n cap,vo,⟨kS.keep h.head (λe=>h.n2 (e ▸ hb)),C.kp _ _ _ _ _ h.mem kS (λb hd e=>h.n4 pb hb (e ▸ hd)),?_,kS.row h.outs (λg hg e=>h.n6 pb hb (e ▸ hg)),h.base,h.n1,h.n2,h.n3,h.n4,h.n5,h.n6⟩,kS.mono (λb _ e=>.inr (.inr (.inl (e ▸ hb)))),λb hb=>.inl hb⟩;have hp:=h.procs;rw[<- hn] at hp;show World.ownsRow _ lo _ 13 _ (st.ps.set k N).length _;rw[dE,<- hn];exact aci hp k hk N
end
open Go.RowKit
variable {MT:y7} {σ:Type} {Hd:World->(Nat->Prop)->σ->Prop} {Ok:σ->List Bool->Prop} {o:lK σ} {lo mb gb:Nat} {D:Nat->Prop} {vr vo:Value} {st:dB σ}
theorem M6 (c:Int) (hc:c=2\/c=3\/c=4) (C:ja MT lo mb Hd Ok o) (k:Nat) (w:World) (h:fR MT Hd lo mb gb w D vr vo st) (hok:ez Ok st) (hk:k<st.ps.length) (h1:(aO st.ps k).st=1) :
  Calls prog 196 #[.pointer (some (Ad gb 0)),I (k:Int),I c] w λe w'=>e=.returned (I (iH o st k c).1)/\cV MT Hd lo mb gb w D vr vo (iH o st k c).2 w':=by
 have HG:=ai h;have HC:=ai C;obtain⟨pb,cap,S0,U,N,O⟩:=h.proc k hk;have Xz:=ai N;have K:=lY k hk h1;have A:=hok.fit k hk;have Qk:=ai hok;have G:=ai K;have b:=ai A;have Lm:st.ps.length<=4:=by have:=C.ok.few _ _ hok.mem;unfold bY at this;rw[fI] at this;exact this
 have Nc:=ai hk;have W:=ai h1;obtain⟨q,hq⟩:=ex (aO st.ps k);rw[<- hq] at Xz b;have HQ:=ai hq;obtain⟨n,hn⟩:=ex st.ps.length;rw[<- hn] at S0 hk Lm;subst S0;have HN:=ai hn;have C2:(k:Int)<(n:Int):=by omega
 have g0:w.cell? (Ad gb 0)=some (.iface MT.T (.pointer (some (Ad mb 0)))):=aA HG.o.head 0 rfl;have g1:w.cell? (Ad gb 1)=some (.slice (some (Ad pb 0)) n cap):=aA HG.o.head 1 rfl;have Z:=aQ HG.o.head;obtain⟨c0,c1,c2,c3,c4,c5,c6,c7,-⟩:=Pp Xz.o;have jc:=ai ((aN w.heap.size w).alloc (aK _) (.cells #[I (q.r 0),I (q.r 1),I (q.r 2),I (q.r 3),I (q.r 4),I (q.r 5),I (q.r 6),I (q.r 7)] 73));have BX:=ai (bH w #[I (q.r 0),I (q.r 1),I (q.r 2),I (q.r 3),I (q.r 4),I (q.r 5),I (q.r 6),I (q.r 7)] 73);clear hq hn N O h C Xz hok K A;have hm:=MT.aqe (Ad mb 0);have ha:=MT.aq3 (Ad mb 0);have R:=MT.aq0;have mu:=MT.agI (Ad mb 0);have au:=MT.ag3 (Ad mb 0);have Y:=MT.ag0;have mp:=MT.UE (Ad mb 0);have ap:=MT.UQ (Ad mb 0);have a0:=MT.UO;obtain⟨RR,B⟩:=ex (iH o st k c);rw[<- B];have F:=ai B;clear B;rcases hc with rfl | rfl | rfl
 all_goals
  go_enter func196,ntmps196;go_wp2_with fail;obtain⟨WA,pU⟩:=ex (w.alloc (.cells #[I (q.r 0),I (q.r 1),I (q.r 2),I (q.r 3),I (q.r 4),I (q.r 5),I (q.r 6),I (q.r 7)] 73));rw[<- pU] at jc BX ⊢;obtain⟨rb,Lg⟩:=ex w.heap.size;rw[<- Lg] at BX ⊢;have Pw:=ai Lg;have Ns:=ai (HG.o.below HC.o jc.o);clear pU Lg c0 c1 c2 c3 c4 c5 c6 c7
  first
   | (have y:=ai (HC.o.map WA.drew D st.mem _ k (q.r 0) (q.r 1) (q.r 2) (HC.o.kp _ _ _ (λ_=>False) _ Ns.o.mem (aH.drew _ _) (λ_ _ g=>g)) Qk.o.mem G.o (b.o.1 0 ω) (b.o.1 1 ω));have HR:Hid (RR=((o.map st.mem k (q.r 0) (q.r 1) (q.r 2)).1,{ st with mem:=(o.map st.mem k (q.r 0) (q.r 1) (q.r 2)).2 })):=by show _=_;rw[F.o,HQ.o];exact rfl
      generalize o.map st.mem k (q.r 0) (q.r 1) (q.r 2)=X at y HR)
   | (have y:=ai (HC.o.qX WA.drew D st.mem _ k (q.r 0) (q.r 1) (HC.o.kp _ _ _ (λ_=>False) _ Ns.o.mem (aH.drew _ _) (λ_ _ g=>g)) Qk.o.mem G.o (b.o.1 0 ω) (b.o.1 1 ω));have HR:Hid (RR=((o.qX st.mem k (q.r 0) (q.r 1)).1,{ st with mem:=(o.qX st.mem k (q.r 0) (q.r 1)).2 })):=by show _=_;rw[F.o,HQ.o];exact rfl
      generalize o.qX st.mem k (q.r 0) (q.r 1)=X at y HR)
   | (have y:=ai (HC.o.ko WA.drew D st.mem _ k (q.r 0) (q.r 1) (q.r 2) (HC.o.kp _ _ _ (λ_=>False) _ Ns.o.mem (aH.drew _ _) (λ_ _ g=>g)) Qk.o.mem G.o (b.o.1 0 ω) (b.o.1 1 ω));have HR:Hid (RR=((o.ko st.mem k (q.r 0) (q.r 1) (q.r 2)).1,{ st with mem:=(o.ko st.mem k (q.r 0) (q.r 1) (q.r 2)).2 })):=by show _=_;rw[F.o,HQ.o];exact rfl
      generalize o.ko st.mem k (q.r 0) (q.r 1) (q.r 2)=X at y HR)
  have HS:Hid (∀V,aH D WA V->V.cell? (Ad gb 0)=some (.iface MT.T (.pointer (some (Ad mb 0))))/\V.cell? (Ad rb 0)=some (I (q.r 0))/\V.cell? (Ad rb 1)=some (I (q.r 1))/\V.cell? (Ad rb 2)=some (I (q.r 2))):=λV hb=>by
   have h1:=hb.keep BX.o (λg=>by have:=HC.o.dom _ _ _ HG.o.mem _ g;have:=Pw.o;omega);have h2:=hb.keep Ns.o.head Ns.o.n1;exact⟨aA h2 0 rfl,aA h1 0 rfl,aA h1 1 rfl,aA h1 2 rfl⟩
  have pK:=ai (HS.o _ (aH.drew _ _))
  go_region_held3 (λV=>V.cell? (Ad gb 0)=some (.iface MT.T (.pointer (some (Ad mb 0))))/\V.cell? (Ad rb 0)=some (I (q.r 0))/\V.cell? (Ad rb 1)=some (I (q.r 1))/\V.cell? (Ad rb 2)=some (I (q.r 2))) (first | exact Mf.o | exact pK.o)
   (((with_reducible refine y.o.mono ?_);rintro e w2 ⟨D2,rfl,M,L,J⟩;have uD:Hid (aH D WA w2):=(aH.drew D WA).trans L (λ_ _ g=>g);have Mf:=ai (HS.o _ uD.o);have XE:=ai M;have Q:=ai J;clear M L J))
  go_wp2;go_ret;rw[HR.o];exact⟨rfl,cV.after jc.o (cV.Qo HC.o Ns.o XE.o uD.o Q.o)⟩
open Go.RowKit
variable {MT:y7} {σ:Type} {Hd:World->(Nat->Prop)->σ->Prop} {Ok:σ->List Bool->Prop} {o:lK σ} {lo mb gb:Nat} {D:Nat->Prop} {vr vo:Value} {st:dB σ}
theorem M5 (C:ja MT lo mb Hd Ok o) (k:Nat) {w:World} (h:fR MT Hd lo mb gb w D vr vo st) (hok:ez Ok st) (hk:k<st.ps.length):∃pb n cap,n=st.ps.length/\vr=.slice (some (Ad pb 0)) n cap/\n<=4/\(k:Int)<(n:Int)/\k<n/\gb<w.heap.size/\Hid (∀c,Below w.heap.size w (w.alloc c))/\(w.cell? (Ad gb 0)=some (.iface MT.T (.pointer (some (Ad mb 0))))/\w.cell? (Ad gb 1)=some (.slice (some (Ad pb 0)) n cap))/\w.cell? (Ad pb (k*13))=some (I ((aO st.ps k).r 0))/\w.cell? (Ad pb (k*13+1))=some (I ((aO st.ps k).r 1))/\w.cell? (Ad pb (k*13+2))=some (I ((aO st.ps k).r 2))/\w.cell? (Ad pb (k*13+3))=some (I ((aO st.ps k).r 3))/\w.cell? (Ad pb (k*13+4))=some (I ((aO st.ps k).r 4))/\w.cell? (Ad pb (k*13+5))=some (I ((aO st.ps k).r 5))/\w.cell? (Ad pb (k*13+6))=some (I ((aO st.ps k).r 6))/\w.cell? (Ad pb (k*13+7))=some (I ((aO st.ps k).r 7)):=by
 obtain⟨pb,cap,S0,y,b,q⟩:=h.proc k hk;have Lm:st.ps.length<=4:=by have:=C.ok.few _ _ hok.mem;unfold bY at this;rw[fI] at this;exact this
 have hh:=h.head;rw[S0] at hh;exact⟨pb,_,cap,rfl,S0,Lm,ω,hk,aQ hh,(λc=>(aN _ _).alloc (aK _) c:Hid _),⟨aA hh 0 rfl,aA hh 1 rfl⟩,b 0 ω,b 1 ω,b 2 ω,b 3 ω,b 4 ω,b 5 ω,b 6 ω,b 7 ω⟩
theorem amX (C:ja MT lo mb Hd Ok o) (k:Nat) (w:World) (h:fR MT Hd lo mb gb w D vr vo st) (hok:ez Ok st) (hk:k<st.ps.length) (h1:(aO st.ps k).st=1) :
  Calls prog 196 #[.pointer (some (Ad gb 0)),I (k:Int),I 5] w λe w'=>e=.returned (I (iH o st k 5).1)/\cV MT Hd lo mb gb w D vr vo (iH o st k 5).2 w':=by
 have XG:=ai (λV (hV:Below w.heap.size w V)=>ae3 C k V (h.below C hV) hok hk h1);obtain⟨pb,n,cap,hn,rfl,Lm,C2,A,y,HX,⟨g0,g1⟩,c0,c1,c2,c3,c4,c5,c6,c7⟩:=M5 C k h hok hk;clear hn h C hok h1;generalize aO st.ps k=q at *;generalize iH o st k 5=RR at *;go_enter func196,ntmps196;go_wp2_with (go_at_call 218;refine(XG.o _ (HX.o _)).mono ?_;rintro e w1 ⟨rfl,ZK⟩;have b:=ai ZK;clear ZK);go_ret;exact⟨rfl,cV.after (HX.o _) b.o⟩
theorem amW (C:ja MT lo mb Hd Ok o) (k:Nat) (w:World) (h:fR MT Hd lo mb gb w D vr vo st) (hok:ez Ok st) (hk:k<st.ps.length) (h1:(aO st.ps k).st=1) :
  Calls prog 196 #[.pointer (some (Ad gb 0)),I (k:Int),I 6] w λe w'=>e=.returned (I (iH o st k 6).1)/\cV MT Hd lo mb gb w D vr vo (iH o st k 6).2 w':=by
 have HG:=ai h;have HC:=ai C;have HR:Hid (iH o st k 6=(0,{ st with mem:=o.drop st.mem k })):=rfl;have B:=ai (λV (hV:Below w.heap.size w V)=>C.drop V D st.mem _ k (h.below C hV).mem hok.mem (lY k hk h1));obtain⟨pb,n,cap,hn,rfl,Lm,C2,J,F,HX,⟨g0,g1⟩,c0,c1,c2,c3,c4,c5,c6,c7⟩:=M5 C k h hok hk;clear hn h C hok h1;generalize aO st.ps k=q at *;generalize iH o st k 6=RR at *;have hm:=MT.aiZ (Ad mb 0);have ha:=MT.ajp (Ad mb 0);have G:=MT.ajn;go_enter func196,ntmps196;go_wp2_with ((with_reducible refine(B.o _ (HX.o _)).mono ?_);rintro e w2 ⟨D2,rfl,A,y,b⟩;have DW:=ai (cV.Qo HC.o (HG.o.below HC.o (HX.o _)) A y b);clear A y b);go_ret;rw[HR.o];exact⟨rfl,cV.after (HX.o _) DW.o⟩
theorem amY (C:ja MT lo mb Hd Ok o) (k:Nat) (w:World) (h:fR MT Hd lo mb gb w D vr vo st) (hok:ez Ok st) (hk:k<st.ps.length) (h1:(aO st.ps k).st=1) :
  Calls prog 196 #[.pointer (some (Ad gb 0)),I (k:Int),I 1] w λe w'=>e=.returned (I (iH o st k 1).1)/\cV MT Hd lo mb gb w D vr vo (iH o st k 1).2 w':=by
 have HG:=ai h;have HC:=ai C;have HR:Hid (iH o st k 1=(0,{ st with out:=st.out++[⟨(k:Int),(aO st.ps k).r 0⟩] })):=rfl;have R:=hok.out;obtain⟨pb,n,cap,hn,rfl,Lm,C2,Y,W,HX,⟨g0,g1⟩,c0,c1,c2,c3,c4,c5,c6,c7⟩:=M5 C k h hok hk;clear hn h C hok h1;generalize aO st.ps k=q at *;generalize iH o st k 1=RR at *;have jc:=ai (HX.o (.cells #[I (q.r 0),I (q.r 1),I (q.r 2),I (q.r 3),I (q.r 4),I (q.r 5),I (q.r 6),I (q.r 7)] 73));have BX:=ai (bH w #[I (q.r 0),I (q.r 1),I (q.r 2),I (q.r 3),I (q.r 4),I (q.r 5),I (q.r 6),I (q.r 7)] 73);obtain⟨no,B⟩:=ex st.out.length;rw[<- B] at R;have sk:=ai B;clear B;go_enter func196,ntmps196;go_wp2_with fail;obtain⟨WA,pU⟩:=ex (w.alloc (.cells #[I (q.r 0),I (q.r 1),I (q.r 2),I (q.r 3),I (q.r 4),I (q.r 5),I (q.r 6),I (q.r 7)] 73));rw[<- pU] at jc BX ⊢;obtain⟨rb,Lg⟩:=ex w.heap.size;rw[<- Lg] at BX ⊢;have Ns:=ai (HG.o.below HC.o jc.o);obtain⟨ao,co,A,_,_⟩:=aZ Ns.o.outs;rw[<- sk.o] at A;have X:=ai A;have e2:WA.cell? (Ad gb 2)=some vo:=aA Ns.o.head 2 rfl;have U:∀ob,(WA.alloc ob).cell? (Ad gb 2)=some vo:=λob=>aA (bu Ns.o.head ob) 2 rfl
 have x0:WA.cell? (Ad rb 0)=some (I (q.r 0)):=aA BX.o 0 rfl;clear A pU Lg c0 c1 c2 c3 c4 c5 c6 c7 g0 g1;obtain⟨i0,G,M,K,L⟩:=kI aau;have Mk:=ai G;have Tn:=ai M;have Nr:=ai K;have DY:=ai L;have N:Hid ((WA.alloc (.cells #[I (k:Int),I (q.r 0)] 91)).drew.ownsRow lo 91 2 vo no (st.out.flatMap kH)):=by
  have:=Ns.o.outs.alloc (.cells #[I (k:Int),I (q.r 0)] 91);rw[<- sk.o] at this;exact this
 have O:Hid (lo<=(WA.alloc (.cells #[I (k:Int),I (q.r 0)] 91)).drew.heap.size):=by show lo<=(WA.alloc _).heap.size;rw[fY];have:=Ns.o.base;have:=aQ Ns.o.head;omega
 have T:Hid (0<1->∃ad,some ((Ad WA.heap.size 0):Addr)=some ad/\∀j u,([I (k:Int),I (q.r 0)]:List Value)[j]?=some u->((WA.alloc (.cells #[I (k:Int),I (q.r 0)] 91)).drew).cell? (ad.add j)=some u):=λ_=>⟨_,rfl,xY (w:=(WA.alloc (.cells #[I (k:Int),I (q.r 0)] 91)).drew) (bH WA #[I (k:Int),I (q.r 0)] 91)⟩
 clear G M K L
 go_region_law (refine tX (P:=prog) rfl _ _ 32 rfl lo 91 i0 (.agg #[I 0,I 0]) 2 16 underlying32 Mk.o Tn.o Nr.o DY.o rfl Δ vo no (st.out.flatMap kH) rfl N.o (some (Ad WA.heap.size 0)) 1 1 [I (k:Int),I (q.r 0)] rfl rfl T.o (by intro u hu;simp at hu;rcases hu with rfl | rfl <;> rfl) (by unfold maxLen;omega) ω O.o ?_;intro v3 w4 y b J;obtain⟨a4,c4,rfl,_⟩:=aZ y;have M7:=ai y;have Y4:Hid ((WA.alloc _).grownBy w4 _):=⟨b.os,b.tape,b.output,b.size,b.block⟩;have Q:=ai J;have F:=AK (bu Ns.o.head (.cells #[I (k:Int),I (q.r 0)] 91)) Y4.o (λe=>Ns.o.n3 e.symm);have y1:w4.cell? (Ad gb 2)=some vo:=aA F 2 rfl;have y2:w4.frozen? (Ad gb 2)=false:=bG F 2;clear y b J F)
 all_goals
  go_wp2;go_ret;have hp:=Ns.o.asR HC.o (x:=⟨(k:Int),q.r 0⟩) Y4.o (by rw[<- sk.o];exact M7.o) Q.o;rw[HR.o];exact⟨rfl,cV.after jc.o hp⟩
theorem ae4 (C:ja MT lo mb Hd Ok o) (k:Nat) (c:Int) (w:World) (h:fR MT Hd lo mb gb w D vr vo st) (hok:ez Ok st) (hk:k<st.ps.length) (h1:(aO st.ps k).st=1) (hc:1<=c/\c<=6) :
  Calls prog 196 #[.pointer (some (Ad gb 0)),I (k:Int),I c] w λe w'=>e=.returned (I (iH o st k c).1)/\cV MT Hd lo mb gb w D vr vo (iH o st k c).2 w':=by
 rcases(ω:c=1\/c=2\/c=3\/c=4\/c=5\/c=6) with rfl | rfl | rfl | rfl | rfl | rfl
 . exact amY C k w h hok hk h1
 . exact M6 2 (.inl rfl) C k w h hok hk h1
 . exact M6 3 (.inr (.inl rfl)) C k w h hok hk h1
 . exact M6 4 (.inr (.inr rfl)) C k w h hok hk h1
 . exact amX C k w h hok hk h1
 exact amW C k w h hok hk h1
open Go.RowKit
theorem dn {p:Prop} (h:p):Hid p:=h
theorem Lr (s:ByteArray) (w:World) (h:s.size=8) :
  Calls prog 193 #[.string s] w λe w'=>e=.returned (.tuple #[.agg (eu.cells (iC s)),I 0])/\Below w.heap.size w w':=by
 have hG:∀V,Calls prog 195 #[.string (s.extract 4 8)] V λe w'=>e=.returned (.tuple #[I (wrap64 (Lib.leNat (s.data.toList.drop 4))),I 0])/\V=w':=λV=>by
  have h1:(s.extract 4 8).size=4:=by simp;omega
  have h2:=Xf (s.extract 4 8) V ω ω;rw[S9 s h] at h2;exact h2
 have h4:=U3 s h;have hv:eu.cells (iC s)=#[I (uE s 0),I (uE s 1),I (uE s 2),I (uE s 3),I (yb ((Lib.leNat (s.data.toList.drop 4):Nat):Int))]:=rfl;have b:=ako ((Lib.leNat (s.data.toList.drop 4):Nat):Int) ω ω;have q:=Ls ((Lib.leNat (s.data.toList.drop 4):Nat):Int) ω ω;rw[hv];have he:wrap64 ((Lib.leNat (s.data.toList.drop 4):Nat):Int)=((Lib.leNat (s.data.toList.drop 4):Nat):Int):=by unfold wrap64;omega
 rw[he] at hG;obtain⟨L,hL⟩:∃L:Int,L=((Lib.leNat (s.data.toList.drop 4):Nat):Int):=⟨_,rfl⟩;rw[<- hL] at hG b q;rw[<- hL];obtain⟨R,hR⟩:∃R:Int,R=yb L:=⟨_,rfl⟩;rw[<- hR] at b q;rw[<- hR];have HG:=dn hG;have g0:=KL s 0 ω;have g1:=KL s 1 ω;have g2:=KL s 2 ω;have g3:=KL s 3 ω;have hr:IntKind.i64.wrap R=R:=sJ _ ω;have u0:=Gx s 0;have u1:=Gx s 1;have u2:=Gx s 2;have u3:=Gx s 3;clear hG hL hR hv he h4;go_enter func193,ntmps193;go_wp2_with fail;refine(HG.o _).mono ?_;rintro e w1 ⟨rfl,rfl⟩;go_wp2_with fail;go_region;go_wp2;refine b9 (v:=.tuple #[.agg #[I (uE s 0),I (uE s 1),I (uE s 2),I (uE s 3),I R],I 0]) (by simp[results,results193,go_sem]) rfl ?_;exact⟨rfl,((aN _ _).alloc (aK _) _).drew⟩
open Go.RowKit
open Go.RowKit
def tI (l:List Int):Array Value:=(l.map λx=>I x).toArray
theorem ad6 (l:List Int) (k:Nat) (h:k<l.length):(tI l)[k]?=some (I (l.getD k 0)):=by
 simp[tI,h]
theorem yA (l:List Int) (b:Nat) (w:World) (hl:l.length<=4) (hx:w.heap[b]?=some (.cells (tI l) 3 (0,0))) :
  Calls prog 229 #[.slice (some (Ad b 0)) l.length l.length] w λe w'=>e=.returned (.bool (gY l))/\w=w':=by
 have HX:=dn hx;have HN:=dn (XX l);have HY:=dn (U4 l);generalize gY l=R at HN HY ⊢;clear hx;go_enter func229,ntmps229;go_wp2
 go_loop [7] (λi=>∃k:Nat,k<=l.length/\i=I k/\∀j,j<k->0<=l.getD j 0/\l.getD j 0<8) (λi=>l.length-(intOf i).toNat)
 case atStart=>exact⟨0,ω,rfl,λj hj=>absurd hj ω⟩
 case round =>
  obtain⟨k,hk,rfl,hj⟩:=hrel;have HJ:=dn hj;clear hj;by_cases hlt:k<l.length
  . have hc:=aA HX.o k (ad6 l k hlt);have HG:=dn (show l[k]?=some (l.getD k 0) from by simp[hlt]);have q:Hid (0<=l.getD k 0/\l.getD k 0<8->∀j,j<k+1->0<=l.getD j 0/\l.getD j 0<8):=λh j hjj=>by
     rcases Nz j k with g | g
     . exact HJ.o j g
     obtain rfl:j=k:=by omega
     exact h
    generalize l.getD k 0=x at hc HG q;by_cases h0:0<=x
    . by_cases h1:x<8
      . go_wp2
        go_round
        case rel=>exact⟨k+1,ω,by go_num,q.o ⟨h0,h1⟩⟩
        case measure=>simp[intOf];omega
      obtain rfl:=HN.o k x HG.o (λh=>h1 h.2);go_wp2;go_ret;exact⟨rfl,rfl⟩
    obtain rfl:=HN.o k x HG.o (λh=>h0 h.1);go_wp2;go_ret;exact⟨rfl,rfl⟩
  obtain rfl:k=l.length:=by omega
  obtain rfl:=HY.o (λj x hx=>by
   have IG:j<l.length:=(aa1.1 hx).1;have e:l.getD j 0=x:=by simp[hx]
   rw[<- e];exact HJ.o j IG)
  go_wp2;go_ret;exact⟨rfl,rfl⟩
theorem XT (n:Int) (w:World):Calls prog 230 #[I n] w λe w'=>e=.returned (.bool (uv n))/\w=w':=by
 by_cases h1:n=1
 . subst h1;go_enter func230,ntmps230;go_wp2;go_ret;exact⟨rfl,rfl⟩
 by_cases h2:n=2
 . subst h2;go_enter func230,ntmps230;go_wp2;go_ret;exact⟨rfl,rfl⟩
 by_cases h3:n=4
 . subst h3;go_enter func230,ntmps230;go_wp2;go_ret;exact⟨rfl,rfl⟩
 rw[show uv n=decide (n=8) from by unfold uv;simp[h1,h2,h3]];go_enter func230,ntmps230;go_wp2;go_ret;have b1:(n==1)=false:=by simpa using h1
 have b2:(n==2)=false:=by simpa using h2
 have b3:(n==4)=false:=by simpa using h3
 have b4:(n==8)=decide (n=8):=by by_cases h:n=8 <;> simp[h]
 exact⟨by simp only[b1,b2,b3,b4,Bool.false_or];rfl,rfl⟩
open Go.RowKit
theorem akm (op a b c m:Int) (w:World) (h:op=1\/op=11\/op=15):Calls prog 217 #[.agg #[I op,I a,I b,I c,I m]] w λe w'=>e=.returned (.bool (!gY [a]))/\Below w.heap.size w w':=by
 have HA:Hid (∀V:World,Calls prog 229 #[.slice (some (Ad (w.heap.size+1) 0)) 1 1] ((w.alloc (.cells #[I op,I a,I b,I c,I m] 108)).alloc (.cells (tI [a]) 3)) λe w'=>e=.returned (.bool (gY [a]))/\((w.alloc (.cells #[I op,I a,I b,I c,I m] 108)).alloc (.cells (tI [a]) 3))=w'):=λV=>yA [a] (w.heap.size+1) _ ξ (by have e:=bH (w.alloc (.cells #[I op,I a,I b,I c,I m] 108)) (tI [a]) 3;rw[fY] at e;exact e)
 generalize gY [a]=R at HA ⊢;rcases h with rfl | rfl | rfl
 all_goals
  go_enter func217,ntmps217;go_wp2_with fail;refine(HA.o w).mono ?_;rintro e w' ⟨rfl,rfl⟩;go_wp2;go_ret;exact⟨ξ,((aN _ _).alloc (aK _) _).alloc ξ _⟩
theorem akl (op a b c m:Int) (w:World) (h:op=2\/op=3\/op=4\/op=5\/op=6\/op=7):Calls prog 217 #[.agg #[I op,I a,I b,I c,I m]] w λe w'=>e=.returned (.bool (!gY [a,b,c]))/\Below w.heap.size w w':=by
 have HA:Hid (∀V:World,Calls prog 229 #[.slice (some (Ad (w.heap.size+1) 0)) 3 3] ((w.alloc (.cells #[I op,I a,I b,I c,I m] 108)).alloc (.cells (tI [a,b,c]) 3)) λe w'=>e=.returned (.bool (gY [a,b,c]))/\((w.alloc (.cells #[I op,I a,I b,I c,I m] 108)).alloc (.cells (tI [a,b,c]) 3))=w'):=λV=>yA [a,b,c] (w.heap.size+1) _ ξ (by have e:=bH (w.alloc (.cells #[I op,I a,I b,I c,I m] 108)) (tI [a,b,c]) 3;rw[fY] at e;exact e)
 generalize gY [a,b,c]=R at HA ⊢;rcases h with rfl | rfl | rfl | rfl | rfl | rfl
 all_goals
  go_enter func217,ntmps217;go_wp2_with fail;refine(HA.o w).mono ?_;rintro e w' ⟨rfl,rfl⟩;go_wp2;go_ret;exact⟨ξ,((aN _ _).alloc (aK _) _).alloc ξ _⟩
theorem akk (op a b c m:Int) (w:World) (h:op=8\/op=13\/op=14):Calls prog 217 #[.agg #[I op,I a,I b,I c,I m]] w λe w'=>e=.returned (.bool (!gY [a,b]))/\Below w.heap.size w w':=by
 have HA:Hid (∀V:World,Calls prog 229 #[.slice (some (Ad (w.heap.size+1) 0)) 2 2] ((w.alloc (.cells #[I op,I a,I b,I c,I m] 108)).alloc (.cells (tI [a,b]) 3)) λe w'=>e=.returned (.bool (gY [a,b]))/\((w.alloc (.cells #[I op,I a,I b,I c,I m] 108)).alloc (.cells (tI [a,b]) 3))=w'):=λV=>yA [a,b] (w.heap.size+1) _ ξ (by have e:=bH (w.alloc (.cells #[I op,I a,I b,I c,I m] 108)) (tI [a,b]) 3;rw[fY] at e;exact e)
 generalize gY [a,b]=R at HA ⊢;rcases h with rfl | rfl | rfl
 all_goals
  go_enter func217,ntmps217;go_wp2_with fail;refine(HA.o w).mono ?_;rintro e w' ⟨rfl,rfl⟩;go_wp2;go_ret;exact⟨ξ,((aN _ _).alloc (aK _) _).alloc ξ _⟩
end Go.Proofs.YtlgoihmkgaaemaaGreat
