import Derived.Test.YtlgoihmkgaaemaaGreatGP03
import Derived.Lib.Walk
import Derived.Lib.BufferWrite
set_option maxHeartbeats 20000000
set_option linter.unusedVariables false
set_option maxRecDepth 100000
set_option linter.unusedSimpArgs false
namespace Go.Proofs.YtlgoihmkgaaemaaGreat
open Go.RowKit Tryz
structure iZ (σ:Type) where
 load:σ->Nat->Int->Int->Int->(ByteArray×(Int×Int))×σ
 store:σ->Nat->Int->ByteArray->(Int×Int)×σ
 map:σ->Nat->Int->Int->Int->Int×σ
 ry:σ->Nat->Int->Int->Int×σ
 kL:σ->Nat->Int->Int->Int->Int×σ
 fork:σ->Nat->Int×σ
 drop:σ->Nat->σ
structure dC (σ:Type) where
 mem:σ
 ps:List bQ
 out:List ra
variable {σ:Type}
def Ac (s:ByteArray):Int:=if 1<=s.size/\s.size<=8 then wrap64 (Lib.leNat s.data.toList:Nat) else 0
def nC (v n:Int):ByteArray:=⟨(Lib.leBytes n.toNat (mP v)).toArray⟩
def iw (o:iZ σ) (st:dC σ) (k:Nat) (c:Int):Int×dC σ :=
 if c=1 then (0,{ st with out:=st.out++[⟨(k:Int),(aR st.ps k).r 0⟩] })
 else if c=2 then ((o.map st.mem k ((aR st.ps k).r 0) ((aR st.ps k).r 1) ((aR st.ps k).r 2)).1,{ st with mem:=(o.map st.mem k ((aR st.ps k).r 0) ((aR st.ps k).r 1) ((aR st.ps k).r 2)).2 })
 else if c=3 then ((o.ry st.mem k ((aR st.ps k).r 0) ((aR st.ps k).r 1)).1,{ st with mem:=(o.ry st.mem k ((aR st.ps k).r 0) ((aR st.ps k).r 1)).2 })
 else if c=4 then ((o.kL st.mem k ((aR st.ps k).r 0) ((aR st.ps k).r 1) ((aR st.ps k).r 2)).1,{ st with mem:=(o.kL st.mem k ((aR st.ps k).r 0) ((aR st.ps k).r 1) ((aR st.ps k).r 2)).2 })
 else if c=5 then (if (o.fork st.mem k).1=0 then ((st.ps.length:Int),{ st with mem:=(o.fork st.mem k).2,ps:=st.ps++[aR st.ps k] }) else (-1,{ st with mem:=(o.fork st.mem k).2 }))
 else if c=6 then (0,{ st with mem:=o.drop st.mem k })
 else (0,st)
def gF (o:iZ σ) (st:dC σ) (k:Nat) (i:eJ):(Int×(Int×Int))×dC σ :=
 if i.bad then ((0,(4,(aR st.ps k).pc)),st)
 else if i.op=9 then
  ((Ac (o.load st.mem k (wrap64 ((aR st.ps k).r i.b.toNat+i.m)) i.c 0).1.1,(o.load st.mem k (wrap64 ((aR st.ps k).r i.b.toNat+i.m)) i.c 0).1.2),{ st with mem:=(o.load st.mem k (wrap64 ((aR st.ps k).r i.b.toNat+i.m)) i.c 0).2 })
 else if i.op=10 then
  ((0,(o.store st.mem k (wrap64 ((aR st.ps k).r i.b.toNat+i.m)) (nC ((aR st.ps k).r i.a.toNat) i.c)).1),{ st with mem:=(o.store st.mem k (wrap64 ((aR st.ps k).r i.b.toNat+i.m)) (nC ((aR st.ps k).r i.a.toNat) i.c)).2 })
 else if i.op=16 then (((iw o st k i.m).1,(0,0)),(iw o st k i.m).2)
 else ((0,(0,0)),st)
def pV (i:eJ) (n:Nat) (ps:List bQ):List bQ:=ps.take n++(ps.drop n).map (λp=>di p i 0)
def mO (o:iZ σ) (st:dC σ) (k:Nat):(Int×Int)×dC σ :=
 let x:=o.load st.mem k (aR st.ps k).pc 8 2
 let s1:dC σ:={ st with mem:=x.2 }
 if ¬x.1.2.1=0 then (x.1.2,s1) else
 let i:=iq x.1.1
 let y:=gF o s1 k i
 if ¬y.1.2.1=0 then (y.1.2,y.2) else
 ((0,0),{ y.2 with ps:=pV i st.ps.length (y.2.ps.set k (di (aR y.2.ps k) i y.1.1)) })
def fJ (o:iZ σ) (st:dC σ) (pick:Int):Int×dC σ :=
 if ¬(0<=pick/\pick<(st.ps.length:Int)) then (6,st)
 else if ¬(aR st.ps pick.toNat).st=1 then (0,st)
 else if 2000<=st.out.length then (2,st)
 else
  let r:=mO o st pick.toNat
  if r.1.1=0 then (0,r.2) else (0,{ r.2 with mem:=o.drop r.2.mem pick.toNat,ps:=r.2.ps.set pick.toNat (za (aR r.2.ps pick.toNat) r.1) })
def gK (o:iZ σ) (picks:List Int):Nat->Option (dC σ)->Option (dC σ)
 | 0,st=>st
 | n+1,st=>match gK o picks n st with
  | none=>none
  | some s=>if (fJ o s (picks.getD n 0)).1=2 then none else some (fJ o s (picks.getD n 0)).2
def xc (o:iZ σ) (st:dC σ) (picks:List Int):Int×Option (dC σ) :=
 if 2000<picks.length then (2,none) else match gK o picks picks.length (some st) with
  | none=>(2,none)
  | some s=>(0,some s)
structure uK (o:iZ σ) (Ok:σ->List Bool->Prop):Prop where
 load:∀s fl k a n way,Ok s fl->fl.getD k false=true->Ok (o.load s k a n way).2 fl
 size:∀s fl k a n way,Ok s fl->fl.getD k false=true->1<=n->n<=8->(o.load s k a n way).1.2.1=0->((o.load s k a n way).1.1.size:Int)=n
 fault:∀s fl k a n way,Ok s fl->fl.getD k false=true->0<=(o.load s k a n way).1.2.1/\(o.load s k a n way).1.2.1<=4/\((o.load s k a n way).1.2.1=0->(o.load s k a n way).1.2=(0,0))
 none:∀s fl k a n way,Ok s fl->fl.getD k false=true->¬(o.load s k a n way).1.2.1=0->(o.load s k a n way).1.1=⟨#[]⟩
 store:∀s fl k a d,Ok s fl->fl.getD k false=true->1<=d.size->d.size<=8->Ok (o.store s k a d).2 fl
 WE:∀s fl k a d,Ok s fl->fl.getD k false=true->0<=(o.store s k a d).1.1/\(o.store s k a d).1.1<=4/\((o.store s k a d).1.1=0->(o.store s k a d).1=(0,0))
 map:∀s fl k p n q,Ok s fl->fl.getD k false=true->Ok (o.map s k p n q).2 fl
 ry:∀s fl k p n,Ok s fl->fl.getD k false=true->Ok (o.ry s k p n).2 fl
 kL:∀s fl k p n q,Ok s fl->fl.getD k false=true->Ok (o.kL s k p n q).2 fl
 Wz:∀s fl k,Ok s fl->fl.getD k false=true->¬(o.fork s k).1=0->Ok (o.fork s k).2 fl
 Qu:∀s fl k,Ok s fl->fl.getD k false=true->(o.fork s k).1=0->Ok (o.fork s k).2 (fl++[true])
 aj3:∀s fl k p n q,Ok s fl->fl.getD k false=true->0<=(o.map s k p n q).1/\(o.map s k p n q).1<=10
 Wc:∀s fl k p n,Ok s fl->fl.getD k false=true->0<=(o.ry s k p n).1/\(o.ry s k p n).1<=10
 Kh:∀s fl k p n q,Ok s fl->fl.getD k false=true->0<=(o.kL s k p n q).1/\(o.kL s k p n q).1<=10
 few:∀s fl,Ok s fl->fl.length<=4
 drop:∀s fl k,Ok s fl->fl.getD k false=true->Ok (o.drop s k) (fl.set k false)
def cI (ps:List bQ):List Bool:=ps.map (λp=>decide (p.st=1))
theorem Jd (ps:List bQ) (k:Nat):(cI ps).getD k false=(decide (k<ps.length)&&decide ((aR ps k).st=1)):=by
 unfold cI aR;rw[jI,jI,Ks];by_cases h:k<ps.length
 . rw[pX h,dW h];simp
 rw[List.getElem?_eq_none ω,eH h];rfl
theorem Be (ps:List bQ) (k:Nat) (p:bQ):cI (ps.set k p)=(cI ps).set k (decide (p.st=1)):=by
 unfold cI;rw[List.map_set]
theorem PJ (ps:List bQ) (p:bQ):cI (ps++[p])=cI ps++[decide (p.st=1)]:=by
 unfold cI;rw[P7];rfl
open Go.RowKit Tryz
variable {σ:Type}
theorem qC (n:Int):cR (wrap64 n):=by
 unfold cR wrap64;have:=Ql n;omega
theorem abI (n:Int):cR (IntKind.i64.wrap n):=by
 unfold cR;have:=Ql n;omega
def qN (p:bQ):Prop:=(∀j,j<8->cR (p.r j))/\cR p.pc
theorem aey {p:bQ} (h:qN p) (j:Nat) {v:Int} (hv:cR v):qN (p.set j v):=by
 refine⟨λq hq=>?_,h.2⟩;show cR (if q=j then v else p.r q);split
 . exact hv
 exact h.1 q hq
theorem Ny {p:bQ} (h:qN p) {v:Int} (hv:cR v):qN { p with pc:=v }:=⟨h.1,hv⟩
theorem om {α:Type} (P:α->Prop) {c:Prop} [Decidable c] {a b:α} (h1:c->P a) (h2:¬c->P b):P (if c then a else b):=by
 by_cases h:c
 . rw[aQ h];exact h1 h
 rw[aH h];exact h2 h
theorem Y5 {i:eJ} (hb:i.bad=false):1<=i.op/\i.op<=16:=by
 unfold eJ.bad at hb;by_cases h12:i.op=12
 . omega
 by_cases h16:i.op=16
 . omega
 rw[aH h12,aH h16] at hb;by_cases c1:i.op=1\/i.op=11\/i.op=15
 . omega
 rw[aH c1] at hb;by_cases c2:2<=i.op/\i.op<=7
 . omega
 rw[aH c2] at hb;by_cases c3:i.op=8\/i.op=13\/i.op=14
 . omega
 rw[aH c3] at hb;by_cases c4:i.op=9\/i.op=10
 . omega
 rw[aH c4] at hb;cases hb
theorem abL {i:eJ} (hb:i.bad=false) (hf:i.fits):(i.op=15->i.a.toNat<8)/\(2<=i.op/\i.op<=7->i.b.toNat<8):=by
 obtain⟨_,⟨a0,a1⟩,⟨b0,b1⟩,_⟩:=hf;unfold eJ.bad at hb;constructor
 . intro h;simp[h] at hb;omega
 intro h;rw[aH ω,aH ω,aH ω,aQ h,Qq] at hb;omega
theorem GU (P:bQ->Prop) (p:bQ) (i:eJ) (v:Int) (hb:i.bad=false)
  (h0:P { p with pc:=wrap64 (p.pc+8) }) (hs:∀j x,(x=i.m\/x=v\/(∃y,x=wrap64 y)\/(2<=i.op/\i.op<=7/\x=NY i.op (p.r i.b.toNat) (p.r i.c.toNat)))->P (({ p with pc:=wrap64 (p.pc+8) }:bQ).set j x))
  (hp:∀y,P { p with pc:=wrap64 y }) (hg:i.op=15->P { p with pc:=p.r i.a.toNat }) (he:i.op=16->i.m=6->P { p with pc:=wrap64 (p.pc+8),st:=2,cd:=p.r 0 }):P (di p i v):=by
 have hr:=Y5 hb;unfold di;simp only;refine om P (λ_=>hs _ _ (.inl rfl)) (λn1=>?_);refine om P (λg=>hs _ _ (.inr (.inr (.inr ⟨g.1,g.2,rfl⟩)))) (λn2=>?_);refine om P (λ_=>hs _ _ (.inr (.inr (.inl ⟨_,rfl⟩)))) (λn3=>?_);refine om P (λ_=>hs _ _ (.inr (.inl rfl))) (λn4=>?_);refine om P (λ_=>h0) (λn5=>?_);refine om P (λ_=>hs _ _ (.inr (.inr (.inl ⟨_,rfl⟩)))) (λn6=>?_);refine om P (λ_=>hp _) (λn7=>?_);refine om P (λ_=>om P (λ_=>hp _) (λ_=>h0)) (λn8=>?_);refine om P (λ_=>om P (λ_=>hp _) (λ_=>h0)) (λn9=>?_);refine om P (λg=>hg g) (λn10=>?_);refine om P (λg=>he ω g) (λn11=>?_);refine om P (λ_=>h0) (λn12=>?_);exact hs _ _ (.inr (.inl rfl))
theorem YZ {p:bQ} {i:eJ} {v:Int} (h:i.op=16) (h6:i.m=6):di p i v={ p with pc:=wrap64 (p.pc+8),st:=2,cd:=p.r 0 }:=by
 unfold di;simp[h,h6]
theorem J1 {p:bQ} {i:eJ} {v:Int} (hb:i.bad=false) (h:¬(i.op=16/\i.m=6)):(di p i v).st=p.st :=
 GU (λq=>q.st=p.st) p i v hb rfl (λ_ _ _=>rfl) (λ_=>rfl) (λ_=>rfl) (λg1 g2=>(h ⟨g1,g2⟩).elim)
theorem Je {p:bQ} {i:eJ} {v:Int} (hb:i.bad=false) (h:p.st=1) (hr:eX p=true):eX (di p i v)=true:=by
 have h2:p.cd=0/\p.fk=0/\p.fa=0:=by
  unfold eX tP at hr;rw[aQ h] at hr;simp only[cV,iP] at hr;exact hr
 have b:∀q:bQ,q.st=1->q.cd=0->q.fk=0->q.fa=0->eX q=true:=λq e1 e2 e3 e4=>by
  unfold eX tP;rw[aQ e1,e2,e3,e4];rfl
 refine GU (λq=>eX q=true) p i v hb (b _ h h2.1 h2.2.1 h2.2.2) (λ_ _ _=>b _ h h2.1 h2.2.1 h2.2.2) (λ_=>b _ h h2.1 h2.2.1 h2.2.2) (λ_=>b _ h h2.1 h2.2.1 h2.2.2) (λ_ _=>?_);unfold eX tP;simp[h2]
theorem agM (op b c:Int) (hb:cR b):cR (NY op b c):=by
 have h:∀o,cR (bits o .i64 b c):=λo=>by
  unfold bits;exact abI _
 unfold NY
 repeat' split
 all_goals first | exact qC _ | exact h _
theorem OL {p:bQ} {i:eJ} {v:Int} (h:qN p) (hv:cR v) (hb:i.bad=false) (hf:i.fits):qN (di p i v):=by
 have hn:qN { p with pc:=wrap64 (p.pc+8) }:=Ny h (qC _);have hm:cR i.m:=by obtain⟨_,_,_,_,m0,m1⟩:=hf;unfold cR;omega
 have b:=abL hb hf;refine GU qN p i v hb hn (λj x hx=>aey hn j ?_) (λ_=>Ny h (qC _)) (λg=>Ny h (h.1 _ (b.1 g))) (λ_ _=>⟨hn.1,hn.2⟩);rcases hx with e | e | ⟨y,e⟩ | ⟨g1,g2,e⟩
 . rw[e];exact hm
 . rw[e];exact hv
 . rw[e];exact qC _
 rw[e];exact agM _ _ _ (h.1 _ (b.2 ⟨g1,g2⟩))
open Go.RowKit Tryz
open Go.RowKit Tryz
variable {σ:Type}
structure fZ (Ok:σ->List Bool->Prop) (st:dC σ):Prop where
 mem:Ok st.mem (cI st.ps)
 fit:∀k,k<st.ps.length->qN (aR st.ps k)
 right:∀k,k<st.ps.length->eX (aR st.ps k)=true
 words:∀x∈st.out,0<=x.proc/\x.proc<(st.ps.length:Int)
 out:st.out.length<=2000
theorem Cz (ps:List bQ) (k j:Nat) (p:bQ) (hk:k<ps.length):aR (ps.set k p) j=if j=k then p else aR ps j:=by
 unfold aR;rw[jI,jI,Qi];by_cases h:j=k
 . rw[aQ h,aQ h.symm];subst h;rw[aQ hk];rfl
 rw[aH h,aH (λg=>h g.symm)]
theorem ES (ps:List bQ) (p:bQ) (j:Nat):aR (ps++[p]) j=if j<ps.length then aR ps j else if j=ps.length then p else C5:=by
 unfold aR;rw[jI,jI];by_cases h:j<ps.length
 . rw[aQ h,Kz h]
 rw[aH h,Eb ω];by_cases h2:j=ps.length
 . rw[aQ h2,h2,P4];rfl
 rw[aH h2];obtain⟨d,hd⟩:∃d,j-ps.length=d+1:=⟨j-ps.length-1,ω⟩;rw[hd];rfl
theorem UK (i:eJ) (ps:List bQ):pV i ps.length ps=ps:=by
 unfold pV;rw[sW,List.drop_length];simp
theorem Y4 (i:eJ) (ps:List bQ) (n:Nat) (h:n=ps.length):pV i n ps=ps:=by rw[h];exact UK i ps
theorem Y3 (i:eJ) (ps:List bQ) (p:bQ) (n:Nat) (h:n=ps.length):pV i n (ps++[p])=ps++[di p i 0]:=by
 subst h;unfold pV;rw[List.take_left,List.drop_left];rfl
theorem abJ (ps:List bQ) (p q:bQ) (k:Nat) (h:k<ps.length):(ps++[p]).set k q=ps.set k q++[p]:=by
 rw[Hk _ _ h]
section
variable {Ok:σ->List Bool->Prop}
theorem CA {st:dC σ} {m:σ} (h:fZ Ok st) (hm:Ok m (cI st.ps)):fZ Ok { st with mem:=m }:=⟨hm,h.fit,h.right,h.words,h.out⟩
theorem jn {st:dC σ} (k:Nat) (hk:k<st.ps.length) (h1:(aR st.ps k).st=1):(cI st.ps).getD k false=true:=by
 rw[Jd,dW hk,dW h1];rfl
theorem SC {st:dC σ} (h:fZ Ok st) (k:Nat) (hk:k<st.ps.length) (h1:(aR st.ps k).st=1) {i:eJ} {v:Int} (hv:cR v) (hb:i.bad=false) (hf:i.fits) {m:σ} (hm:Ok m (if i.op=16/\i.m=6 then (cI st.ps).set k false else cI st.ps)) :
  fZ Ok { st with mem:=m,ps:=st.ps.set k (di (aR st.ps k) i v) }:=by
 have b:(st.ps.set k (di (aR st.ps k) i v)).length=st.ps.length:=gX;refine⟨?_,λj hj=>?_,λj hj=>?_,λx hx=>?_,h.out⟩
 . show Ok m (cI (st.ps.set k (di (aR st.ps k) i v)));rw[Be];by_cases c:i.op=16/\i.m=6
   . rw[aQ c] at hm;rw[YZ c.1 c.2];exact hm
   rw[aH c] at hm;rw[J1 hb c,dW h1];have e:(cI st.ps).set k true=cI st.ps:=by
    apply D7;intro j;rw[Qi];by_cases e:k=j
    . subst e;have r:k<(cI st.ps).length:=by unfold cI;rw[jw];exact hk
      have hg:=jn k hk h1;rw[jI,pX r] at hg;rw[aQ rfl,aQ r,pX r];exact dO some hg.symm
    rw[aH e]
   rw[e];exact hm
 . have q:j<st.ps.length:=b ▸ hj;show qN (aR (st.ps.set k _) j);rw[Cz _ _ _ _ hk];split
   . exact OL (h.fit k hk) hv hb hf
   exact h.fit j q
 . have q:j<st.ps.length:=b ▸ hj;show eX (aR (st.ps.set k _) j)=true;rw[Cz _ _ _ _ hk];split
   . exact Je hb h1 (h.right k hk)
   exact h.right j q
 have:=h.words x hx;show 0<=x.proc/\x.proc<((st.ps.set k _).length:Int);rw[b];exact this
theorem aex {st:dC σ} (h:fZ Ok st) {p:bQ} (hf:qN p) (hr:eX p=true) {m:σ} (hm:Ok m (cI st.ps++[decide (p.st=1)])):fZ Ok { st with mem:=m,ps:=st.ps++[p] }:=by
 have b:(st.ps++[p]).length=st.ps.length+1:=by simp
 refine⟨?_,λj hj=>?_,λj hj=>?_,λx hx=>?_,h.out⟩
 . show Ok m (cI (st.ps++[p]));rw[PJ];exact hm
 . have q:j<st.ps.length+1:=b ▸ hj;show qN (aR (st.ps++[p]) j);rw[ES];by_cases c:j<st.ps.length
   . rw[aQ c];exact h.fit j c
   rw[aH c,aQ ω];exact hf
 . have q:j<st.ps.length+1:=b ▸ hj;show eX (aR (st.ps++[p]) j)=true;rw[ES];by_cases c:j<st.ps.length
   . rw[aQ c];exact h.right j c
   rw[aH c,aQ ω];exact hr
 have:=h.words x hx;show 0<=x.proc/\x.proc<((st.ps++[p]).length:Int);rw[b];omega
theorem abK (s:ByteArray):cR (Ac s):=by
 unfold Ac;split
 . exact qC _
 unfold cR;omega
theorem CB {i:eJ} (hb:i.bad=false) (h:i.op=9\/i.op=10):1<=i.c/\i.c<=8:=by
 unfold eJ.bad at hb;rw[aH ω,aH ω,aH ω,aH ω,aH ω,aQ h] at hb;unfold pR at hb;simp at hb;omega
theorem EP (v n:Int):(nC v n).size=n.toNat:=by
 unfold nC;show(Lib.leBytes n.toNat (mP v)).toArray.size=n.toNat
 simp[Lib.leBytes_length]
structure alz (Ok:σ->List Bool->Prop) (st:dC σ) (k:Nat) (i:eJ) (y:(Int×(Int×Int))×dC σ):Prop where
 fault:¬y.1.2.1=0->y.2.ps=st.ps/\fZ Ok y.2
 plain:y.1.2.1=0->(y.2.ps=st.ps/\Ok y.2.mem (if i.op=16/\i.m=6 then (cI st.ps).set k false else cI st.ps)\/(¬(i.op=16/\i.m=6))/\y.2.ps=st.ps++[aR st.ps k]/\Ok y.2.mem (cI st.ps++[true]))/\cR y.1.1/\i.bad=false
 words:∀x∈y.2.out,0<=x.proc/\x.proc<(st.ps.length:Int)
 out:y.2.out.length<=st.out.length+1
 kind:¬y.1.2.1=0->1<=y.1.2.1/\y.1.2.1<=4
theorem GX {o:iZ σ} (ho:uK o Ok) {st:dC σ} (h:fZ Ok st) (k:Nat) (hk:k<st.ps.length) (h1:(aR st.ps k).st=1) (i:eJ) (hf:i.fits):alz Ok st k i (gF o st k i):=by
 have hl:=jn k hk h1;have y:cR 0:=by unfold cR;omega
 have h4:=ho.few _ _ h.mem;have B:st.ps.length<=4:=by unfold cI at h4;rw[jw] at h4;exact h4
 unfold gF;by_cases hb:i.bad=true
 . rw[aQ hb];exact⟨λ_=>⟨rfl,h⟩,λg=>by simp at g,h.words,iO _,λ_=>ξ⟩
 have q:i.bad=false:=by simpa using hb
 rw[aH hb];by_cases c9:i.op=9
 . rw[aQ c9];have hm:=ho.load st.mem _ k (wrap64 ((aR st.ps k).r i.b.toNat+i.m)) i.c 0 h.mem hl;have A:=ho.fault st.mem _ k (wrap64 ((aR st.ps k).r i.b.toNat+i.m)) i.c 0 h.mem hl;exact⟨λ_=>⟨rfl,CA h hm⟩,λg=>⟨.inl ⟨rfl,by rw[aH ω];exact hm⟩,abK _,q⟩,h.words,iO _,λg=>⟨by have:¬(o.load st.mem k (wrap64 ((aR st.ps k).r i.b.toNat+i.m)) i.c 0).1.2.1=0:=g;show 1<=(o.load st.mem k (wrap64 ((aR st.ps k).r i.b.toNat+i.m)) i.c 0).1.2.1;omega,A.2.1⟩⟩
 rw[aH c9];by_cases c10:i.op=10
 . rw[aQ c10];have hm:=ho.store st.mem _ k (wrap64 ((aR st.ps k).r i.b.toNat+i.m)) (nC ((aR st.ps k).r i.a.toNat) i.c) h.mem hl (by rw[EP];have:=CB q (.inr c10);omega) (by rw[EP];have:=CB q (.inr c10);omega);have A:=ho.WE st.mem _ k (wrap64 ((aR st.ps k).r i.b.toNat+i.m)) (nC ((aR st.ps k).r i.a.toNat) i.c) h.mem hl;exact⟨λ_=>⟨rfl,CA h hm⟩,λg=>⟨.inl ⟨rfl,by rw[aH ω];exact hm⟩,y,q⟩,h.words,iO _,λg=>⟨by have:¬(o.store st.mem k (wrap64 ((aR st.ps k).r i.b.toNat+i.m)) (nC ((aR st.ps k).r i.a.toNat) i.c)).1.1=0:=g;show 1<=(o.store st.mem k (wrap64 ((aR st.ps k).r i.b.toNat+i.m)) (nC ((aR st.ps k).r i.a.toNat) i.c)).1.1;omega,A.2.1⟩⟩
 rw[aH c10];by_cases c16:i.op=16
 . rw[aQ c16];unfold iw;by_cases d1:i.m=1
   . rw[aQ d1];refine⟨λg=>(g rfl).elim,λ_=>⟨.inl ⟨rfl,by rw[aH ω];exact h.mem⟩,y,q⟩,λx hx=>?_,ξ,λg=>(g rfl).elim⟩;rcases mj.1 hx with g | g
     . exact h.words x g
     rw[List.mem_singleton.1 g];show 0<=(k:Int)/\(k:Int)<_;omega
   rw[aH d1];by_cases d2:i.m=2
   . rw[aQ d2];have hm:=ho.map st.mem _ k ((aR st.ps k).r 0) ((aR st.ps k).r 1) ((aR st.ps k).r 2) h.mem hl;have hv:=ho.aj3 st.mem _ k ((aR st.ps k).r 0) ((aR st.ps k).r 1) ((aR st.ps k).r 2) h.mem hl;exact⟨λg=>(g rfl).elim,λ_=>⟨.inl ⟨rfl,by rw[aH ω];exact hm⟩,by unfold cR;show -9223372036854775808<=(o.map st.mem k ((aR st.ps k).r 0) ((aR st.ps k).r 1) ((aR st.ps k).r 2)).1/\(o.map st.mem k ((aR st.ps k).r 0) ((aR st.ps k).r 1) ((aR st.ps k).r 2)).1<=_;omega,q⟩,h.words,iO _,λg=>(g rfl).elim⟩
   rw[aH d2];by_cases d3:i.m=3
   . rw[aQ d3];have hm:=ho.ry st.mem _ k ((aR st.ps k).r 0) ((aR st.ps k).r 1) h.mem hl;have hv:=ho.Wc st.mem _ k ((aR st.ps k).r 0) ((aR st.ps k).r 1) h.mem hl;exact⟨λg=>(g rfl).elim,λ_=>⟨.inl ⟨rfl,by rw[aH ω];exact hm⟩,by unfold cR;show -9223372036854775808<=(o.ry st.mem k ((aR st.ps k).r 0) ((aR st.ps k).r 1)).1/\(o.ry st.mem k ((aR st.ps k).r 0) ((aR st.ps k).r 1)).1<=_;omega,q⟩,h.words,iO _,λg=>(g rfl).elim⟩
   rw[aH d3];by_cases d4:i.m=4
   . rw[aQ d4];have hm:=ho.kL st.mem _ k ((aR st.ps k).r 0) ((aR st.ps k).r 1) ((aR st.ps k).r 2) h.mem hl;have hv:=ho.Kh st.mem _ k ((aR st.ps k).r 0) ((aR st.ps k).r 1) ((aR st.ps k).r 2) h.mem hl;exact⟨λg=>(g rfl).elim,λ_=>⟨.inl ⟨rfl,by rw[aH ω];exact hm⟩,by unfold cR;show -9223372036854775808<=(o.kL st.mem k ((aR st.ps k).r 0) ((aR st.ps k).r 1) ((aR st.ps k).r 2)).1/\(o.kL st.mem k ((aR st.ps k).r 0) ((aR st.ps k).r 1) ((aR st.ps k).r 2)).1<=_;omega,q⟩,h.words,iO _,λg=>(g rfl).elim⟩
   rw[aH d4];by_cases d5:i.m=5
   . rw[aQ d5];by_cases f0:(o.fork st.mem k).1=0
     . rw[aQ f0];have hm:=ho.Qu st.mem _ k h.mem hl f0;exact⟨λg=>(g rfl).elim,λ_=>⟨.inr ⟨ω,rfl,hm⟩,by unfold cR;show -9223372036854775808<=(st.ps.length:Int)/\(st.ps.length:Int)<=_;omega,q⟩,h.words,iO _,λg=>(g rfl).elim⟩
     rw[aH f0];have hm:=ho.Wz st.mem _ k h.mem hl f0;exact⟨λg=>(g rfl).elim,λ_=>⟨.inl ⟨rfl,by rw[aH ω];exact hm⟩,by unfold cR;show -9223372036854775808<=(-1:Int)/\(-1:Int)<=_;omega,q⟩,h.words,iO _,λg=>(g rfl).elim⟩
   rw[aH d5];by_cases d6:i.m=6
   . rw[aQ d6];have hm:=ho.drop st.mem _ k h.mem hl;exact⟨λg=>(g rfl).elim,λ_=>⟨.inl ⟨rfl,by rw[aQ ⟨c16,d6⟩];exact hm⟩,y,q⟩,h.words,iO _,λg=>(g rfl).elim⟩
   rw[aH d6];exact⟨λg=>(g rfl).elim,λ_=>⟨.inl ⟨rfl,by rw[aH ω];exact h.mem⟩,y,q⟩,h.words,iO _,λg=>(g rfl).elim⟩
 rw[aH c16];exact⟨λg=>(g rfl).elim,λ_=>⟨.inl ⟨rfl,by rw[aH ω];exact h.mem⟩,y,q⟩,h.words,iO _,λg=>(g rfl).elim⟩
end
open Go.RowKit Tryz
variable {σ:Type} {Ok:σ->List Bool->Prop}
structure agN (Ok:σ->List Bool->Prop) (st:dC σ) (r:(Int×Int)×dC σ):Prop where
 ok:fZ Ok r.2
 same:¬r.1.1=0->r.2.ps=st.ps
 kind:¬r.1.1=0->1<=r.1.1/\r.1.1<=4
theorem J2 {o:iZ σ} (ho:uK o Ok) {st:dC σ} (h:fZ Ok st) (hout:st.out.length<2000) (k:Nat) (hk:k<st.ps.length) (h1:(aR st.ps k).st=1):agN Ok st (mO o st k):=by
 have hl:=jn k hk h1;have hm:=ho.load st.mem _ k (aR st.ps k).pc 8 2 h.mem hl;have G:=ho.fault st.mem _ k (aR st.ps k).pc 8 2 h.mem hl;have J:=ho.size st.mem _ k (aR st.ps k).pc 8 2 h.mem hl ω ω;unfold mO;simp only;generalize o.load st.mem k (aR st.ps k).pc 8 2=x at hm G J ⊢;have g1:fZ Ok { st with mem:=x.2 }:=CA h hm;by_cases c:x.1.2.1=0
 . rw[aH (λg=>g c)];have b:(iq x.1.1).fits:=BV _ (by have:=J c;omega);generalize iq x.1.1=i at b ⊢;have hL:=GX ho g1 k hk h1 i b;generalize gF o { st with mem:=x.2 } k i=y at hL ⊢;by_cases d:y.1.2.1=0
   . rw[aH (λg=>g d)];obtain⟨hp,hv,hb⟩:=hL.plain d;have hw:∀z∈y.2.out,0<=z.proc/\z.proc<(st.ps.length:Int):=hL.words;have F:y.2.out.length<=2000:=by have:=hL.out;simp only at this;omega
     refine⟨?_,λg=>(g rfl).elim,λg=>(g rfl).elim⟩;rcases hp with⟨e,A⟩ | ⟨r,e,A⟩
     . have e':y.2.ps=st.ps:=e;have q:st.ps.length=(y.2.ps.set k (di (aR y.2.ps k) i y.1.1)).length:=by rw[gX,e']
       rw[Y4 _ _ _ q,e'];have base:fZ Ok { st with out:=y.2.out }:=⟨h.mem,h.fit,h.right,hw,F⟩;exact SC base k hk h1 hv hb b (m:=y.2.mem) A
     have e':y.2.ps=st.ps++[aR st.ps k]:=e;have q:st.ps.length=(st.ps.set k (di (aR st.ps k) i y.1.1)).length:=by rw[gX]
     have K:aR (st.ps++[aR st.ps k]) k=aR st.ps k:=by rw[ES,aQ hk]
     rw[e',K,abJ _ _ _ _ hk,Y3 _ _ _ _ q];have L:(di (aR st.ps k) i 0).st=1:=by rw[J1 hb r];exact h1
     have base:fZ Ok { st with out:=y.2.out }:=⟨h.mem,h.fit,h.right,hw,F⟩;have hz:cR 0:=by unfold cR;omega
     have d1:=SC base k hk h1 hv hb b (m:=st.mem) (by rw[aH r];exact h.mem);have hr:cI (st.ps.set k (di (aR st.ps k) i y.1.1))=cI st.ps:=by
      rw[Be,J1 hb r,dW h1];apply D7;intro j;rw[Qi];by_cases e:k=j
      . subst e;have B:k<(cI st.ps).length:=by unfold cI;rw[jw];exact hk
        have hg:=jn k hk h1;rw[jI,pX B] at hg;rw[aQ rfl,aQ B,pX B];exact dO some hg.symm
      rw[aH e]
     exact aex d1 (OL (h.fit k hk) hz hb b) (Je hb h1 (h.right k hk)) (m:=y.2.mem) (by
      show Ok y.2.mem (cI (st.ps.set k (di (aR st.ps k) i y.1.1))++_);rw[hr,L];exact A)
   rw[aQ d];obtain⟨e,g2⟩:=hL.fault d;exact⟨g2,λ_=>e,λ_=>hL.kind d⟩
 rw[aQ c];exact⟨g1,λ_=>rfl,λ_=>⟨by show 1<=x.1.2.1;omega,G.2.1⟩⟩
theorem UJ {p:bQ} {x:Int×Int} (h:p.st=1) (hr:eX p=true) (h1:1<=x.1) (h4:x.1<=4):eX (za p x)=true:=by
 have h2:p.cd=0:=by
  unfold eX at hr;rw[aQ h] at hr;simp only[cV,iP] at hr;exact hr.1
 unfold eX za;simp only;rw[aH Δ,aH Δ,aQ trivial,h2,dW (show 1<=x.1/\x.1<=4 from⟨h1,h4⟩)];rfl
theorem aew {o:iZ σ} (ho:uK o Ok) {st:dC σ} (h:fZ Ok st) (pick:Int):fZ Ok (fJ o st pick).2:=by
 unfold fJ;by_cases c:0<=pick/\pick<(st.ps.length:Int)
 . rw[aH (λg=>g c)];by_cases c1:(aR st.ps pick.toNat).st=1
   . rw[aH (λg=>g c1)];by_cases c2:2000<=st.out.length
     . rw[aQ c2];exact h
     rw[aH c2];have hk:pick.toNat<st.ps.length:=by omega
     have hd:=J2 ho h ω pick.toNat hk c1;simp only;generalize mO o st pick.toNat=r at hd ⊢;by_cases c3:r.1.1=0
     . rw[aQ c3];exact hd.ok
     rw[aH c3];have e:=hd.same c3;have q:pick.toNat<r.2.ps.length:=by rw[e];exact hk
     have c4:(aR r.2.ps pick.toNat).st=1:=by rw[e];exact c1
     have b:(r.2.ps.set pick.toNat (za (aR r.2.ps pick.toNat) r.1)).length=r.2.ps.length:=gX;refine⟨?_,λj hj=>?_,λj hj=>?_,λx hx=>?_,hd.ok.out⟩
     . show Ok _ (cI (r.2.ps.set _ _));rw[Be];exact ho.drop _ _ _ hd.ok.mem (jn _ q c4)
     . have y:j<r.2.ps.length:=b ▸ hj;show qN (aR (r.2.ps.set _ _) j);rw[Cz _ _ _ _ q];split
       . exact hd.ok.fit _ q
       exact hd.ok.fit j y
     . have y:j<r.2.ps.length:=b ▸ hj;show eX (aR (r.2.ps.set _ _) j)=true;rw[Cz _ _ _ _ q];split
       . exact UJ c4 (hd.ok.right _ q) (hd.kind c3).1 (hd.kind c3).2
       exact hd.ok.right j y
     have:=hd.ok.words x hx;show 0<=x.proc/\x.proc<((r.2.ps.set _ _).length:Int);rw[b];exact this
   rw[aQ c1];exact h
 rw[aQ c];exact h
theorem Cy {o:iZ σ} (ho:uK o Ok) {st:dC σ} (h:fZ Ok st) (picks:List Int):∀n s,gK o picks n (some st)=some s->fZ Ok s
 | 0,s,e=>by injection e with e;rw[<- e];exact h
 | n+1,s,e=>by
  unfold gK at e;cases hq:gK o picks n (some st) with
  | none=>rw[hq] at e;cases e
  | some q =>
   rw[hq] at e;have hq':=Cy ho h picks n q hq;simp only at e;by_cases c:(fJ o q (picks.getD n 0)).1=2
   . rw[aQ c] at e;cases e
   rw[aH c] at e;injection e with e;rw[<- e];exact aew ho hq' _
open Go.RowKit Tryz
variable {σ τ:Type}
structure Nu (o:iZ σ) (o':iZ τ) (Ok:σ->List Bool->Prop) (f:σ->τ):Prop where
 load:∀s fl k a n way,Ok s fl->fl.getD k false=true->1<=n->n<=8->o'.load (f s) k a n way=((o.load s k a n way).1,f (o.load s k a n way).2)
 store:∀s fl k a d,Ok s fl->fl.getD k false=true->1<=d.size->d.size<=8->o'.store (f s) k a d=((o.store s k a d).1,f (o.store s k a d).2)
 map:∀s fl k p n q,Ok s fl->fl.getD k false=true->o'.map (f s) k p n q=((o.map s k p n q).1,f (o.map s k p n q).2)
 ry:∀s fl k p n,Ok s fl->fl.getD k false=true->o'.ry (f s) k p n=((o.ry s k p n).1,f (o.ry s k p n).2)
 kL:∀s fl k p n q,Ok s fl->fl.getD k false=true->o'.kL (f s) k p n q=((o.kL s k p n q).1,f (o.kL s k p n q).2)
 fork:∀s fl k,Ok s fl->fl.getD k false=true->o'.fork (f s) k=((o.fork s k).1,f (o.fork s k).2)
 drop:∀s fl k,Ok s fl->fl.getD k false=true->o'.drop (f s) k=f (o.drop s k)
def lN (f:σ->τ) (st:dC σ):dC τ:=⟨f st.mem,st.ps,st.out⟩
variable {o:iZ σ} {o':iZ τ} {Ok:σ->List Bool->Prop} {f:σ->τ}
theorem abw (S:Nu o o' Ok f) {st:dC σ} (h:Ok st.mem (cI st.ps)) {k:Nat} (hk:(cI st.ps).getD k false=true) (c:Int):iw o' (lN f st) k c=((iw o st k c).1,lN f (iw o st k c).2):=by
 unfold iw;simp only[lN,S.map _ _ _ _ _ _ h hk,S.ry _ _ _ _ _ h hk,S.kL _ _ _ _ _ _ h hk,S.fork _ _ _ h hk,S.drop _ _ _ h hk]
 repeat' split
 all_goals rfl
theorem Ux (S:Nu o o' Ok f) {st:dC σ} (h:Ok st.mem (cI st.ps)) {k:Nat} (hk:(cI st.ps).getD k false=true) (i:eJ):gF o' (lN f st) k i=((gF o st k i).1,lN f (gF o st k i).2):=by
 unfold gF;by_cases hb:i.bad=true
 . rw[aQ hb,aQ hb];rfl
 rw[aH hb,aH hb];have hb:i.bad=false:=by simpa using hb
 by_cases h9:i.op=9
 . have hc:=CB hb (.inl h9);rw[aQ h9,aQ h9];simp only[lN,S.load _ _ _ _ _ _ h hk hc.1 hc.2]
 rw[aH h9,aH h9];by_cases h10:i.op=10
 . have hc:=CB hb (.inr h10);have hp:=EP ((aR st.ps k).r i.a.toNat) i.c;rw[aQ h10,aQ h10];simp only[lN,S.store _ _ _ _ _ h hk (show 1<=(nC ((aR st.ps k).r i.a.toNat) i.c).size by omega) ω]
 rw[aH h10,aH h10];by_cases h16:i.op=16
 . rw[aQ h16,aQ h16,abw S h hk]
 rw[aH h16,aH h16]
theorem agD (S:Nu o o' Ok f) (ho:uK o Ok) {st:dC σ} (h:Ok st.mem (cI st.ps)) {k:Nat} (hk:(cI st.ps).getD k false=true):mO o' (lN f st) k=((mO o st k).1,lN f (mO o st k).2):=by
 unfold mO;have e:=S.load _ _ k (aR st.ps k).pc 8 2 h hk ω ω;have h1:=ho.load _ _ k (aR st.ps k).pc 8 2 h hk;simp only[show(lN f st).mem=f st.mem from rfl,show(lN f st).ps=st.ps from rfl,e];by_cases c:(o.load st.mem k (aR st.ps k).pc 8 2).1.2.1=0
 . simp only[c,Qh,Bw];have ha:=Ux S (st:={ st with mem:=(o.load st.mem k (aR st.ps k).pc 8 2).2 }) h1 hk (iq (o.load st.mem k (aR st.ps k).pc 8 2).1.1);simp only[lN] at ha ⊢;by_cases c2:(gF o { mem:=(o.load st.mem k (aR st.ps k).pc 8 2).2,ps:=st.ps,out:=st.out } k (iq (o.load st.mem k (aR st.ps k).pc 8 2).1.1)).1.2.1=0
   . simp only[ha,c2,Qh,Bw]
   simp only[ha,c2,Qg,Bv]
 simp only[c,Qg,Bv,lN]
theorem abv (S:Nu o o' Ok f) (ho:uK o Ok) {st:dC σ} (h:fZ Ok st) (pick:Int):fJ o' (lN f st) pick=((fJ o st pick).1,lN f (fJ o st pick).2):=by
 unfold fJ;simp only[show(lN f st).ps=st.ps from rfl,show(lN f st).out=st.out from rfl];by_cases c1:0<=pick/\pick<(st.ps.length:Int)
 . simp only[c1,Qh,Bw,and_self];by_cases c2:(aR st.ps pick.toNat).st=1
   . simp only[c2,Qh,Bw];by_cases c3:2000<=st.out.length
     . simp only[c3,Bv]
     simp only[c3,Bw];have hk:pick.toNat<st.ps.length:=by omega
     have hl:=jn pick.toNat hk c2;have hd:=J2 ho h ω pick.toNat hk c2;have e:=agD S ho h.mem hl;by_cases c4:(mO o st pick.toNat).1.1=0
     . simp only[e,c4,Bv]
     have hm:=hd.ok.mem;rw[hd.same c4] at hm;simp only[e,c4,Bw];simp only[lN,S.drop _ _ _ hm hl]
   simp only[c2,Qg,Bv]
 simp only[c1,Qg,Bv]
theorem Mi (S:Nu o o' Ok f) (ho:uK o Ok) {st:dC σ} (h:fZ Ok st) (picks:List Int):∀n,gK o' picks n (some (lN f st))=(gK o picks n (some st)).map (lN f)
 | 0=>rfl
 | n+1=>by
  have ih:=Mi S ho h picks n;have hk:=Cy ho h picks n;show(match gK o' picks n (some (lN f st)) with | none=>none | some s=>_)=Option.map _ (match gK o picks n (some st) with | none=>none | some s=>_);rw[ih];cases e:gK o picks n (some st) with
  | none=>rfl
  | some s =>
   show(if (fJ o' (lN f s) (picks.getD n 0)).1=2 then none else some (fJ o' (lN f s) (picks.getD n 0)).2)=_;rw[abv S ho (hk s e)];show _=Option.map _ (if (fJ o s (picks.getD n 0)).1=2 then none else some (fJ o s (picks.getD n 0)).2);split <;> rfl
open Go.RowKit Go.Lib
theorem ze (P:Program) (g o:Nat) (t:TypeId) (m1 m2:Nat):∀(vs:List Value) (i:Nat) (cur:Array Value) (w:World),w.heap[g]?=some (.cells cur t (m1,m2))->cur.size<=m1->o+i+vs.length<=cur.size->(∀v∈vs,v.oneCell'=true) ->
  (storeCells (Ad g o) vs i).run P w=.ok () (w.setRow g (cur.toList.take (o+i)++vs++cur.toList.drop (o+i+vs.length)).toArray)
 | [],i,cur,w,hg,_,_,_=>by
  simp only[storeCells,Ko,P8,jt,List.take_append_drop,Array.toArray_toList];rw[setRow_self w g cur t (m1,m2) hg];rfl
 | v::rest,i,cur,w,hg,hm,hl,h1=>by
  have hi:o+i<cur.size:=by grind
  have r:((Ad g o):Addr).add i=(Ad g (o+i)):=by grind [Addr.add]
  have h:w.cell? (Ad g (o+i))=some cur[o+i]:=by grind [World.cell?]
  have q:w.frozen? (Ad g (o+i))=false:=by grind [World.frozen?]
  have b:(store (((Ad g o):Addr).add i) v).run P w=.ok () (w.setRow g (cur.setIfInBounds (o+i) v)):=by
   grind [run_store,setCell_eq_setRow]
  have ih:=ze P g o t m1 m2 rest (i+1) (cur.setIfInBounds (o+i) v) (w.setRow g (cur.setIfInBounds (o+i) v)) (pW w g cur _ t _ hg) Γ Γ (λx hx=>h1 x (by simp[hx]));simp only[storeCells,Sem.run_bind,b,Wj,ih,setRow_setRow];congr 3;have e:=list_seg_step cur.toList (o+i) v rest ω
  simp_all [zC]
theorem SN {P:Program} (w:World) (dT sT ty elem:TypeId) (g o dLen dCap:Nat) (s:ByteArray) (cur:Array Value) (t:TypeId) (m1 m2:Nat)
  (hu:P.underlying dT=some (.slice elem)) (hs:(P.info? elem).map (·.size)=some 1) (hg:w.heap[g]?=some (.cells cur t (m1,m2))) (hm:cur.size<=m1) (hle:s.size<=dLen) (hfit:o+s.size<=cur.size) :
  (Builtin.copy_ #[dT,sT] ty #[.slice (some (Ad g o)) dLen dCap,.string s]).run P w =
   .ok (goInt s.size) (w.setRow g (cur.toList.take o++Lib.byteCells s.data.toList++cur.toList.drop (o+s.size)).toArray):=by
 have h:(Lib.byteCells s.data.toList).length=s.size:=by rw[ae4,<- size_eq]
 have q:=ze P g o t m1 m2 (Lib.byteCells s.data.toList) 0 cur w hg hm ω (Lib.byteCells_one _);have r:Nat.min s.size dLen=s.size:=We hle;have y:List.take s.size (List.map (λb:UInt8=>Value.int IntKind.u8 (b.toNat:Int)) s.data.toList)=Lib.byteCells s.data.toList:=by
  rw[ae1 (by simp_all)];rfl
 rw[h] at q;simp only[jt] at q;cases hq:P.info? elem with
 | none=>grind
 | some i =>
  simp_all [Builtin.copy_,Kn,Builtin.lenOf,Builtin.firstCells,sizeOf,typeInfo]
theorem NH (s:ByteArray) (c:Nat):(bytesRow s c).size=s.size+(c-s.size):=by
 simp[bytesRow]
def iT (s:ByteArray) (o:Nat) (t:ByteArray):ByteArray:=⟨(s.data.toList.take o++t.data.toList++s.data.toList.drop (o+t.size)).toArray⟩
theorem UX (s:ByteArray) (o:Nat) (t:ByteArray) (c:Nat) (h:o+t.size<=s.size) (i:Nat) (hi:i<s.size) :
  ((bytesRow s c).toList.take o++Lib.byteCells t.data.toList++(bytesRow s c).toList.drop (o+t.size))[i]?=some (.int .u8 (((iT s o t).data.toList.map λb=>(b.toNat:Int)).getD i 0)):=by
 have y:t.size=t.data.toList.length:=size_eq t;have q:s.size=s.data.toList.length:=size_eq s;have hr:(bytesRow s c).toList=Lib.byteCells s.data.toList++List.replicate (c-s.size) (.int .u8 0):=by
  simp[bytesRow,Lib.byteCells]
 have e:(bytesRow s c).toList.take o++Lib.byteCells t.data.toList++(bytesRow s c).toList.drop (o+t.size)=Lib.byteCells (iT s o t).data.toList++List.replicate (c-s.size) (.int .u8 0):=by
  grind [iT,Lib.byteCells,List.map_take,List.map_drop]
 have r:(iT s o t).data.toList.length=s.size:=by
  grind [iT]
 grind [Lib.byteCells_length,DL]
theorem Mw (s:ByteArray) (o:Nat) (t:ByteArray) (h:o+t.size<=s.size):(iT s o t).data.toList.length=s.size:=by
 grind [size_eq,iT]
theorem UW (s:ByteArray) (o:Nat) (t:ByteArray):s.extract 0 o++t++s.extract (o+t.size) s.size=iT s o t:=by
 have b:s.size=s.data.toList.length:=size_eq s;apply ByteArray.ext;simp[iT,ae1]
theorem ab0 (s:ByteArray) (o:Nat) (t:ByteArray) (h:t.size=0):iT s o t=s:=by
 have b:t.data.toList=[]:=mR (by simp_all)
 simp_all [iT]
theorem UT (s:ByteArray) (o:Nat) (t:ByteArray) (h:o+t.size<=s.size):(iT s o t).size=s.size:=by
 grind [size_eq,Mw]
open Go.RowKit Tryz
structure mZ where
 off:Int
 bytes:ByteArray
structure bD where
 page:Int
 data:ByteArray
 df:List mZ
 ao:Option Addr
 cap:Nat
def Rh:mZ:=⟨0,⟨#[]⟩⟩
def l8 (l:List mZ) (i:Nat):mZ:=l.getD i Rh
def zi:bD:=⟨0,⟨#[]⟩,[],none,0⟩
def aZ (l:List bD) (i:Nat):bD:=l.getD i zi
def El (w:World) (b off:Nat) (l:List mZ):Prop:=∀i,i<l.length->w.cell? (Ad b (off+i*2))=some (I (l8 l i).off)/\w.cell? (Ad b (off+i*2+1))=some (.string (l8 l i).bytes)
theorem afg {w w':World} {b off:Nat} {l:List mZ} (hb:Below w.heap.size w w') (hlt:b<w.heap.size) (h:El w b off l):El w' b off l:=λi hi=>by
 obtain⟨c0,c1⟩:=h i hi
 grind [cW]
def mS (w:World) (ao:Option Addr) (l:List mZ):Prop:=ie El w ao l
theorem mS.below {w w':World} {ao:Option Addr} {l:List mZ} (h:mS w ao l) (hb:Below w.heap.size w w'):mS w' ao l:=ie.below (lie:=El) (λhb hlt h=>afg hb hlt h) h hb
def Xj (f:mZ):Prop:=cR f.off/\bM f.bytes.size
structure ym (s:bD):Prop where
 page:cR s.page
 data:bM s.data.size
 df:bM s.df.length
 fix:∀k,k<s.df.length->Xj (l8 s.df k)
def pT (s:bD):Array Value:=#[I s.page,.string s.data,.slice s.ao s.df.length s.cap]
def ow (l:List mZ):Nat->Int
 | 0=>0
 | k+1=>(l8 l k).off+((l8 l k).bytes.size:Int)
def zM (e:Int) (f:mZ):Bool:=decide (e<=f.off/\f.off<=16/\1<=(f.bytes.size:Int)/\(f.bytes.size:Int)<=16-f.off)
def dK (l:List mZ):Nat->Bool
 | 0=>true
 | k+1=>dK l k&&zM (ow l k) (l8 l k)
def lW (s:bD):Bool:=decide (1<=s.page/\s.page<=255/\s.data.size=16)
def cK (s:bD):Bool:=lW s&&dK s.df s.df.length
def nU (d:ByteArray) (l:List mZ):Nat->ByteArray
 | 0=>d
 | k+1=>iT (nU d l k) (l8 l k).off.toNat (l8 l k).bytes
def o9 (s:bD):ByteArray:=nU s.data s.df s.df.length
def rY (s:bD):ByteArray×Int:=if cK s then (o9 s,0) else (⟨#[]⟩,1)
theorem tX (l:List mZ):∀(k n:Nat),k<=n->dK l k=false->dK l n=false
 | k,0,h,hk=>by grind
 | k,n+1,h,hk=>by
  by_cases e:k=n+1
  . grind
  simp[dK,tX l k n ω hk]
theorem tW (l:List mZ) (k:Nat) (hk:k<l.length) (h:zM (ow l k) (l8 l k)=false):dK l l.length=false :=
 tX l (k+1) l.length ω (by simp[dK,h])
theorem CL (l:List mZ):∀(n:Nat),dK l n=true->∀i,i<n->zM (ow l i) (l8 l i)=true
 | 0,_,i,hi=>by omega
 | n+1,h,i,hi=>by
  simp only[dK,cV] at h;by_cases e:i=n
  . grind
  exact CL l n h.1 i ω
theorem vK (e:Int) (f:mZ):zM e f=true↔(e<=f.off/\f.off<=16/\1<=(f.bytes.size:Int)/\(f.bytes.size:Int)<=16-f.off):=by simp[zM]
theorem xK {e:Int} {f:mZ} (h:¬(e<=f.off/\f.off<=16/\1<=(f.bytes.size:Int)/\(f.bytes.size:Int)<=16-f.off)):zM e f=false:=by grind [zM]
theorem oO (l:List mZ):∀k,dK l k=true->(k:Int)<=ow l k/\ow l k<=16
 | 0,_=>by simp[ow]
 | k+1,h=>by
  simp only[dK,cV] at h;have ih:=oO l k h.1
  grind [vK,ow]
theorem wJ (d:ByteArray) (l:List mZ) (hd:d.size=16):∀k,dK l k=true->(nU d l k).size=16
 | 0,_=>hd
 | k+1,h=>by
  simp only[dK,cV] at h;have ih:=wJ d l hd k h.1;have hf:=(vK _ _).1 h.2;have he:=oO l k h.1
  grind [nU,UT]
open Go.RowKit Tryz
def kY (a:aU) (n:Nat):List Int:=(List.range n).map (λm:Nat=>a.page+(m:Int))
def fN (l:List aU):Nat->List Int
 | 0=>[]
 | i+1=>fN l i++kY (bw l i) (bw l i).aY.toNat
def ni (l:List aU):List Int:=fN l l.length
def jV (l:List aU) (hs:List bD):Bool:=decide (hs.map (·.page)=ni l)
def oV (l:List aU):Nat->Bool
 | 0=>false
 | k+1=>oV l k || (bw l k).zero
def mH (l:List aU):Bool:=oV l l.length
def lV (hs:List bD):Nat->Bool
 | 0=>true
 | k+1=>lV hs k&&cK (aZ hs k)
def tv (hs:List bD):Bool:=lV hs hs.length
def wK (l:List aU) (en:Int):Bool:=(bE l (en.tdiv 16)).2&&(decide (2<=(bE l (en.tdiv 16)).1.gh)&&decide (en.tmod 8=0))
def iF (l:List aU) (hs:List bD) (en:Int):Int:=if bf l=0 then (if !mH l&&(jV l hs&&(tv hs&&wK l en)) then 0 else 1) else bf l
theorem wH (a:aU) (n:Nat):kY a (n+1)=kY a n++[a.page+(n:Int)]:=by
 grind [kY,List.range_succ]
theorem Pg (a:aU) (n m:Nat) (h:n<m):∃t,kY a m=kY a n++(a.page+(n:Int))::t:=by
 induction m with
 | zero=>omega
 | succ m ih =>
  by_cases e:n=m
  . simp_all [wH]
  grind [wH]
theorem Fb (l:List aU) (i:Nat):∀n,i<=n->∃t,fN l n=fN l i++t
 | 0,h=>by simp_all
 | n+1,h=>by
  by_cases e:i=n+1
  . simp_all
  obtain⟨t,ht⟩:=Fb l i n ω
  grind [fN]
theorem Ra (l:List aU) (i:Nat) (hi:i<l.length) (n:Nat) (hn:n<(bw l i).aY.toNat):∃t,ni l=(fN l i++kY (bw l i) n)++((bw l i).page+(n:Int))::t:=by
 obtain⟨t,ht⟩:=Fb l (i+1) l.length ω;obtain⟨u,hu⟩:=Pg (bw l i) n _ hn
 grind [ni,fN]
theorem FT (l:List aU):∀(k n:Nat),k<=n->oV l k=true->oV l n=true
 | k,0,h,hk=>by grind
 | k,n+1,h,hk=>by
  by_cases e:k=n+1
  . grind
  simp[oV,FT l k n ω hk]
theorem acZ (l:List aU) (k:Nat) (hk:k<l.length) (h:(bw l k).zero=true):mH l=true:=FT l (k+1) l.length ω (by simp[oV,h])
theorem KT (l:List aU):∀n,oV l n=false->∀i,i<n->(bw l i).zero=false
 | 0,_,i,hi=>by omega
 | n+1,h,i,hi=>by
  simp only[oV,Hj] at h;by_cases e:i=n
  . grind
  exact KT l n h.1 i ω
theorem Ca (l:List bD):∀(k n:Nat),k<=n->lV l k=false->lV l n=false
 | k,0,h,hk=>by grind
 | k,n+1,h,hk=>by
  by_cases e:k=n+1
  . grind
  simp[lV,Ca l k n ω hk]
theorem TD (l:List bD) (k:Nat) (hk:k<l.length) (h:cK (aZ l k)=false):tv l=false:=Ca l (k+1) l.length ω (by simp[lV,h])
theorem FU (l:List bD):∀n,lV l n=true->∀i,i<n->cK (aZ l i)=true
 | 0,_,i,hi=>by omega
 | n+1,h,i,hi=>by
  simp only[lV,cV] at h;by_cases e:i=n
  . grind
  exact FU l n h.1 i ω
theorem Du (hs:List bD) (c:Nat) (h:c<hs.length):(hs.take (c+1)).map (·.page)=(hs.take c).map (·.page)++[(aZ hs c).page]:=by
 grind [List.take_succ_eq_append_getElem,aZ]
theorem TH {l:List aU} {hs:List bD} {pre t:List Int} {x:Int} (hp:(hs.take hs.length).map (·.page)=pre) (ho:ni l=pre++x::t):jV l hs=false:=by
 simp_all [jV]
theorem TI {l:List aU} {hs:List bD} {pre t:List Int} {x:Int} {c:Nat} (hc:c<hs.length) (hp:(hs.take c).map (·.page)=pre) (ho:ni l=pre++x::t) (hx:(aZ hs c).page≠x):jV l hs=false:=by
 unfold jV;refine eH (λe=>?_);have h1:=Du hs c hc
 grind [List.take_append_drop,List.append_cancel_left]
theorem Xf {l:List aU} {hs:List bD} {c:Nat} (hc:c<=hs.length) (hp:(hs.take c).map (·.page)=fN l l.length):jV l hs=decide (c=hs.length):=by
 grind [jV,ni,List.length_map]
def Le (w:World) (b off:Nat) (l:List bD):Prop:=∀i,i<l.length ->
 w.cell? (Ad b (off+i*3))=some (I (aZ l i).page)/\w.cell? (Ad b (off+i*3+1))=some (.string (aZ l i).data)/\w.cell? (Ad b (off+i*3+2))=some (.slice (aZ l i).ao (aZ l i).df.length (aZ l i).cap)/\mS w (aZ l i).ao (aZ l i).df
theorem Qx {w w':World} {b off:Nat} {l:List bD} (hb:Below w.heap.size w w') (hlt:b<w.heap.size) (h:Le w b off l):Le w' b off l:=λi hi=>by
 obtain⟨c0,c1,c2,c3⟩:=h i hi
 grind [cW,mS.below]
def gz (w:World) (ao:Option Addr) (l:List bD):Prop:=ie Le w ao l
theorem gz.below {w w':World} {ao:Option Addr} {l:List bD} (h:gz w ao l) (hb:Below w.heap.size w w'):gz w' ao l:=ie.below (lie:=Le) (λhb hlt h=>Qx hb hlt h) h hb
def m6 (l:List bD):Prop:=bM l.length/\∀k,k<l.length->ym (aZ l k)
theorem Iw {p:Int} (h:0<=p/\p<=3):p=0\/p=1\/p=2\/p=3:=by omega
theorem Iz (l:List aU) (hc:bf l=0) (p:Int) (h:(bE l p).2=true):0<=(bE l p).1.gh/\(bE l p).1.gh<=3:=by
 by_cases e:∃k,k<l.length/\gW (bw l k) p=true
 . obtain⟨k,hk,hh⟩:=e;have:∃k,k<l.length/\gW (bw l k) p=true/\∀i,i<k->gW (bw l i) p=false:=by
    induction k using Nat.strongRecOn with
    | _ k ih =>
     grind
   obtain⟨k,hk,h1,h2⟩:=this;rw[rp l p k hk h2 h1]
   simp_all [gB,gp]
 grind [rh]
end Go.Proofs.YtlgoihmkgaaemaaGreat
