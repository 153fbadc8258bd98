import Derived.Test.YtlgoihmkgaaemaaGreatGQ14
set_option maxHeartbeats 20000000
set_option linter.unusedVariables false
set_option maxRecDepth 100000
set_option linter.unusedSimpArgs false
namespace Go.Proofs.YtlgoihmkgaaemaaGreat
open Go.RowKit
theorem rH {α:Type} (d:α):∀(l m:List α),l.length=m.length->(∀i,i<l.length->l.getD i d=m.getD i d)->l=m
 | [],[],_,_=>rfl
 | [],b::r,h,_=>by simp at h
 | a::r,[],h,_=>by simp at h
 | a::r,b::t,h,g=>by
  have h0:a=b:=g 0 (TX _);have h1:=rH d r t Γ (λi hi=>g (i+1) (TW hi))
  grind
def KZ (f:nA) (d:Int):nA:=if f.refs+d=0 then fN else ⟨f.data,f.refs+d,f.kE,f.seen⟩
def KY (f:qh) (d:Int):qh:=if f.refs+d=0 then jm else ⟨f.data,f.refs+d⟩
def lG (k:aT) (e:bJ) (d:Int):aT:=if e.kind=1 then { k with frames:=k.frames.set e.loc.toNat (KZ (aM k.frames e.loc.toNat) d) } else { k with slots:=k.slots.set e.loc.toNat (KY (bI k.slots e.loc.toNat) d) }
theorem JE (k:aT) (e:bJ):lG k e (-1)=dN k e:=by
 rfl
theorem Ip (k:aT) (e:bJ):(dN k e).aj=k.aj:=by grind [dN]
theorem YC (k:aT) (e:bJ):(dN k e).aR=k.aR/\(dN k e).hand=k.hand:=by grind [dN]
theorem ab8 (k:aT) (e:bJ):(dN k e).frames.length=k.frames.length/\(dN k e).slots.length=k.slots.length:=by
 grind [dN]
def lD (k:aT) (j:Nat) (es:List bJ):aT:={ k with aj:=k.aj.set j (eD (ak k.aj j) es) }
theorem L6 (k:aT) (j:Nat) (es:List bJ) (e:bJ):dN (lD k j es) e=lD (dN k e) j es:=by grind [dN,lD]
theorem O4 (k:aT) (j:Nat) (hj:j<k.aj.length) (es fs:List bJ):lD (lD k j es) j fs=lD k j fs:=by
 unfold lD;simp only[pS];rw[jd _ _ _ _ hj,aC rfl];rfl
theorem O5 (k:aT) (j:Nat) (hj:j<k.aj.length):lD k j (ak k.aj j).bh=k:=by
 unfold lD;have:k.aj.set j (eD (ak k.aj j) (ak k.aj j).bh)=k.aj:=rH tR _ _ dE (λi hi=>by
  have:=jd k.aj j i (eD (ak k.aj j) (ak k.aj j).bh) hj;unfold ak at this ⊢;rw[this];by_cases c:j=i
  . rw[aC c,c];rfl
  grind)
 rw[this]
theorem V4 (k:aT) (j:Nat) (hj:j<k.aj.length) (es:List bJ):(ak (lD k j es).aj j).bh=es:=by
 show(ak (k.aj.set j _) j).bh=es;rw[jd _ _ _ _ hj,aC rfl];rfl
def dx (k:aT) (es:List bJ) (p:bJ->Bool):Nat->aT
 | 0=>k
 | n+1=>if p (bc es n) then dN (dx k es p n) (bc es n) else dx k es p n
def fB (es:List bJ) (p:bJ->Bool):List bJ:=es.filter λe=>!p e
def df (k:aT) (j:Nat) (p:bJ->Bool):aT:=lD (dx k (ak k.aj j).bh p (ak k.aj j).bh.length) j (fB (ak k.aj j).bh p)
theorem mF (k:aT) (es:List bJ) (p:bJ->Bool):∀n,(dx k es p n).aj=k.aj
 | 0=>rfl
 | n+1=>by
  unfold dx;split
  . rw[Ip,mF k es p n]
  exact mF k es p n
theorem Jz (k:aT) (es:List bJ) (p:bJ->Bool):∀n,(dx k es p n).aR=k.aR/\(dx k es p n).hand=k.hand/\(dx k es p n).frames.length=k.frames.length/\(dx k es p n).slots.length=k.slots.length
 | 0=>⟨rfl,rfl,rfl,rfl⟩
 | n+1=>by
  have ih:=Jz k es p n
  grind [dx,YC,ab8]
variable {k:aT} {j:Nat} {n p:Int} {i:Nat} {a:Int} {b:Nat} {l:List aX} {q:Int} {pre post:List bJ} {m j0:Nat} {held:List Int} {f:Int->ByteArray} (es:List bJ)
theorem Pj (n:Nat) (h:n<es.length):es.drop n=bc es n::es.drop (n+1):=by
 grind [List.drop_eq_getElem_cons,bc]
theorem Pd (p:bJ->Bool) (n:Nat) (h:n<es.length):fB (es.take (n+1)) p=fB (es.take n) p++(if p (bc es n) then [] else [bc es n]):=by
 grind [fB,G1]
theorem yY {k:aT} (h:aW k) {j:Nat} (hj:j<k.aj.length) (p:bJ->Bool):∀n,n<=(ak k.aj j).bh.length->aW (lD (dx k (ak k.aj j).bh p n) j (fB ((ak k.aj j).bh.take n) p++(ak k.aj j).bh.drop n))
 | 0,_=>by
  have:fB ((ak k.aj j).bh.take 0) p++(ak k.aj j).bh.drop 0=(ak k.aj j).bh:=rfl;rw[this];show aW (lD k j (ak k.aj j).bh)
  grind [O5]
 | n+1,hn=>by
  have ih:=yY h hj p n ω;have hlt:n<(ak k.aj j).bh.length:=by omega
  have q:j<(dx k (ak k.aj j).bh p n).aj.length:=by grind [mF]
  rw[Pj _ n hlt] at ih;rw[Pd _ p n hlt];unfold dx;cases g:p (bc (ak k.aj j).bh n) with
  | true =>
   rw[aC rfl,aC rfl,Ch];have b:j<(lD (dx k (ak k.aj j).bh p n) j (fB ((ak k.aj j).bh.take n) p++bc (ak k.aj j).bh n::(ak k.aj j).bh.drop (n+1))).aj.length:=by
    show j<List.length (List.set _ _ _)
    grind
   have:=Pm ih b (V4 _ j q _);have e:nN (lD (dx k (ak k.aj j).bh p n) j (fB ((ak k.aj j).bh.take n) p++bc (ak k.aj j).bh n::(ak k.aj j).bh.drop (n+1))) j (fB ((ak k.aj j).bh.take n) p++(ak k.aj j).bh.drop (n+1)) (bc (ak k.aj j).bh n)=lD (dN (dx k (ak k.aj j).bh p n) (bc (ak k.aj j).bh n)) j (fB ((ak k.aj j).bh.take n) p++(ak k.aj j).bh.drop (n+1)):=by
    show dN (lD (lD _ j _) j _) _=_
    grind [O4,L6]
   grind
  | false =>
   grind
theorem Bv (h:aW k) (hj:j<k.aj.length) (p:bJ->Bool):aW (df k j p):=by
 have:=yY h hj p _ (aK _);rw[qJ,aaI,Ch] at this;exact this
theorem ij (k:aT) (j:Nat) (p:bJ->Bool):(df k j p).aj=k.aj.set j (eD (ak k.aj j) (fB (ak k.aj j).bh p)):=by
 show((dx k (ak k.aj j).bh p _).aj).set j _=_;rw[mF]
theorem oO (k:aT) (j:Nat) (p:bJ->Bool):(df k j p).aR=k.aR/\(df k j p).hand=k.hand/\(df k j p).frames.length=k.frames.length/\(df k j p).slots.length=k.slots.length:=Jz k _ p _
theorem M0 (k:aT) (i:Nat) (es:List bJ):∀n,∃x,(dx k es (mO (i:Int)) n).frames=k.frames.set i x/\(dx k es (mO (i:Int)) n).slots=k.slots
 | 0=>⟨aM k.frames i,by
   show k.frames=_;refine(rH fN _ _ dE (λm hm=>?_)).symm;rw[dE] at hm;by_cases c:i=m
   . subst c;rw[fh _ _ _ _ hm];rfl
   grind,rfl⟩
 | n+1=>by
  obtain⟨x,h1,h2⟩:=M0 k i es n
  grind [dx,A3,dN,List.set_set]
def lR (k:aT) (i:Nat):Nat->aT
 | 0=>k
 | n+1=>df (lR k i n) n (mO (i:Int))
theorem Cw {k:aT} (h:aW k) (i:Nat):∀n,n<=k.aj.length->aW (lR k i n)/\(lR k i n).aR=k.aR/\(lR k i n).hand=k.hand/\(∃x,(lR k i n).frames=k.frames.set i x)/\(lR k i n).slots=k.slots/\(lR k i n).aj.length=k.aj.length/\∀m,m<k.aj.length->ak (lR k i n).aj m=if m<n then pZ i (ak k.aj m) else ak k.aj m
 | 0,_=>by
  obtain⟨x,hx,_⟩:=M0 k i [] 0;exact⟨h,rfl,rfl,⟨x,hx⟩,rfl,rfl,λm _=>ρ⟩
 | n+1,hn=>by
  obtain⟨r,h1,h2,⟨x,h3⟩,h4,h5,h6⟩:=Cw h i n ω;have hj:n<(lR k i n).aj.length:=by omega
  have fr:=oO (lR k i n) n (mO (i:Int));obtain⟨y,c1,c2⟩:=M0 (lR k i n) i (ak (lR k i n).aj n).bh (ak (lR k i n).aj n).bh.length;refine⟨Bv r hj _,fr.1.trans h1,fr.2.1.trans h2,⟨y,?_⟩,?_,?_,λm hm=>?_⟩
  . show(dx _ _ _ _).frames=_
    simp_all
  . show(dx _ _ _ _).slots=_
    grind
  . show(df _ _ _).aj.length=_
    grind [ij]
  show ak (df _ _ _).aj m=_;rw[ij,jd _ _ _ _ hj];by_cases c:n=m
  . subst c;rw[aC rfl,aC ω,h6 n hm,aB ω];rfl
  grind
theorem aeO (h:aW k) (hi:i<k.frames.length):lR k i k.aj.length=Dw k i:=by
 obtain⟨r,h1,h2,⟨x,h3⟩,h4,h5,h6⟩:=Cw h i k.aj.length (aK _);have hs:(lR k i k.aj.length).aj=k.aj.map (pZ i):=by
  refine rH tR _ _ Γ (λm hm=>?_)
  grind [ak]
 have hf:=r.EK i Γ;have hz:bU (lR k i k.aj.length).aj 1 i=[]:=by
  rw[hs];exact rZ _ _ _ _ (λs _=>Ak s.aJ i s.bh)
 have hx:x=fN:=by
  grind [aM,nz.zero]
 have:∀a b:aT,a.aR=b.aR->a.frames=b.frames->a.slots=b.slots->a.aj=b.aj->a.hand=b.hand->a=b:=λa b e1 e2 e3 e4 e5=>by
  cases a;simp_all
 exact this _ _ h1 (by rw[h3,hx];rfl) h4 hs h2
theorem aac (h:aW k) (hi:i<k.frames.length) (hj:j<k.aj.length) {a:Nat} (ha:a<(ak k.aj j).bh.length) (hb:b<(ak k.aj j).bh.length) (h1:mO (i:Int) (bc (ak k.aj j).bh a)=true) (h2:mO (i:Int) (bc (ak k.aj j).bh b)=true):a=b:=by
 have yr:=ki hj (kT (d:=iD) ha);have q:=ki hj (kT (d:=iD) hb);have g1:=A3.1 h1;have g2:=A3.1 h2;unfold bc at g1 g2;rw[g1.1,g1.2] at yr;rw[g2.1,g2.2] at q;have e:=(h.EK i hi).one _ yr _ q;injection e with e _;have hr:=(h.sp hj).lq
 grind [List.pairwise_iff_getElem]
theorem Yy (i s:Int) (es:List bJ) (n:Nat) (hn:n<es.length) (h:mO i (bc es n)=true) (ho:∀m,m<es.length->mO i (bc es m)=true->m=n):es.set n ⟨(bc es n).page,2,s⟩=kP i s es:=by
 refine rH iD _ _ (by grind [kP]) (λm hm=>?_)
 grind [kP,bc]
theorem ab1 (i s:Int) (es:List bJ) (h:∀m,m<es.length->mO i (bc es m)=false):kP i s es=es:=by
 refine rH iD _ _ (by grind [kP]) (λm hm=>?_)
 grind [kP,bc]
theorem aW.space (h:aW k) (hj:j<k.aj.length) {s:dA} (hs:xO k.aR k.frames.length k.slots.length s) (hn:∀kd a,fW s kd a=fW (ak k.aj j) kd a) (hr:eU (k.aj.set j s)<=k.slots.length):aW { k with aj:=k.aj.set j s }:=by
 have nn:∀kd a,bU (k.aj.set j s) kd a=bU k.aj kd a:=λkd a=>by
  obtain⟨u,v,g1,g2⟩:=Cx k.aj j s kd a hj
  grind
 refine⟨?_,h.lq,h.hand,?_,hr,λi hi=>?_,λi hi=>?_⟩
 . have:=h.counts
   grind [pB]
 . grind [each]
 . grind [EK]
 grind [slt]
theorem O6 (l:List dA):∀(j:Nat) (s:dA),j<l.length->eU (l.set j s)=eU l-bf (ak l j).aJ+bf s.aJ:=λj s hj=>by
 have:∀n,kG (l.set j s) n=kG l n+if j<n then bf s.aJ-bf (ak l j).aJ else 0:=λn=>by
  induction n with
  | zero=>rfl
  | succ n ih =>
   grind [kG,jd]
 grind [eU]
def zS (old new:List aX):Prop:=∀p,(aV new p).2=true->((aV old p).2=true/\(aV new p).1.zero=(aV old p).1.zero)\/((aV old p).2=false/\(aV new p).1.zero=true)
theorem LX (h:(dZ l p n q).2=0):bj (dZ l p n q).1=0/\zS l (dZ l p n q).1:=by
 obtain⟨h1,h2⟩:=CQ l p n q h;refine⟨h1,λx hx=>?_⟩;have hb:=ll hx;obtain⟨m,rfl⟩:∃m:Nat,x=(m:Int):=⟨x.toNat,ω⟩
 grind
theorem Bu (h:(cU l p n).2=0):bj (cU l p n).1=0/\zS l (cU l p n).1:=by
 obtain⟨h1,h2⟩:=zo l p n h;refine⟨h1,λx hx=>?_⟩;have hb:=ll hx;obtain⟨m,rfl⟩:∃m:Nat,x=(m:Int):=⟨x.toNat,ω⟩
 grind
theorem En (h:(cu l p n q).2=0):bj (cu l p n q).1=0/\zS l (cu l p n q).1:=by
 obtain⟨h1,h2⟩:=wI l p n q h;refine⟨h1,λx hx=>?_⟩;have hb:=ll hx;obtain⟨m,rfl⟩:∃m:Nat,x=(m:Int):=⟨x.toNat,ω⟩
 grind
def jg (l:List aX) (e:bJ):Bool:=!(aV l e.page).2
def iN (k:aT) (j:Nat) (l:List aX):aT:={ df k j (jg l) with aj:=(df k j (jg l)).aj.set j ⟨(ak k.aj j).live,l,fB (ak k.aj j).bh (jg l)⟩ }
theorem Wi (h:aW k) (hj:j<k.aj.length) (hl:(ak k.aj j).live=true) (hc:bj l=0) (ht:zS (ak k.aj j).aJ l) (hr:eU k.aj-bf (ak k.aj j).aJ+bf l<=k.slots.length):aW (iN k j l):=by
 have hf:=Bv h hj (jg l);have F:=ij k j (jg l);have G:=oO k j (jg l);have y:j<(df k j (jg l)).aj.length:=by grind
 have q:ak (df k j (jg l)).aj j=eD (ak k.aj j) (fB (ak k.aj j).bh (jg l)):=by grind [jd]
 have B:=h.sp hj;have b:=hf.sp y;rw[q] at b;have A:∀e∈fB (ak k.aj j).bh (jg l),(aV l e.page).2=true/\e∈(ak k.aj j).bh:=λe he=>by
  grind [fB,jg]
 refine aW.space hf y ⟨λdd=>?_,hc,b.lq,λe he=>⟨(A e he).1,(b.Qs e he).2⟩,λp hp hz=>?_⟩ (λkd a=>?_) ?_
 . grind
 . rcases ht p hp with g | g
   . grind [xO.aR]
   grind
 . rw[q];unfold fW;refine aaY λe he=>?_
   have hm:=A e (aaF.1 he).1;rcases ht e.page hm.1 with g | g
   . show(e.page,_)=(e.page,_);rw[g.2];rfl
   have:=(B.Qs e hm.2).1
   grind
 rw[O6 _ _ _ y,q,F,Er _ _ (eD (ak k.aj j) (fB (ak k.aj j).bh (jg l))) hj rfl,G.2.2.2];exact hr
def mE (k:aT) (j:Nat):aT:={ df k j (λ_=>true) with aj:=(df k j (λ_=>true)).aj.set j tR }
theorem Sm (p:Int):(aV [] p).2=false:=by
 rfl
theorem ab3 (hs:List bC) (nf ns:Nat):xO hs nf ns tR:=by
 refine⟨λ_=>⟨rfl,rfl⟩,rfl,List.Pairwise.nil,λe he=>?_,λp hp=>?_⟩
 . cases he
 have hp:(aV [] p).2=true:=hp
 grind [Sm]
theorem aca:fB es (λ_=>true)=[]:=by simp[fB]
theorem YF (h:aW k) (hj:j<k.aj.length):aW (mE k j):=by
 have hf:=Bv h hj (λ_=>true);have A:=ij k j (λ_=>true);have y:=oO k j (λ_=>true);have q:j<(df k j (λ_=>true)).aj.length:=by grind
 have b:ak (df k j (λ_=>true)).aj j=eD (ak k.aj j) []:=by grind [jd,aca]
 have ht:0<=bf (ak k.aj j).aJ:=by
  have:=Am (h.sp hj);omega
 refine aW.space hf q (ab3 _ _ _) (λkd a=>?_) ?_
 . rw[b];rfl
 rw[O6 _ _ _ q,b,A,Er _ _ (eD (ak k.aj j) (fB (ak k.aj j).bh (λ_=>true))) hj rfl,y.2.2.2];have:=h.room;show eU k.aj-bf (ak k.aj j).aJ+bf []<=_;have e:bf []=0:=rfl;omega
def fM (k:aT) (es:List bJ):Nat->aT
 | 0=>k
 | n+1=>lG (fM k es n) (bc es n) 1
def jq (k:aT) (j:Nat):aT:={ fM k (ak k.aj j).bh (ak k.aj j).bh.length with aj:=(fM k (ak k.aj j).bh (ak k.aj j).bh.length).aj++[ak k.aj j] }
def AZ (f:nA) (c:Nat):nA:=⟨f.data,f.refs+c,f.kE,f.seen⟩
def AY (f:qh) (c:Nat):qh:=⟨f.data,f.refs+c⟩
theorem L5 (f:nA):AZ f 0=f:=by simp[AZ]
theorem L4 (f:qh):AY f 0=f:=by simp[AY]
theorem yR {k:aT} (h:aW k) {j:Nat} (hj:j<k.aj.length):∀m,m<=(ak k.aj j).bh.length->(fM k (ak k.aj j).bh m).aR=k.aR/\(fM k (ak k.aj j).bh m).hand=k.hand/\(fM k (ak k.aj j).bh m).aj=k.aj/\(fM k (ak k.aj j).bh m).frames.length=k.frames.length/\(fM k (ak k.aj j).bh m).slots.length=k.slots.length /\
  (∀n,n<k.frames.length->aM (fM k (ak k.aj j).bh m).frames n=AZ (aM k.frames n) (kR (ak k.aj j).aJ 1 n ((ak k.aj j).bh.take m)).length) /\
  (∀n,n<k.slots.length->bI (fM k (ak k.aj j).bh m).slots n=AY (bI k.slots n) (kR (ak k.aj j).aJ 2 n ((ak k.aj j).bh.take m)).length)
 | 0,_=>⟨rfl,rfl,rfl,rfl,rfl,λn _=>(L5 _).symm,λn _=>(L4 _).symm⟩
 | m+1,hm=>by
  obtain⟨h1,h2,h3,h4,h5,h6,h7⟩:=yR h hj m ω;have hlt:m<(ak k.aj j).bh.length:=by omega
  have y:bc (ak k.aj j).bh m∈(ak k.aj j).bh:=kT hlt;rw[G1 _ m hlt];obtain⟨e,he⟩:=ex (bc (ak k.aj j).bh m);obtain⟨q,hq⟩:=ex (fM k (ak k.aj j).bh m);rw[<- he] at y ⊢;have hs:fM k (ak k.aj j).bh (m+1)=lG q e 1:=by rw[hq,he];rfl
  rw[<- hq] at h1 h2 h3 h4 h5 h6 h7;rw[hs];have B:∀(f:nA) (a b:Nat),AZ (AZ f a) b=AZ f (a+b):=λf a b=>by grind [AZ]
  have A:∀(f:qh) (a b:Nat),AY (AY f a) b=AY f (a+b):=λf a b=>by grind [AY]
  rcases jn h hj y with b | b
  . have hc:lG q e 1={ q with frames:=q.frames.set e.loc.toNat (KZ (aM q.frames e.loc.toNat) 1) }:=by grind [lG]
    rw[hc];refine⟨h1,h2,h3,Γ,h5,λn hn=>?_,λn hn=>?_⟩
    . show aM (q.frames.set _ _) n=_;rw[kV _ _ _ _ ω,oH,ft];by_cases c:e.loc.toNat=n
      . rw[aC c,uB _ (ω:e.kind=1/\e.loc=(n:Int)),<- B,<- h6 n hn,c];have hr:0<=(aM q.frames n).refs:=by
         rw[h6 n hn];have:=(h.EK n hn).refs;show 0<=(aM k.frames n).refs+_;omega
        unfold KZ;rw[aB ω];rfl
      rw[aB c,pP _ (show ¬(e.kind=1/\e.loc=(n:Int)) by omega),h6 n hn];rfl
    grind [oH,pP]
  have hc:lG q e 1={ q with slots:=q.slots.set e.loc.toNat (KY (bI q.slots e.loc.toNat) 1) }:=by grind [lG]
  rw[hc];refine⟨h1,h2,h3,h4,Γ,λn hn=>?_,λn hn=>?_⟩
  . grind [oH,pP]
  show bI (q.slots.set _ _) n=_;rw[AW _ _ _ _ ω,oH,ft];by_cases c:e.loc.toNat=n
  . rw[aC c,uB _ (ω:e.kind=2/\e.loc=(n:Int)),<- A,<- h7 n hn,c];have hr:0<=(bI q.slots n).refs:=by
     rw[h7 n hn];have:=(h.slt n hn).refs;show 0<=(bI k.slots n).refs+_;omega
    unfold KY;rw[aB ω];rfl
  rw[aB c,pP _ (show ¬(e.kind=2/\e.loc=(n:Int)) by omega),h7 n hn];rfl
structure uC (k:aT) (j:Nat) (f:aT):Prop where
 aR:f.aR=k.aR
 hand:f.hand=k.hand
 aj:f.aj=k.aj++[ak k.aj j]
 nf:f.frames.length=k.frames.length
 ns:f.slots.length=k.slots.length
 EK:∀n,n<k.frames.length->aM f.frames n=AZ (aM k.frames n) (fW (ak k.aj j) 1 n).length
 slt:∀n,n<k.slots.length->bI f.slots n=AY (bI k.slots n) (fW (ak k.aj j) 2 n).length
theorem yl (h:aW k) (hj:j<k.aj.length):uC k j (jq k j):=by
 obtain⟨h1,h2,h3,h4,h5,h6,h7⟩:=yR h hj _ (aK _);rw[qJ] at h6 h7;exact⟨h1,h2,by show _++_=_;rw[h3],h4,h5,h6,h7⟩
theorem YD (h:aW k) (hj:j<k.aj.length) (h4:k.aj.length≠4) (hr:eU k.aj+bf (ak k.aj j).aJ<=k.slots.length):aW (jq k j):=by
 have F:=yl h hj;have hc:=h.c;have nn:∀kd a,bU (jq k j).aj kd a=bU k.aj kd a++fW (ak k.aj j) kd a:=λkd a=>by
  grind [Io,mD,Pc,uC.aj]
 have sub:∀kd a,∀x∈fW (ak k.aj j) kd a,x∈bU k.aj kd a:=λkd a x hx=>by
  grind [wY,rE,Ep]
 have b:∀kd a,∀x∈bU k.aj kd a++fW (ak k.aj j) kd a,x∈bU k.aj kd a:=λkd a x hx=>by
  grind
 have nil:∀kd a,bU k.aj kd a++fW (ak k.aj j) kd a=[]->bU k.aj kd a=[]/\fW (ak k.aj j) kd a=[]:=λkd a e=>Ug.1 e
 have ne:∀kd a,bU k.aj kd a++fW (ak k.aj j) kd a≠[]->bU k.aj kd a≠[]:=λkd a hn e=>hn (by
  rw[e];refine ai6.2 λx hx=>?_
  grind)
 refine⟨?_,by rw[F.aR];exact h.lq,by rw[F.hand,F.nf];exact h.hand,?_,?_,λn hn=>?_,λn hn=>?_⟩
 . grind [pB,uC.nf,uC.ns,uC.aj,uC.aR]
 . grind [uC.aR,uC.nf,uC.ns,uC.aj,aW.each,aW.sp]
 . rw[F.aj,O7,F.ns];exact hr
 . rw[F.nf] at hn;rw[F.aR,nn,F.EK n hn];have hf:=h.EK n hn;refine⟨?_,λe=>?_,λx hx y hy=>hf.one x (b 1 n x hx) y (b 1 n y hy),λe=>hf.size (ne 1 n e),λd x hx=>hf.fill d x (b 1 n x hx)⟩
   . show(aM k.frames n).refs+_=_
     grind [nz.refs]
   grind [L5,nz.zero]
 rw[F.ns] at hn;rw[nn,F.slt n hn];have hf:=h.slt n hn;refine⟨?_,λe=>?_,λx hx y hy=>hf.one x (b 2 n x hx) y (b 2 n y hy),λe=>hf.size (ne 2 n e)⟩
 . show(bI k.slots n).refs+_=_
   grind [qC.refs]
 grind [L4,qC.zero]
theorem aeW (h:aW k) (hj:j<k.aj.length) {e:bJ} (he:(ak k.aj j).bh=pre++e::post) (hm:m<k.aj.length) {x:bJ} (hx:x∈(ak (nN k j (pre++post) e).aj m).bh) :
  (x.kind=1->(aM (nN k j (pre++post) e).frames x.loc.toNat).data=(aM k.frames x.loc.toNat).data)/\(x.kind≠1->(bI (nN k j (pre++post) e).slots x.loc.toNat).data=(bI k.slots x.loc.toNat).data):=by
 obtain⟨f1,f2,f3,f4,f5,f6,f7⟩:=Hc h hj he;have hr:=Pm h hj he;have b:m<(nN k j (pre++post) e).aj.length:=by grind
 have hn:=ki b hx;have hb:=jn hr b hx;refine⟨λc=>?_,λc=>?_⟩
 . have hb:(x.loc.toNat:Int)=x.loc/\x.loc.toNat<(nN k j (pre++post) e).frames.length:=by omega
   rw[c,<- hb.1] at hn;have hf:=(hr.EK x.loc.toNat hb.2).refs;have hg:=f6 x.loc.toNat
   by_cases d:e.kind=1/\e.loc=(x.loc.toNat:Int)
   . rw[aC d] at hg;rw[hg] at hf ⊢;unfold uo at hf ⊢;by_cases z:(aM k.frames x.loc.toNat).refs-1=0
     . rw[aC z] at hf;have:(bU (nN k j (pre++post) e).aj 1 (x.loc.toNat:Int)).length=0:=by
        have hf:(0:Int)=_:=hf;omega
       grind
     grind
   grind
 have hb:x.kind=2/\(x.loc.toNat:Int)=x.loc/\x.loc.toNat<(nN k j (pre++post) e).slots.length:=by omega
 rw[hb.1,<- hb.2.1] at hn;have hf:=(hr.slt x.loc.toNat hb.2.2).refs;have hg:=f7 x.loc.toNat
 by_cases d:e.kind=2/\e.loc=(x.loc.toNat:Int)
 . rw[aC d] at hg;rw[hg] at hf ⊢;unfold w9 at hf ⊢;by_cases z:(bI k.slots x.loc.toNat).refs-1=0
   . rw[aC z] at hf;have:(bU (nN k j (pre++post) e).aj 2 (x.loc.toNat:Int)).length=0:=by
      have hf:(0:Int)=_:=hf;omega
     grind
   grind
 grind
theorem nM {es:List bJ} {e:bJ} (h:bl es p=some e):e∈es:=aaZ h
theorem Sn {es:List bJ} {e:bJ} (h:bl es p=some e):e.page=p:=by
 have:=List.find?_some h
 grind
theorem zP {a b:aT} {n:Nat} (hE:bl (ak a.aj m).bh p=bl (ak b.aj n).bh p) (hd:∀x,bl (ak a.aj m).bh p=some x->(x.kind=1->(aM a.frames x.loc.toNat).data=(aM b.frames x.loc.toNat).data)/\(x.kind≠1->(bI a.slots x.loc.toNat).data=(bI b.slots x.loc.toNat).data)) (hf:bl (ak a.aj m).bh p=none->gz a.aR p (aV (ak a.aj m).aJ p).1.zero=gz b.aR p (aV (ak b.aj n).aJ p).1.zero):b7 a m p=b7 b n p:=by
 grind [b7]
theorem ahN {e:bJ} (h:e.page≠p):bl (pre++post) p=bl (pre++e::post) p:=by
 grind [bl]
theorem aeV (h:aW k) (hj:j<k.aj.length) {e:bJ} (he:(ak k.aj j).bh=pre++e::post) (hm:m<k.aj.length) (hp:m≠j\/e.page≠p):b7 (nN k j (pre++post) e) m p=b7 k m p:=by
 obtain⟨f1,f2,f3,f4,f5,f6,f7⟩:=Hc h hj he;have hs:bl (ak (nN k j (pre++post) e).aj m).bh p=bl (ak k.aj m).bh p/\(ak (nN k j (pre++post) e).aj m).aJ=(ak k.aj m).aJ:=by
  rw[f5,jd _ _ _ _ hj];by_cases c:j=m
  . subst c;rw[aC rfl];refine⟨?_,rfl⟩;show bl (pre++post) p=_
    grind [ahN]
  grind
 grind [zP,aeW,nM]
theorem BV {k:aT} (h:aW k) {j:Nat} (hj:j<k.aj.length) (g:bJ->Bool) {m:Nat} (hm:m<k.aj.length) {p:Int} (hp:m≠j\/∀e,bl (ak k.aj j).bh p=some e->g e=false):∀n,n<=(ak k.aj j).bh.length->b7 (lD (dx k (ak k.aj j).bh g n) j (fB ((ak k.aj j).bh.take n) g++(ak k.aj j).bh.drop n)) m p=b7 k m p
 | 0,_=>by
  have:fB ((ak k.aj j).bh.take 0) g++(ak k.aj j).bh.drop 0=(ak k.aj j).bh:=rfl;rw[this];show b7 (lD k j (ak k.aj j).bh) m p=_
  grind [O5]
 | n+1,hn=>by
  have ih:=BV h hj g hm hp n ω;have hr:=yY h hj g n ω;have hlt:n<(ak k.aj j).bh.length:=by omega
  have b:j<(dx k (ak k.aj j).bh g n).aj.length:=by grind [mF]
  rw[Pj _ n hlt] at ih hr;rw[Pd _ g n hlt];unfold dx;cases c:g (bc (ak k.aj j).bh n) with
  | true =>
   rw[aC rfl,aC rfl,Ch,<- ih];have y:(lD (dx k (ak k.aj j).bh g n) j (fB ((ak k.aj j).bh.take n) g++bc (ak k.aj j).bh n::(ak k.aj j).bh.drop (n+1))).aj.length=k.aj.length:=by
    show List.length (List.set _ _ _)=_
    grind [mF]
   have Gt:m≠j\/(bc (ak k.aj j).bh n).page≠p:=by
    rcases hp with q | q
    . omega
    refine .inr λe=>?_
    have:=q _ ((gZ (h.sp hj).lq).2 ⟨kT hlt,e⟩)
    grind [bc]
   have:=aeV hr ω (V4 _ j b _) (m:=m) ω Gt;have e:nN (lD (dx k (ak k.aj j).bh g n) j (fB ((ak k.aj j).bh.take n) g++bc (ak k.aj j).bh n::(ak k.aj j).bh.drop (n+1))) j (fB ((ak k.aj j).bh.take n) g++(ak k.aj j).bh.drop (n+1)) (bc (ak k.aj j).bh n)=lD (dN (dx k (ak k.aj j).bh g n) (bc (ak k.aj j).bh n)) j (fB ((ak k.aj j).bh.take n) g++(ak k.aj j).bh.drop (n+1)):=by
    show dN (lD (lD _ j _) j _) _=_
    grind [O4,L6]
   grind
  | false =>
   grind
theorem Dv (h:aW k) (hj:j<k.aj.length) (g:bJ->Bool) (hm:m<k.aj.length) (hp:m≠j\/∀e,bl (ak k.aj j).bh p=some e->g e=false):b7 (df k j g) m p=b7 k m p:=by
 have:=BV h hj g hm hp _ (aK _);rw[qJ,aaI,Ch] at this;exact this
theorem O0 (l:List dA) (s:dA) (m:Nat):ak (l++[s]) m=if m<l.length then ak l m else if m=l.length then s else tR:=by
 grind [ak]
theorem Pg (h:aW k) (hj:j<k.aj.length) (m n:Nat) (hn:n<k.aj.length) (hm:ak (jq k j).aj m=ak k.aj n) (p:Int):b7 (jq k j) m p=b7 k n p:=by
 have F:=yl h hj;refine zP (by rw[hm]) (λx hx=>?_) (λ_=>by rw[hm,F.aR]);rw[hm] at hx;have hb:=jn h hn (nM hx);exact⟨λc=>by rw[F.EK x.loc.toNat ω];rfl,λc=>by rw[F.slt x.loc.toNat ω];rfl⟩
theorem acb (h:aW k) (hj:j<k.aj.length) (hm:m<k.aj.length) (hne:m≠j) (p:Int):b7 (mE k j) m p=b7 k m p:=by
 rw[<- Dv h hj (λ_=>true) hm (.inl hne) (p:=p)]
 grind [ak,mE,zP]
theorem aeQ {es:List bJ} (hr:kL es) (g:bJ->Bool) (p:Int) (hp:∀e,bl es p=some e->g e=false):bl (fB es g) p=bl es p:=by
 grind [kL,fB,bl,tB,gZ]
theorem sY (k:aT) (hj:j<k.aj.length) (l:List aX):(iN k j l).aR=k.aR/\(iN k j l).hand=k.hand/\(iN k j l).frames.length=k.frames.length/\(iN k j l).slots.length=k.slots.length/\(iN k j l).aj.length=k.aj.length/\∀m,m<k.aj.length->ak (iN k j l).aj m=if j=m then ⟨(ak k.aj j).live,l,fB (ak k.aj j).bh (jg l)⟩ else ak k.aj m:=by
 have b:=oO k j (jg l);have q:j<(df k j (jg l)).aj.length:=by grind [ij]
 refine⟨b.1,b.2.1,b.2.2.1,b.2.2.2,?_,λm hm=>?_⟩
 . show(List.set _ _ _).length=_
   grind [ij]
 show ak (List.set _ _ _) m=_
 grind [jd,ij]
theorem Md (h:aW k) (hj:j<k.aj.length) (ht:zS (ak k.aj j).aJ l) (hm:m<k.aj.length) (hp:m≠j\/(aV l p).2=true):b7 (iN k j l) m p=if m=j/\(aV (ak k.aj j).aJ p).2=false then yj else b7 k m p:=by
 obtain⟨a1,a2,a3,a4,a5,a6⟩:=sY k hj l;by_cases c:m=j
 . subst c;have hl:(aV l p).2=true:=by grind
   have hE:∀e,bl (ak k.aj m).bh p=some e->jg l e=false:=λe he=>by
    grind [jg,Sn]
   have q:ak (iN k m l).aj m=⟨(ak k.aj m).live,l,fB (ak k.aj m).bh (jg l)⟩:=by grind
   have b:=aeQ (h.sp hm).lq (jg l) p hE;rcases ht p hl with g | g
   . rw[aB Γ,<- Dv h hm (jg l) hm (.inr hE)]
     grind [eD,ij,jd,zP,iN]
   rw[aC ⟨rfl,g.1⟩];unfold b7;rw[q];have:bl (fB (ak k.aj m).bh (jg l)) p=none:=by
    rw[b];refine tB.2 λe he hpe=>?_
    have:=((h.sp hm).Qs e he).1
    grind
   grind [gz]
 rw[aB (λx=>c x.1),<- Dv h hj (jg l) hm (.inl c) (p:=p)]
 grind [iN,jd,zP]
theorem xH (h:aW k) (hj:j<k.aj.length) (hj0:j0<k.aj.length) {a:Nat} (h1:bl (ak k.aj j).bh p=some ⟨p,1,a⟩) (h2:bl (ak k.aj j0).bh q=some ⟨q,1,b⟩) (hpq:q≠p):a≠b:=λe=>by
 subst e;have m1:=ki hj (nM h1);have m2:=ki hj0 (nM h2);have hb:=jn h hj (nM h1);have hlt:a<k.frames.length:=by
  grind
 have:=(h.EK a hlt).one _ m1 _ m2
 grind
theorem G9 (h:aW k) (hj0:j0<k.aj.length) (h2:bl (ak k.aj j0).bh q=some ⟨q,1,b⟩):b<k.frames.length/\(aM k.frames b).refs≠0:=by
 have m2:=ki hj0 (nM h2);have hb:=jn h hj0 (nM h2);have y:b<k.frames.length:=by
  grind
 refine⟨y,λz=>?_⟩;have:=(h.EK b y).nil z
 grind
theorem Tk (h:aW k) (hj:j<k.aj.length) (hp:dM k j p) (hl:held.length<=2) (hj0:j0<k.aj.length) (h2:bl (ak k.aj j0).bh q=some ⟨q,1,b⟩) (hin:(b:Int)∈held) (hpq:q≠p):aM (dI k j p held).2.frames b=aM k.frames b:=by
 have F:=h.sp hj;have G:=vg h hl;have hH:=G.UL b hin (G9 h hj0 h2).2;unfold dI;cases g:bl (ak k.aj j).bh p with
 | none =>
  dsimp only;have B:bl (ak (bK k held).2.aj j).bh p=none:=by grind [wS.Qs]
  have A:j<(bK k held).2.aj.length:=by rw[G.kept.np];exact hj
  have m:kX (bK k held).2 j p (bK k held).1 (gz (bK k held).2.aR p (qo (bK k held).2 j p)) false:=⟨G.right,A,G.mapped hj hp,by rw[G.kept.nf];exact G.lt,G.free,Ha G.right A (G.mapped hj hp),λ_=>rfl⟩
  grind [qA]
 | some e =>
  have he:=(gZ F.lq).1 g;dsimp only;by_cases c:e.kind=1
  . grind
  rw[aB c];have hb:=(jn h hj he.1).resolve_left (λy=>c y.1);have B:bl (ak (bK k held).2.aj j).bh p=some e:=by grind [wS.Qs]
  have A:j<(bK k held).2.aj.length:=by rw[G.kept.np];exact hj
  have K:=(gZ (G.right.sp A).lq).1 B;have J:(bI (bK k held).2.slots e.loc.toNat).data.size=16:=(G.right.slt e.loc.toNat (by grind [wS.kept,gp.ns])).size (λz=>by
   grind [ki])
  have m:kX (bK k held).2 j p (bK k held).1 (bI (bK k held).2.slots e.loc.toNat).data true:=⟨G.right,A,G.mapped hj hp,by rw[G.kept.nf];exact G.lt,G.free,J,λy=>by cases y⟩
  grind [qA]
theorem YK (h:aW k) (hj:j<k.aj.length) (hp:dM k j p) {a:Nat} (ha:bl (ak k.aj j).bh p=some ⟨p,1,a⟩) (hl:held.length<=1) (hj0:j0<k.aj.length) (h2:bl (ak k.aj j0).bh q=some ⟨q,1,b⟩) (hin:(b:Int)∈held) (hpq:q≠p):aM (mn k j p a held).2.frames b=aM k.frames b:=by
 have L:=xH h hj hj0 ha h2 hpq;have F:=(G9 h hj ha).1;unfold mn;by_cases c:(aM k.frames a).refs=1
 . grind
 rw[aB c];have G:=vg h (held:=held++[(a:Int)]) Γ;have hH:=G.UL b (kJ.2 (.inl hin)) (G9 h hj0 h2).2;generalize bK k (held++[(a:Int)])=g at G hH ⊢;have B:bl (ak g.2.aj j).bh p=some ⟨p,1,a⟩:=G.stay h hj ha (λ_=>kJ.2 (.inr ξ));have A:j<g.2.aj.length:=by rw[G.kept.np];exact hj
 have J:=(gZ (G.right.sp A).lq).1 B;have K:(aM g.2.frames a).data.size=16:=(G.right.EK a (by rw[G.kept.nf];exact F)).size (λz=>by
  have:=ki A J.1
  grind)
 have m:kX g.2 j p g.1 (aM g.2.frames a).data true:=⟨G.right,A,G.mapped hj hp,by rw[G.kept.nf];exact G.lt,G.free,K,λy=>by cases y⟩
 grind [qA]
theorem YG (h:aW k) (hj:j<k.aj.length) (hp:dM k j p) (way:Int) (hl:held.length<=1) (hj0:j0<k.aj.length) (h2:bl (ak k.aj j0).bh q=some ⟨q,1,b⟩) (hin:(b:Int)∈held) (hpq:q≠p):aM (dO k j p way held).2.frames b=aM k.frames b:=by
 have P:=Dt h hj hp (held:=held) ω;have PH:=Tk h hj hp (held:=held) ω hj0 h2 hin hpq;have hT:gv k j p held (iZ k j p way held)/\aM (iZ k j p way held).2.frames b=aM k.frames b:=by
  unfold iZ;by_cases c:way=1
  . rw[aC c];have A:=Pn P.right (by rw[P.kept.np];exact hj) (P.kept.mapped hj hp) P.here hl;refine⟨P.trans A.1,?_⟩;rw[YK P.right (by rw[P.kept.np];exact hj) (P.kept.mapped hj hp) P.here hl (by rw[P.kept.np];exact hj0) (P.stay j0 hj0 q _ h2 rfl hin (λx=>hpq x.2)) hin hpq];exact PH
  grind
 have T:=hT.1;have y:=xH T.right (by rw[T.kept.np];exact hj) (by rw[T.kept.np];exact hj0) T.here (T.stay j0 hj0 q _ h2 rfl hin (λx=>hpq x.2)) hpq;show aM ((iZ k j p way held).2.frames.set _ _) b=_
 grind [kV,gv.kept,gp.nf,gv.lt]
structure vk (k:aT) (j:Nat) (p:Int) (i:Nat):Prop where
 here:bl (ak k.aj j).bh p=some ⟨p,1,i⟩
 lt:i<k.frames.length
 refs:(aM k.frames i).refs=1
 kE:(aM k.frames i).kE=true
theorem V5 (h:aW k) (hj:j<k.aj.length) (a n:Int) (h1:dM k j (a/16)) (h2:dM k j (cN a n)):vk (bg k j a n 1).2 j (a/16) (fT k j a 1).1/\(cN a n≠a/16->vk (bg k j a n 1).2 j (cN a n) (mN k j a n 1).1):=by
 have R:=rD h hj a n 1 h1 h2;obtain⟨A,A2⟩:=tS h hj h1 1 (held:=[]) ξ;have A2:=A2 rfl;by_cases c:cN a n=a/16
 . have e:bg k j a n 1=([(fT k j a 1).1],(fT k j a 1).2):=by grind [bg]
   refine⟨?_,λx=>absurd c x⟩;rw[e];exact⟨A.here,by have:=A.kept.nf;have:=A.lt;show(dO k j (a/16) 1 []).1<(dO k j (a/16) 1 []).2.frames.length;omega,A2.1,A2.2⟩
 have q:j<(fT k j a 1).2.aj.length:=by grind [fT,gv.kept,gp.np]
 have y:=A.kept.mapped hj h2;obtain⟨B,B2⟩:=tS (k:=(fT k j a 1).2) A.right q y 1 (held:=[((fT k j a 1).1:Int)]) ξ;have B2:=B2 rfl;have hh:=YG (k:=(fT k j a 1).2) A.right q y 1 (held:=[((fT k j a 1).1:Int)]) ξ q A.here (by simp[fT]) (λx=>c x.symm);have e:bg k j a n 1=([(fT k j a 1).1,(mN k j a n 1).1],(mN k j a n 1).2):=by grind [bg]
 have hB:mN k j a n 1=dO (fT k j a 1).2 j (cN a n) 1 [((fT k j a 1).1:Int)]:=rfl;have b:(mN k j a n 1).2.frames.length=k.frames.length:=by rw[hB,B.kept.nf];exact A.kept.nf
 rw[e];refine⟨⟨?_,?_,?_,?_⟩,λ_=>⟨?_,?_,?_,?_⟩⟩
 . grind [fT,gv.stay,gv.here]
 . show(fT k j a 1).1<(mN k j a n 1).2.frames.length;rw[b];exact A.lt
 . grind [fT]
 . grind [fT]
 . exact B.here
 . show(mN k j a n 1).1<(mN k j a n 1).2.frames.length;rw[b];have:=B.lt
   grind [gv.kept,gp.nf]
 . grind
 grind
def yV (k:aT) (i:Nat) (d:ByteArray):aT:={ k with frames:=k.frames.set i ⟨d,(aM k.frames i).refs,(aM k.frames i).kE,(aM k.frames i).seen⟩ }
theorem E3 (h:aW k) (hj:j<k.aj.length) (a:vk k j p i) {d:ByteArray} (hd:d.size=16):aW (yV k i d):=by
 have hf:=h.EK i a.lt;refine h.frame ⟨hf.refs,λe=>?_,hf.one,λ_=>hd,λx=>?_⟩
 . have:=hf.refs
   grind [vk.refs]
 grind [vk.kE]
theorem G6 (h:aW k) (hj:j<k.aj.length) (a:vk k j p i) (d:ByteArray) (hm:m<k.aj.length) (q:Int):b7 (yV k i d) m q=if m=j/\q=p then d else b7 k m q:=by
 have at_:∀n,aM (yV k i d).frames n=if i=n then ⟨d,(aM k.frames i).refs,(aM k.frames i).kE,(aM k.frames i).seen⟩ else aM k.frames n:=λn=>kV _ _ _ _ a.lt
 by_cases c:m=j/\q=p
 . grind [b7,aM,yV,vk.here]
 rw[aB c];refine zP rfl (λx hx=>⟨λhk=>?_,λ_=>rfl⟩) (λ_=>rfl);have hx:bl (ak k.aj m).bh q=some x:=hx;rw[at_];by_cases e:i=x.loc.toNat
 . exfalso;have m1:x∈(ak k.aj m).bh:=nM hx;have hb:=(jn h hm m1).resolve_right (λy=>ω);have G:x.loc=(i:Int):=by omega
   have e2:x=⟨q,1,i⟩:=by
    have:=Sn hx;obtain⟨a1,a2,a3⟩:=x
    grind
   rw[e2] at hx;have B:q=p:=by
    by_cases z:q=p
    . exact z
    exact absurd rfl (xH h hj hm a.here hx z)
   have K:m≠j:=λz=>c ⟨z,B⟩
   have hr:=(h.EK i a.lt).refs;rw[a.refs] at hr;have two:2<=(bU k.aj 1 i).length:=by
    have J:∀(l:List dA) (a b:Nat),a<b->b<l.length->(fW (ak l a) 1 i)≠[]->(fW (ak l b) 1 i)≠[]->2<=(bU l 1 i).length:=λl=>by
     induction l with
     | nil=>grind
     | cons s r ih =>
      intro a b F hb h1 h2;rw[mD,ft];cases a with
      | zero =>
       have L:1<=(fW s 1 i).length:=List.length_pos_iff.2 h1;obtain⟨b',rfl⟩:∃b',b=b'+1:=⟨b-1,ω⟩;have A:fW (ak r b') 1 i≠[]:=h2;have:1<=(bU r 1 i).length:=by
        obtain⟨y,hy⟩:=NT _ A;refine List.length_pos_iff.2 λz=>?_
        have:y∈bU r 1 i:=vO.2 ⟨_,Ep Γ,hy⟩
        grind
       omega
      | succ a =>
       obtain⟨b',rfl⟩:∃b',b=b'+1:=⟨b-1,ω⟩;have:=ih a b' ω Γ h1 h2;omega
    have n1:fW (ak k.aj j) 1 i≠[]:=λz=>by
     have:(_:Int×Bool)∈fW (ak k.aj j) 1 i:=wY.2 ⟨_,nM a.here,rfl,rfl,rfl⟩
     grind
    have n2:fW (ak k.aj m) 1 i≠[]:=λz=>by
     have:(_:Int×Bool)∈fW (ak k.aj m) 1 i:=wY.2 ⟨_,nM hx,rfl,rfl,rfl⟩
     grind
    grind
   omega
 grind
def oN (f:Int->ByteArray) (a n:Int):ByteArray:=if cN a n=a/16 then f (a/16) else f (a/16)++f (cN a n)
def wZ (f:Int->ByteArray) (a n:Int):ByteArray:=(oN f a n).extract (a%16).toNat ((a%16).toNat+n.toNat)
def yX (f:Int->ByteArray) (a:Int) (d:ByteArray):ByteArray:=gB (oN f a d.size) (a%16).toNat d
def pA (f:Int->ByteArray) (a:Int) (d:ByteArray) (p:Int):ByteArray:=if p=a/16 then (yX f a d).extract 0 16 else if p=cN a d.size then (yX f a d).extract 16 32 else f p
def jo (fs:List nA) (ids:List Nat):Nat->ByteArray
 | 0=>⟨#[]⟩
 | n+1=>jo fs ids n++(aM fs (ids.getD n 0)).data
def mY (k:aT) (ids:List Nat) (s:ByteArray):Nat->aT
 | 0=>k
 | n+1=>yV (mY k ids s n) (ids.getD n 0) (s.extract (n*16) (n*16+16))
def rG (k:aT) (j:Nat) (a n way:Int):ByteArray:=(jo (bg k j a n way).2.frames (bg k j a n way).1 (bg k j a n way).1.length).extract (a%16).toNat ((a%16).toNat+n.toNat)
def nX (k:aT) (j:Nat) (a:Int) (d:ByteArray):aT:=mY (bg k j a d.size 1).2 (bg k j a d.size 1).1 (gB (jo (bg k j a d.size 1).2.frames (bg k j a d.size 1).1 (bg k j a d.size 1).1.length) (a%16).toNat d) (bg k j a d.size 1).1.length
theorem Pe (h:bl (ak k.aj j).bh p=some ⟨p,1,i⟩):b7 k j p=(aM k.frames i).data:=by
 grind [b7]
theorem EY (h:aW k) (hj:j<k.aj.length) (a n way:Int) (h1:dM k j (a/16)) (h2:dM k j (cN a n)):jo (bg k j a n way).2.frames (bg k j a n way).1 (bg k j a n way).1.length=oN (b7 k j) a n:=by
 have R:=rD h hj a n way h1 h2;have p1:=R.kept.XK j hj (a/16);have p2:=R.kept.XK j hj (cN a n);rw[Pe R.one.1] at p1;unfold oN;rw[<- p1,<- p2];by_cases c:cN a n=a/16
 . rw[aC c];have e:(bg k j a n way).1=[(fT k j a way).1]:=by grind [bg]
   rw[e];rfl
 rw[aB c,Pe (R.two c).1];have e:(bg k j a n way).1=[(fT k j a way).1,(mN k j a n way).1]:=by grind [bg]
 rw[e];rfl
theorem zR (h:aW k) (hj:j<k.aj.length) (a n way:Int) (h1:dM k j (a/16)) (h2:dM k j (cN a n)):rG k j a n way=wZ (b7 k j) a n:=by
 grind [rG,wZ,EY]
theorem wh (h:aW k) (hj:j<k.aj.length) (hp:dM k j p):(b7 k j p).size=16:=by
 unfold b7;cases g:bl (ak k.aj j).bh p with
 | none=>exact Ha h hj hp
 | some e =>
  have hb:=jn h hj (nM g);have hn:=ki hj (nM g);dsimp only;rcases hb with b | b
  . rw[aC b.1];exact(h.EK _ b.2.2).size (λz=>Γ)
  grind [aW.slt,qC.size]
theorem O9 (s:ByteArray) (q:Nat) (t:ByteArray) (h:q+t.size<=s.size):(gB s q t).size=s.size:=by
 have h1:(gB s q t).size=(gB s q t).data.toList.length:=by simp
 have h2:s.size=s.data.toList.length:=by simp
 have h3:t.size=t.data.toList.length:=by simp
 grind [gB]
theorem Et (s:ByteArray) (a b:Nat) (h:b<=s.size) (hab:a<=b):(s.extract a b).size=b-a:=by
 simp_all
theorem QJ (h1:1<=n) (h8:n<=8):(cN a n=a/16/\a%16+n<=16)\/(cN a n=a/16+1/\16<a%16+n):=by
 grind [cN]
structure JI (f:Int->ByteArray) (a n:Int):Prop where
 one:(f (a/16)).size=16
 two:(f (cN a n)).size=16
theorem G7 (h:JI f a n) (h1:1<=n) (h8:n<=8):((oN f a n).size:Int)=if cN a n=a/16 then 16 else 32:=by
 grind [oN,JI.one,JI.two]
theorem Ju (h:JI f a n) (h1:1<=n) (h8:n<=8):(a%16).toNat+n.toNat<=(oN f a n).size:=by
 grind [G7,QJ]
theorem ab7 (h:JI f a n) (h1:1<=n) (h8:n<=8):(wZ f a n).size=n.toNat:=by
 grind [wZ,Et,Ju]
theorem ab9 {d:ByteArray} (h:JI f a d.size) (h1:1<=(d.size:Int)) (h8:(d.size:Int)<=8):((yX f a d).size:Int)=if cN a d.size=a/16 then 16 else 32:=by
 unfold yX;rw[O9 _ _ _ (by have:=Ju h h1 h8;omega)]
 grind [G7]
structure QL (k:aT) (j:Nat) (a:Int) (d:ByteArray) (r:aT):Prop where
 right:aW r
 aR:r.aR=k.aR
 nf:r.frames.length=k.frames.length
 ns:r.slots.length=k.slots.length
 np:r.aj.length=k.aj.length
 live:∀m,m<k.aj.length->(ak r.aj m).live=(ak k.aj m).live
 aJ:∀m,m<k.aj.length->(ak r.aj m).aJ=(ak k.aj m).aJ
 XK:∀m,m<k.aj.length->∀p,b7 r m p=if m=j then pA (b7 k j) a d p else b7 k m p
theorem yQ (h:aW k) (hj:j<k.aj.length) (a:Int) (d:ByteArray) (hd1:1<=(d.size:Int)) (hd8:(d.size:Int)<=8) (h1:dM k j (a/16)) (h2:dM k j (cN a d.size)):QL k j a d (nX k j a d):=by
 have R:=rD h hj a d.size 1 h1 h2;have A:=V5 h hj a d.size h1 h2;have hP:JI (b7 k j) a d.size:=⟨wh h hj h1,wh h hj h2⟩;have hL:=ab9 hP hd1 hd8;have Gt:=QJ (a:=a) hd1 hd8;unfold nX;rw[EY h hj a d.size 1 h1 h2];obtain⟨s,hs⟩:=ex (yX (b7 k j) a d);have hs':gB (oN (b7 k j) a d.size) (a%16).toNat d=s:=hs.symm;rw[hs'];rw[<- hs] at hL;obtain⟨K,hK⟩:=ex ((bg k j a d.size 1).2);have hr:=R.right;have IU:=R.kept;rw[<- hK] at hr IU A ⊢;have b:j<K.aj.length:=by grind [gp.np]
 by_cases c:cN a d.size=a/16
 . have e:(bg k j a d.size 1).1=[(fT k j a 1).1]:=by grind [bg]
   rw[e];show QL k j a d (yV K (fT k j a 1).1 (s.extract (0*16) (0*16+16)));rw[aC c] at hL;have hz:(s.extract (0*16) (0*16+16)).size=16:=Et _ _ _ ω ω;refine⟨E3 hr b A.1 hz,IU.aR,by show(List.set _ _ _).length=_;grind [gp.nf],IU.ns,IU.np,IU.live,IU.aJ,λm hm p=>?_⟩
   grind [G6,pA,gp.np,gp.XK]
 have e:(bg k j a d.size 1).1=[(fT k j a 1).1,(mN k j a d.size 1).1]:=by grind [bg]
 rw[e];show QL k j a d (yV (yV K (fT k j a 1).1 (s.extract (0*16) (0*16+16))) (mN k j a d.size 1).1 (s.extract (1*16) (1*16+16)));rw[aB c] at hL;have hz:(s.extract (0*16) (0*16+16)).size=16:=Et _ _ _ ω ω;have hy:(s.extract (1*16) (1*16+16)).size=16:=Et _ _ _ ω ω;have A2:=A.2 c;have y:=xH hr b b A.1.here A2.here c;have r1:=E3 hr b A.1 hz;have B:vk (yV K (fT k j a 1).1 (s.extract (0*16) (0*16+16))) j (cN a d.size) (mN k j a d.size 1).1:=by
  have at_:aM (yV K (fT k j a 1).1 (s.extract (0*16) (0*16+16))).frames (mN k j a d.size 1).1=aM K.frames (mN k j a d.size 1).1:=by
   show aM (List.set _ _ _) _=_
   grind [kV,vk.lt]
  exact⟨A2.here,by show _<(List.set _ _ _).length;rw[dE];exact A2.lt,by grind [vk.refs],by grind [vk.kE]⟩
 refine⟨E3 r1 b B hy,IU.aR,by show(List.set (List.set _ _ _) _ _).length=_;grind [gp.nf],IU.ns,IU.np,IU.live,IU.aJ,λm hm p=>?_⟩;have q:m<K.aj.length:=by grind [gp.np]
 rw[G6 r1 b B _ (m:=m) q,G6 hr b A.1 _ q]
 grind [pA,gp.XK]
end Go.Proofs.YtlgoihmkgaaemaaGreat
