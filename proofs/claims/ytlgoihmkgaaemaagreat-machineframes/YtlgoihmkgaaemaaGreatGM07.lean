import Derived.Test.YtlgoihmkgaaemaaGreatGM06
set_option maxHeartbeats 20000000
set_option linter.unusedVariables false
set_option maxRecDepth 100000
set_option linter.unusedSimpArgs false
namespace Go.Proofs.YtlgoihmkgaaemaaGreat
open Go.RowKit
theorem aY.space {k:aR} (h:aY k) {j:Nat} (hj:j<k.aj.length) {s:cV} (hs:uN k.aM k.frames.length k.slots.length s) (hn:∀kd a,fw s kd a=fw (ak k.aj j) kd a) (hr:dZ (k.aj.set j s)<=k.slots.length):aY { k with aj:=k.aj.set j s }:=by
 have nn:∀kd a,bT (k.aj.set j s) kd a=bT k.aj kd a:=fun kd a=>by
  obtain⟨u,v,g1,g2⟩:=yZ k.aj j s kd a hj
  grind
 refine⟨?_,h.mn,h.hand,?_,hr,fun i hi=>?_,fun i hi=>?_⟩
 · have:=h.counts
   grind [nk]
 · grind [each]
 · grind [zt]
 grind [slt]
theorem KL (l:List cV):∀(j:Nat) (s:cV),j<l.length->dZ (l.set j s)=dZ l-bg (ak l j).aT+bg s.aT:=fun j s hj=>by
 have:∀n,jx (l.set j s) n=jx l n+if j<n then bg s.aT-bg (ak l j).aT else 0:=fun n=>by
  induction n with
  | zero=>rfl
  | succ n ih =>
   grind [jx,iC]
 grind [dZ]
def wW (old new:List aX):Prop:=∀p,(aW new p).2=true->((aW old p).2=true/\(aW new p).1.zero=(aW old p).1.zero)∨((aW old p).2=false/\(aW new p).1.zero=true)
theorem H8 {l:List aX} {p n q:Int} (h:(dD l p n q).2=0):bj (dD l p n q).1=0/\wW l (dD l p n q).1:=by
 obtain⟨h1,h2⟩:=zl l p n q h;refine⟨h1,fun x hx=>?_⟩;have hb:=kM hx;obtain⟨m,rfl⟩:∃m:Nat,x=(m:Int):=⟨x.toNat,by omega⟩
 grind
theorem yu {l:List aX} {p n:Int} (h:(cN l p n).2=0):bj (cN l p n).1=0/\wW l (cN l p n).1:=by
 obtain⟨h1,h2⟩:=wk l p n h;refine⟨h1,fun x hx=>?_⟩;have hb:=kM hx;obtain⟨m,rfl⟩:∃m:Nat,x=(m:Int):=⟨x.toNat,by omega⟩
 grind
theorem AY {l:List aX} {p n q:Int} (h:(bR l p n q).2=0):bj (bR l p n q).1=0/\wW l (bR l p n q).1:=by
 obtain⟨h1,h2⟩:=tS l p n q h;refine⟨h1,fun x hx=>?_⟩;have hb:=kM hx;obtain⟨m,rfl⟩:∃m:Nat,x=(m:Int):=⟨x.toNat,by omega⟩
 grind
def jf (l:List aX) (e:bC):Bool:=!(aW l e.page).2
def gA (k:aR) (j:Nat) (l:List aX):aR:={ dz k j (jf l) with aj:=(dz k j (jf l)).aj.set j ⟨(ak k.aj j).live,l,eQ (ak k.aj j).bf (jf l)⟩ }
theorem QI {k:aR} (h:aY k) {j:Nat} (hj:j<k.aj.length) (hl:(ak k.aj j).live=true) {l:List aX} (hc:bj l=0) (ht:wW (ak k.aj j).aT l) (hr:dZ k.aj-bg (ak k.aj j).aT+bg l<=k.slots.length):aY (gA k j l):=by
 have hf:=yw h hj (jf l);have hsp:=gF k j (jf l);have hre:=mU k j (jf l);have hj':j<(dz k j (jf l)).aj.length:=by grind
 have hat:ak (dz k j (jf l)).aj j=dU (ak k.aj j) (eQ (ak k.aj j).bf (jf l)):=by grind [iC]
 have hold:=h.sp hj;have hnew:=hf.sp hj';rw[hat] at hnew;have ah7:∀e∈eQ (ak k.aj j).bf (jf l),(aW l e.page).2=true/\e∈(ak k.aj j).bf:=fun e he=>by
  grind [eQ,jf]
 refine aY.space hf hj' ⟨fun dd=>?_,hc,hnew.mn,fun e he=>⟨(ah7 e he).1,(hnew.ML e he).2⟩,fun p hp hz=>?_⟩ (fun kd a=>?_) ?_
 · grind
 · rcases ht p hp with g | g
   · grind [uN.aM]
   grind
 · rw[hat];unfold fw;refine UC fun e he=>?_
   have hm:=ah7 e (Ul.1 he).1;rcases ht e.page hm.1 with g | g
   · show(e.page,_)=(e.page,_);rw[g.2];rfl
   · have:=(hold.ML e hm.2).1
     grind
 · rw[KL _ _ _ hj',hat,hsp,A3 _ _ (dU (ak k.aj j) (eQ (ak k.aj j).bf (jf l))) hj rfl,hre.2.2.2];exact hr
def js (k:aR) (j:Nat):aR:={ dz k j (fun _=>true) with aj:=(dz k j (fun _=>true)).aj.set j qJ }
theorem YL (p:Int):(aW [] p).2=false:=by
 rfl
theorem VH (hs:List bG) (nf ns:Nat):uN hs nf ns qJ:=by
 refine⟨fun _=>⟨rfl,rfl⟩,rfl,List.Pairwise.nil,fun e he=>?_,fun p hp=>?_⟩
 · cases he
 · have hp:(aW [] p).2=true:=hp
   grind [YL]
theorem VO (es:List bC):eQ es (fun _=>true)=[]:=by simp[eQ]
theorem SJ {k:aR} (h:aY k) {j:Nat} (hj:j<k.aj.length):aY (js k j):=by
 have hf:=yw h hj (fun _=>true);have hsp:=gF k j (fun _=>true);have hre:=mU k j (fun _=>true);have hj':j<(dz k j (fun _=>true)).aj.length:=by grind
 have hat:ak (dz k j (fun _=>true)).aj j=dU (ak k.aj j) []:=by grind [iC,VO]
 have ht:0<=bg (ak k.aj j).aT:=by
  have:=B6 (h.sp hj);omega
 refine aY.space hf hj' (VH _ _ _) (fun kd a=>?_) ?_
 · rw[hat];rfl
 · rw[KL _ _ _ hj',hat,hsp,A3 _ _ (dU (ak k.aj j) (eQ (ak k.aj j).bf (fun _=>true))) hj rfl,hre.2.2.2];have:=h.room;show dZ k.aj-bg (ak k.aj j).aT+bg []<=_;have e:bg []=0:=rfl;omega
def dN (k:aR) (es:List bC):Nat->aR
 | 0=>k
 | n+1=>jW (dN k es n) (aV es n) 1
def gD (k:aR) (j:Nat):aR:={ dN k (ak k.aj j).bf (ak k.aj j).bf.length with aj:=(dN k (ak k.aj j).bf (ak k.aj j).bf.length).aj++[ak k.aj j] }
def yb (f:lK) (c:Nat):lK:=⟨f.data,f.refs+c,f.jw,f.seen⟩
def xZ (f:oO) (c:Nat):oO:=⟨f.data,f.refs+c⟩
theorem Ih (f:lK):yb f 0=f:=by simp[yb]
theorem Ig (f:oO):xZ f 0=f:=by simp[xZ]
theorem vM {k:aR} (h:aY k) {j:Nat} (hj:j<k.aj.length):∀m,m<=(ak k.aj j).bf.length->(dN k (ak k.aj j).bf m).aM=k.aM/\(dN k (ak k.aj j).bf m).hand=k.hand/\(dN k (ak k.aj j).bf m).aj=k.aj/\(dN k (ak k.aj j).bf m).frames.length=k.frames.length/\(dN k (ak k.aj j).bf m).slots.length=k.slots.length /\
  (∀n,n<k.frames.length->aD (dN k (ak k.aj j).bf m).frames n=yb (aD k.frames n) (jK (ak k.aj j).aT 1 n ((ak k.aj j).bf.take m)).length) /\
  (∀n,n<k.slots.length->bE (dN k (ak k.aj j).bf m).slots n=xZ (bE k.slots n) (jK (ak k.aj j).aT 2 n ((ak k.aj j).bf.take m)).length)
 | 0,_=>⟨rfl,rfl,rfl,rfl,rfl,fun n _=>(Ih _).symm,fun n _=>(Ig _).symm⟩
 | m+1,hm=>by
  obtain⟨h1,h2,h3,h4,h5,h6,h7⟩:=vM h hj m (by omega);have hlt:m<(ak k.aj j).bf.length:=by omega
  have hin:aV (ak k.aj j).bf m∈(ak k.aj j).bf:=jL hlt;rw[DK _ m hlt];obtain⟨e,he⟩:=ex (aV (ak k.aj j).bf m);obtain⟨q,hq⟩:=ex (dN k (ak k.aj j).bf m);rw[<- he] at hin ⊢;have hs:dN k (ak k.aj j).bf (m+1)=jW q e 1:=by rw[hq,he];rfl
  rw[<- hq] at h1 h2 h3 h4 h5 h6 h7;rw[hs];have apg:∀(f:lK) (a b:Nat),yb (yb f a) b=yb f (a+b):=fun f a b=>by grind [yb]
  have apf:∀(f:oO) (a b:Nat),xZ (xZ f a) b=xZ f (a+b):=fun f a b=>by grind [xZ]
  rcases iU h hj hin with b | b
  · have hc:jW q e 1={ q with frames:=q.frames.set e.loc.toNat (G6 (aD q.frames e.loc.toNat) 1) }:=by grind [jW]
    rw[hc];refine⟨h1,h2,h3,by grind,h5,fun n hn=>?_,fun n hn=>?_⟩
    · show aD (q.frames.set _ _) n=_;rw[jM _ _ _ _ (by omega),mN,fD];by_cases c:e.loc.toNat=n
      · rw[aB c,rG _ (show e.kind=1/\e.loc=(n:Int) by omega),<- apg,<- h6 n hn,c];have hr:0<=(aD q.frames n).refs:=by
         rw[h6 n hn];have:=(h.zt n hn).refs;show 0<=(aD k.frames n).refs+_;omega
        unfold G6;rw[au (by omega)];rfl
      · rw[au c,nH _ (show ¬(e.kind=1/\e.loc=(n:Int)) by omega),h6 n hn];rfl
    grind [mN,nH]
  · have hc:jW q e 1={ q with slots:=q.slots.set e.loc.toNat (G5 (bE q.slots e.loc.toNat) 1) }:=by grind [jW]
    rw[hc];refine⟨h1,h2,h3,h4,by grind,fun n hn=>?_,fun n hn=>?_⟩
    · grind [mN,nH]
    · show bE (q.slots.set _ _) n=_;rw[xY _ _ _ _ (by omega),mN,fD];by_cases c:e.loc.toNat=n
      · rw[aB c,rG _ (show e.kind=2/\e.loc=(n:Int) by omega),<- apf,<- h7 n hn,c];have hr:0<=(bE q.slots n).refs:=by
         rw[h7 n hn];have:=(h.slt n hn).refs;show 0<=(bE k.slots n).refs+_;omega
        unfold G5;rw[au (by omega)];rfl
      · rw[au c,nH _ (show ¬(e.kind=2/\e.loc=(n:Int)) by omega),h7 n hn];rfl
structure rH (k:aR) (j:Nat) (f:aR):Prop where
 aM:f.aM=k.aM
 hand:f.hand=k.hand
 aj:f.aj=k.aj++[ak k.aj j]
 nf:f.frames.length=k.frames.length
 ns:f.slots.length=k.slots.length
 zt:∀n,n<k.frames.length->aD f.frames n=yb (aD k.frames n) (fw (ak k.aj j) 1 n).length
 slt:∀n,n<k.slots.length->bE f.slots n=xZ (bE k.slots n) (fw (ak k.aj j) 2 n).length
theorem uW {k:aR} (h:aY k) {j:Nat} (hj:j<k.aj.length):rH k j (gD k j):=by
 obtain⟨h1,h2,h3,h4,h5,h6,h7⟩:=vM h hj _ (aH _);rw[vh] at h6 h7;exact⟨h1,h2,by show _++_=_;rw[h3],h4,h5,h6,h7⟩
theorem SH {k:aR} (h:aY k) {j:Nat} (hj:j<k.aj.length) (h4:k.aj.length≠4) (hr:dZ k.aj+bg (ak k.aj j).aT<=k.slots.length):aY (gD k j):=by
 have F:=uW h hj;have hc:=h.c;have nn:∀kd a,bT (gD k j).aj kd a=bT k.aj kd a++fw (ak k.aj j) kd a:=fun kd a=>by
  grind [EC,kL,KQ,rH.aj]
 have sub:∀kd a,∀x∈fw (ak k.aj j) kd a,x∈bT k.aj kd a:=fun kd a x hx=>by
  grind [ui,o9,A0]
 have both:∀kd a,∀x∈bT k.aj kd a++fw (ak k.aj j) kd a,x∈bT k.aj kd a:=fun kd a x hx=>by
  grind
 have nil:∀kd a,bT k.aj kd a++fw (ak k.aj j) kd a=[]->bT k.aj kd a=[]/\fw (ak k.aj j) kd a=[]:=fun kd a e=>O5.1 e
 have ne:∀kd a,bT k.aj kd a++fw (ak k.aj j) kd a≠[]->bT k.aj kd a≠[]:=fun kd a hn e=>hn (by
  rw[e];refine acj.2 fun x hx=>?_
  grind)
 refine⟨?_,by rw[F.aM];exact h.mn,by rw[F.hand,F.nf];exact h.hand,?_,?_,fun n hn=>?_,fun n hn=>?_⟩
 · grind [nk,rH.nf,rH.ns,rH.aj,rH.aM]
 · grind [rH.aM,rH.nf,rH.ns,rH.aj,aY.each,aY.sp]
 · rw[F.aj,KM,F.ns];exact hr
 · rw[F.nf] at hn;rw[F.aM,nn,F.zt n hn];have hf:=h.zt n hn;refine⟨?_,fun e=>?_,fun x hx y hy=>hf.one x (both 1 n x hx) y (both 1 n y hy),fun e=>hf.size (ne 1 n e),fun d x hx=>hf.fill d x (both 1 n x hx)⟩
   · show(aD k.frames n).refs+_=_
     grind [lJ.refs]
   grind [Ih,lJ.zero]
 · rw[F.ns] at hn;rw[nn,F.slt n hn];have hf:=h.slt n hn;refine⟨?_,fun e=>?_,fun x hx y hy=>hf.one x (both 2 n x hx) y (both 2 n y hy),fun e=>hf.size (ne 2 n e)⟩
   · show(bE k.slots n).refs+_=_
     grind [oF.refs]
   grind [Ig,oF.zero]
open Go.RowKit
theorem YQ {k:aR} (h:aY k) {j:Nat} (hj:j<k.aj.length) {pre post:List bC} {e:bC} (he:(ak k.aj j).bf=pre++e::post) {m:Nat} (hm:m<k.aj.length) {x:bC} (hx:x∈(ak (l7 k j (pre++post) e).aj m).bf) :
  (x.kind=1->(aD (l7 k j (pre++post) e).frames x.loc.toNat).data=(aD k.frames x.loc.toNat).data)/\(x.kind≠1->(bE (l7 k j (pre++post) e).slots x.loc.toNat).data=(bE k.slots x.loc.toNat).data):=by
 obtain⟨f1,f2,f3,f4,f5,f6,f7⟩:=DW h hj he;have hr:=KZ h hj he;have hm':m<(l7 k j (pre++post) e).aj.length:=by grind
 have hn:=ji hm' hx;have hb:=iU hr hm' hx;refine⟨fun c=>?_,fun c=>?_⟩
 · have hb:(x.loc.toNat:Int)=x.loc/\x.loc.toNat<(l7 k j (pre++post) e).frames.length:=by omega
   rw[c,<- hb.1] at hn;have hf:=(hr.zt x.loc.toNat hb.2).refs;have hg:=f6 x.loc.toNat
   by_cases d:e.kind=1/\e.loc=(x.loc.toNat:Int)
   · rw[aB d] at hg;rw[hg] at hf ⊢;unfold rp at hf ⊢;by_cases z:(aD k.frames x.loc.toNat).refs-1=0
     · rw[aB z] at hf;have:(bT (l7 k j (pre++post) e).aj 1 (x.loc.toNat:Int)).length=0:=by
        have hf:(0:Int)=_:=hf;omega
       grind
     grind
   grind
 · have hb:x.kind=2/\(x.loc.toNat:Int)=x.loc/\x.loc.toNat<(l7 k j (pre++post) e).slots.length:=by omega
   rw[hb.1,<- hb.2.1] at hn;have hf:=(hr.slt x.loc.toNat hb.2.2).refs;have hg:=f7 x.loc.toNat
   by_cases d:e.kind=2/\e.loc=(x.loc.toNat:Int)
   · rw[aB d] at hg;rw[hg] at hf ⊢;unfold uk at hf ⊢;by_cases z:(bE k.slots x.loc.toNat).refs-1=0
     · rw[aB z] at hf;have:(bT (l7 k j (pre++post) e).aj 2 (x.loc.toNat:Int)).length=0:=by
        have hf:(0:Int)=_:=hf;omega
       grind
     grind
   grind
theorem l6 {es:List bC} {p:Int} {e:bC} (h:bk es p=some e):e∈es:=UD h
theorem Nr {es:List bC} {p:Int} {e:bC} (h:bk es p=some e):e.page=p:=by
 have:=List.find?_some h
 grind
theorem wT {a b:aR} {m n:Nat} {p:Int} (hE:bk (ak a.aj m).bf p=bk (ak b.aj n).bf p) (hd:∀x,bk (ak a.aj m).bf p=some x->(x.kind=1->(aD a.frames x.loc.toNat).data=(aD b.frames x.loc.toNat).data)/\(x.kind≠1->(bE a.slots x.loc.toNat).data=(bE b.slots x.loc.toNat).data)) (hf:bk (ak a.aj m).bf p=none->fY a.aM p (aW (ak a.aj m).aT p).1.zero=fY b.aM p (aW (ak b.aj n).aT p).1.zero):cC a m p=cC b n p:=by
 grind [cC]
theorem aa9 {pre post:List bC} {e:bC} {p:Int} (h:e.page≠p):bk (pre++post) p=bk (pre++e::post) p:=by
 grind [bk]
theorem YP {k:aR} (h:aY k) {j:Nat} (hj:j<k.aj.length) {pre post:List bC} {e:bC} (he:(ak k.aj j).bf=pre++e::post) {m:Nat} (hm:m<k.aj.length) {p:Int} (hp:m≠j∨e.page≠p):cC (l7 k j (pre++post) e) m p=cC k m p:=by
 obtain⟨f1,f2,f3,f4,f5,f6,f7⟩:=DW h hj he;have hs:bk (ak (l7 k j (pre++post) e).aj m).bf p=bk (ak k.aj m).bf p/\(ak (l7 k j (pre++post) e).aj m).aT=(ak k.aj m).aT:=by
  rw[f5,iC _ _ _ _ hj];by_cases c:j=m
  · subst c;rw[aB rfl];refine⟨?_,rfl⟩;show bk (pre++post) p=_
    grind [aa9]
  grind
 grind [wT,YQ,l6]
theorem yG {k:aR} (h:aY k) {j:Nat} (hj:j<k.aj.length) (g:bC->Bool) {m:Nat} (hm:m<k.aj.length) {p:Int} (hp:m≠j∨∀e,bk (ak k.aj j).bf p=some e->g e=false):∀n,n<=(ak k.aj j).bf.length->cC (jV (cQ k (ak k.aj j).bf g n) j (eQ ((ak k.aj j).bf.take n) g++(ak k.aj j).bf.drop n)) m p=cC k m p
 | 0,_=>by
  have:eQ ((ak k.aj j).bf.take 0) g++(ak k.aj j).bf.drop 0=(ak k.aj j).bf:=rfl;rw[this];show cC (jV k j (ak k.aj j).bf) m p=_
  grind [KJ]
 | n+1,hn=>by
  have ih:=yG h hj g hm hp n (by omega);have hr:=vT h hj g n (by omega);have hlt:n<(ak k.aj j).bf.length:=by omega
  have UI:j<(cQ k (ak k.aj j).bf g n).aj.length:=by grind [kN]
  rw[KW _ n hlt] at ih hr;rw[KR _ g n hlt];unfold cQ;cases c:g (aV (ak k.aj j).bf n) with
  | true =>
   rw[aB rfl,aB rfl,C6,<- ih];have hl2:(jV (cQ k (ak k.aj j).bf g n) j (eQ ((ak k.aj j).bf.take n) g++aV (ak k.aj j).bf n::(ak k.aj j).bf.drop (n+1))).aj.length=k.aj.length:=by
    show List.length (List.set _ _ _)=_
    grind [kN]
   have Pd:m≠j∨(aV (ak k.aj j).bf n).page≠p:=by
    rcases hp with q | q
    · omega
    · refine .inr fun e=>?_
      have:=q _ ((gX (h.sp hj).mn).2 ⟨jL hlt,e⟩)
      grind [aV]
   have:=YP hr (by omega) (QA _ j UI _) (m:=m) (by omega) Pd;have e:l7 (jV (cQ k (ak k.aj j).bf g n) j (eQ ((ak k.aj j).bf.take n) g++aV (ak k.aj j).bf n::(ak k.aj j).bf.drop (n+1))) j (eQ ((ak k.aj j).bf.take n) g++(ak k.aj j).bf.drop (n+1)) (aV (ak k.aj j).bf n)=jV (dE (cQ k (ak k.aj j).bf g n) (aV (ak k.aj j).bf n)) j (eQ ((ak k.aj j).bf.take n) g++(ak k.aj j).bf.drop (n+1)):=by
    show dE (jV (jV _ j _) j _) _=_
    grind [KI,Ii]
   grind
  | false =>
   grind
theorem zQ {k:aR} (h:aY k) {j:Nat} (hj:j<k.aj.length) (g:bC->Bool) {m:Nat} (hm:m<k.aj.length) {p:Int} (hp:m≠j∨∀e,bk (ak k.aj j).bf p=some e->g e=false):cC (dz k j g) m p=cC k m p:=by
 have:=yG h hj g hm hp _ (aH _);rw[vh,Uq,C6] at this;exact this
theorem KH (l:List cV) (s:cV) (m:Nat):ak (l++[s]) m=if m<l.length then ak l m else if m=l.length then s else qJ:=by
 grind [ak]
theorem KU {k:aR} (h:aY k) {j:Nat} (hj:j<k.aj.length) (m n:Nat) (hn:n<k.aj.length) (hm:ak (gD k j).aj m=ak k.aj n) (p:Int):cC (gD k j) m p=cC k n p:=by
 have F:=uW h hj;refine wT (by rw[hm]) (fun x hx=>?_) (fun _=>by rw[hm,F.aM]);rw[hm] at hx;have hb:=iU h hn (l6 hx);exact⟨fun c=>by rw[F.zt x.loc.toNat (by omega)];rfl,fun c=>by rw[F.slt x.loc.toNat (by omega)];rfl⟩
theorem VP {k:aR} (h:aY k) {j:Nat} (hj:j<k.aj.length) {m:Nat} (hm:m<k.aj.length) (hne:m≠j) (p:Int):cC (js k j) m p=cC k m p:=by
 rw[<- zQ h hj (fun _=>true) hm (.inl hne) (p:=p)]
 grind [ak,js,wT]
theorem YJ {es:List bC} (hr:jC es) (g:bC->Bool) (p:Int) (hp:∀e,bk es p=some e->g e=false):bk (eQ es g) p=bk es p:=by
 grind [jC,eQ,bk,qy,gX]
theorem qg (k:aR) {j:Nat} (hj:j<k.aj.length) (l:List aX):(gA k j l).aM=k.aM/\(gA k j l).hand=k.hand/\(gA k j l).frames.length=k.frames.length/\(gA k j l).slots.length=k.slots.length/\(gA k j l).aj.length=k.aj.length/\∀m,m<k.aj.length->ak (gA k j l).aj m=if j=m then ⟨(ak k.aj j).live,l,eQ (ak k.aj j).bf (jf l)⟩ else ak k.aj m:=by
 have hre:=mU k j (jf l);have hj':j<(dz k j (jf l)).aj.length:=by grind [gF]
 refine⟨hre.1,hre.2.1,hre.2.2.1,hre.2.2.2,?_,fun m hm=>?_⟩
 · show(List.set _ _ _).length=_
   grind [gF]
 · show ak (List.set _ _ _) m=_
   grind [iC,gF]
theorem Ip {k:aR} (h:aY k) {j:Nat} (hj:j<k.aj.length) {l:List aX} (ht:wW (ak k.aj j).aT l) {m:Nat} (hm:m<k.aj.length) {p:Int} (hp:m≠j∨(aW l p).2=true):cC (gA k j l) m p=if m=j/\(aW (ak k.aj j).aT p).2=false then uV else cC k m p:=by
 obtain⟨a1,a2,a3,a4,a5,a6⟩:=qg k hj l;by_cases c:m=j
 · subst c;have hl:(aW l p).2=true:=by grind
   have hE:∀e,bk (ak k.aj m).bf p=some e->jf l e=false:=fun e he=>by
    grind [jf,Nr]
   have hsp:ak (gA k m l).aj m=⟨(ak k.aj m).live,l,eQ (ak k.aj m).bf (jf l)⟩:=by grind
   have hke:=YJ (h.sp hm).mn (jf l) p hE;rcases ht p hl with g | g
   · rw[au (by grind),<- zQ h hm (jf l) hm (.inr hE)]
     grind [dU,gF,iC,wT,gA]
   · rw[aB ⟨rfl,g.1⟩];unfold cC;rw[hsp];have:bk (eQ (ak k.aj m).bf (jf l)) p=none:=by
      rw[hke];refine qy.2 fun e he hpe=>?_
      have:=((h.sp hm).ML e he).1
      grind
     grind [fY]
 · rw[au (fun x=>c x.1),<- zQ h hj (jf l) hm (.inl c) (p:=p)]
   grind [gA,iC,wT]
open Go.RowKit
open Go.RowKit
theorem uG {k:aR} (h:aY k) {j j0:Nat} (hj:j<k.aj.length) (Z6:j0<k.aj.length) {p q:Int} {a b:Nat} (h1:bk (ak k.aj j).bf p=some ⟨p,1,a⟩) (h2:bk (ak k.aj j0).bf q=some ⟨q,1,b⟩) (hpq:q≠p):a≠b:=fun e=>by
 subst e;have m1:=ji hj (l6 h1);have m2:=ji Z6 (l6 h2);have hb:=iU h hj (l6 h1);have hlt:a<k.frames.length:=by
  grind
 have:=(h.zt a hlt).one _ m1 _ m2
 grind
theorem DT {k:aR} (h:aY k) {j0:Nat} (Z6:j0<k.aj.length) {q:Int} {b:Nat} (h2:bk (ak k.aj j0).bf q=some ⟨q,1,b⟩):b<k.frames.length/\(aD k.frames b).refs≠0:=by
 have m2:=ji Z6 (l6 h2);have hb:=iU h Z6 (l6 h2);have hlt:b<k.frames.length:=by
  grind
 refine⟨hlt,fun z=>?_⟩;have:=(h.zt b hlt).nil z
 grind
theorem Ob {k:aR} (h:aY k) {j:Nat} (hj:j<k.aj.length) {p:Int} (hp:dX k j p) {held:List Int} (hl:held.length<=2) {j0:Nat} (Z6:j0<k.aj.length) {q:Int} {b:Nat} (h2:bk (ak k.aj j0).bf q=some ⟨q,1,b⟩) (hin:(b:Int)∈held) (hpq:q≠p):aD (dn k j p held).2.frames b=aD k.frames b:=by
 have hsp:=h.sp hj;have G:=sN h hl;have hH:=G.PF b hin (DT h Z6 h2).2;unfold dn;cases g:bk (ak k.aj j).bf p with
 | none =>
  dsimp only;have hent:bk (ak (bJ k held).2.aj j).bf p=none:=by grind [ua.ML]
  have hj':j<(bJ k held).2.aj.length:=by rw[G.kept.np];exact hj
  have m:jO (bJ k held).2 j p (bJ k held).1 (fY (bJ k held).2.aM p (rE (bJ k held).2 j p)) false:=⟨G.right,hj',G.mapped hj hp,by rw[G.kept.nf];exact G.lt,G.free,DU G.right hj' (G.mapped hj hp),fun _=>rfl⟩
  grind [oC]
 | some e =>
  have he:=(gX hsp.mn).1 g;dsimp only;by_cases c:e.kind=1
  · grind
  · rw[au c];have hb:=(iU h hj he.1).resolve_left (fun y=>c y.1);have hent:bk (ak (bJ k held).2.aj j).bf p=some e:=by grind [ua.ML]
    have hj':j<(bJ k held).2.aj.length:=by rw[G.kept.np];exact hj
    have he':=(gX (G.right.sp hj').mn).1 hent;have hsz:(bE (bJ k held).2.slots e.loc.toNat).data.size=16:=(G.right.slt e.loc.toNat (by grind [ua.kept,fE.ns])).size (fun z=>by
     grind [ji])
    have m:jO (bJ k held).2 j p (bJ k held).1 (bE (bJ k held).2.slots e.loc.toNat).data true:=⟨G.right,hj',G.mapped hj hp,by rw[G.kept.nf];exact G.lt,G.free,hsz,fun y=>by cases y⟩
    grind [oC]
theorem SP {k:aR} (h:aY k) {j:Nat} (hj:j<k.aj.length) {p:Int} (hp:dX k j p) {a:Nat} (ha:bk (ak k.aj j).bf p=some ⟨p,1,a⟩) {held:List Int} (hl:held.length<=1) {j0:Nat} (Z6:j0<k.aj.length) {q:Int} {b:Nat} (h2:bk (ak k.aj j0).bf q=some ⟨q,1,b⟩) (hin:(b:Int)∈held) (hpq:q≠p):aD (kJ k j p a held).2.frames b=aD k.frames b:=by
 have hab:=uG h hj Z6 ha h2 hpq;have hat:=(DT h hj ha).1;unfold kJ;by_cases c:(aD k.frames a).refs=1
 · grind
 · rw[au c];have G:=sN h (held:=held++[(a:Int)]) (by grind);have hH:=G.PF b (lQ.2 (.inl hin)) (DT h Z6 h2).2;obtain⟨g,hg⟩:=ex (bJ k (held++[(a:Int)]));rw[<- hg] at G hH ⊢;have hent:bk (ak g.2.aj j).bf p=some ⟨p,1,a⟩:=G.stay h hj ha (fun _=>lQ.2 (.inr (by simp)));have hj':j<g.2.aj.length:=by rw[G.kept.np];exact hj
   have he':=(gX (G.right.sp hj').mn).1 hent;have hsz:(aD g.2.frames a).data.size=16:=(G.right.zt a (by rw[G.kept.nf];exact hat)).size (fun z=>by
    have:=ji hj' he'.1
    grind)
   have m:jO g.2 j p g.1 (aD g.2.frames a).data true:=⟨G.right,hj',G.mapped hj hp,by rw[G.kept.nf];exact G.lt,G.free,hsz,fun y=>by cases y⟩
   grind [oC]
theorem SK {k:aR} (h:aY k) {j:Nat} (hj:j<k.aj.length) {p:Int} (hp:dX k j p) (way:Int) {held:List Int} (hl:held.length<=1) {j0:Nat} (Z6:j0<k.aj.length) {q:Int} {b:Nat} (h2:bk (ak k.aj j0).bf q=some ⟨q,1,b⟩) (hin:(b:Int)∈held) (hpq:q≠p):aD (dG k j p way held).2.frames b=aD k.frames b:=by
 have P:=zO h hj hp (held:=held) (by omega);have PH:=Ob h hj hp (held:=held) (by omega) Z6 h2 hin hpq;have hT:fK k j p held (ir k j p way held)/\aD (ir k j p way held).2.frames b=aD k.frames b:=by
  unfold ir;by_cases c:way=1
  · rw[aB c];have A:=K4 P.right (by rw[P.kept.np];exact hj) (P.kept.mapped hj hp) P.here hl;refine⟨P.trans A.1,?_⟩;rw[SP P.right (by rw[P.kept.np];exact hj) (P.kept.mapped hj hp) P.here hl (by rw[P.kept.np];exact Z6) (P.stay j0 Z6 q _ h2 rfl hin (fun x=>hpq x.2)) hin hpq];exact PH
  grind
 have T:=hT.1;have hne:=uG T.right (by rw[T.kept.np];exact hj) (by rw[T.kept.np];exact Z6) T.here (T.stay j0 Z6 q _ h2 rfl hin (fun x=>hpq x.2)) hpq;show aD ((ir k j p way held).2.frames.set _ _) b=_
 grind [jM,fK.kept,fE.nf,fK.lt]
structure sP (k:aR) (j:Nat) (p:Int) (i:Nat):Prop where
 here:bk (ak k.aj j).bf p=some ⟨p,1,i⟩
 lt:i<k.frames.length
 refs:(aD k.frames i).refs=1
 jw:(aD k.frames i).jw=true
theorem QB {k:aR} (h:aY k) {j:Nat} (hj:j<k.aj.length) (a n:Int) (h1:dX k j (a/16)) (h2:dX k j (cj a n)):sP (aZ k j a n 1).2 j (a/16) (eU k j a 1).1/\(cj a n≠a/16->sP (aZ k j a n 1).2 j (cj a n) (kx k j a n 1).1):=by
 have R:=nT h hj a n 1 h1 h2;obtain⟨A,A2⟩:=qK h hj h1 1 (held:=[]) (by simp);have A2:=A2 rfl;by_cases c:cj a n=a/16
 · have e:aZ k j a n 1=([(eU k j a 1).1],(eU k j a 1).2):=by grind [aZ]
   refine⟨?_,fun x=>absurd c x⟩;rw[e];exact⟨A.here,by have:=A.kept.nf;have:=A.lt;show(dG k j (a/16) 1 []).1<(dG k j (a/16) 1 []).2.frames.length;omega,A2.1,A2.2⟩
 · have hj':j<(eU k j a 1).2.aj.length:=by grind [eU,fK.kept,fE.np]
   have hm':=A.kept.mapped hj h2;obtain⟨B,B2⟩:=qK (k:=(eU k j a 1).2) A.right hj' hm' 1 (held:=[((eU k j a 1).1:Int)]) (by simp);have B2:=B2 rfl;have hh:=SK (k:=(eU k j a 1).2) A.right hj' hm' 1 (held:=[((eU k j a 1).1:Int)]) (by simp) hj' A.here (by simp[eU]) (fun x=>c x.symm);have e:aZ k j a n 1=([(eU k j a 1).1,(kx k j a n 1).1],(kx k j a n 1).2):=by grind [aZ]
   have hB:kx k j a n 1=dG (eU k j a 1).2 j (cj a n) 1 [((eU k j a 1).1:Int)]:=rfl;have hlen:(kx k j a n 1).2.frames.length=k.frames.length:=by rw[hB,B.kept.nf];exact A.kept.nf
   rw[e];refine⟨⟨?_,?_,?_,?_⟩,fun _=>⟨?_,?_,?_,?_⟩⟩
   · grind [eU,fK.stay,fK.here]
   · show(eU k j a 1).1<(kx k j a n 1).2.frames.length;rw[hlen];exact A.lt
   · grind [eU]
   · grind [eU]
   · exact B.here
   · show(kx k j a n 1).1<(kx k j a n 1).2.frames.length;rw[hlen];have:=B.lt
     grind [fK.kept,fE.nf]
   · grind
   grind
def vQ (k:aR) (i:Nat) (d:ByteArray):aR:={ k with frames:=k.frames.set i ⟨d,(aD k.frames i).refs,(aD k.frames i).jw,(aD k.frames i).seen⟩ }
theorem B0 {k:aR} (h:aY k) {j:Nat} (hj:j<k.aj.length) {p:Int} {i:Nat} (a:sP k j p i) {d:ByteArray} (hd:d.size=16):aY (vQ k i d):=by
 have hf:=h.zt i a.lt;refine h.frame ⟨hf.refs,fun e=>?_,hf.one,fun _=>hd,fun x=>?_⟩
 · have:=hf.refs
   grind [sP.refs]
 grind [sP.jw]
theorem DN {k:aR} (h:aY k) {j:Nat} (hj:j<k.aj.length) {p:Int} {i:Nat} (a:sP k j p i) (d:ByteArray) {m:Nat} (hm:m<k.aj.length) (q:Int):cC (vQ k i d) m q=if m=j/\q=p then d else cC k m q:=by
 have at_:∀n,aD (vQ k i d).frames n=if i=n then ⟨d,(aD k.frames i).refs,(aD k.frames i).jw,(aD k.frames i).seen⟩ else aD k.frames n:=fun n=>jM _ _ _ _ a.lt
 by_cases c:m=j/\q=p
 · grind [cC,aD,vQ,sP.here]
 · rw[au c];refine wT rfl (fun x hx=>⟨fun hk=>?_,fun _=>rfl⟩) (fun _=>rfl);have hx:bk (ak k.aj m).bf q=some x:=hx;rw[at_];by_cases e:i=x.loc.toNat
   · exfalso;have m1:x∈(ak k.aj m).bf:=l6 hx;have hb:=(iU h hm m1).resolve_right (fun y=>by omega);have hxl:x.loc=(i:Int):=by omega
     have e2:x=⟨q,1,i⟩:=by
      have:=Nr hx;obtain⟨a1,a2,a3⟩:=x
      grind
     rw[e2] at hx;have hpq:q=p:=by
      by_cases z:q=p
      · exact z
      · exact absurd rfl (uG h hj hm a.here hx z)
     have hmj:m≠j:=fun z=>c ⟨z,hpq⟩
     have hr:=(h.zt i a.lt).refs;rw[a.refs] at hr;have two:2<=(bT k.aj 1 i).length:=by
      have key:∀(l:List cV) (a b:Nat),a<b->b<l.length->(fw (ak l a) 1 i)≠[]->(fw (ak l b) 1 i)≠[]->2<=(bT l 1 i).length:=fun l=>by
       induction l with
       | nil=>grind
       | cons s r ih =>
        intro a b hab hb h1 h2;rw[kL,fD];cases a with
        | zero =>
         have h1':1<=(fw s 1 i).length:=List.length_pos_iff.2 h1;obtain⟨b',rfl⟩:∃b',b=b'+1:=⟨b-1,by omega⟩;have h2':fw (ak r b') 1 i≠[]:=h2;have:1<=(bT r 1 i).length:=by
          obtain⟨y,hy⟩:=JI _ h2';refine List.length_pos_iff.2 fun z=>?_
          have:y∈bT r 1 i:=vg.2 ⟨_,A0 (by grind),hy⟩
          grind
         omega
        | succ a =>
         obtain⟨b',rfl⟩:∃b',b=b'+1:=⟨b-1,by omega⟩;have:=ih a b' (by omega) (by grind) h1 h2;omega
      have n1:fw (ak k.aj j) 1 i≠[]:=fun z=>by
       have:(_:Int×Bool)∈fw (ak k.aj j) 1 i:=ui.2 ⟨_,l6 a.here,rfl,rfl,rfl⟩
       grind
      have n2:fw (ak k.aj m) 1 i≠[]:=fun z=>by
       have:(_:Int×Bool)∈fw (ak k.aj m) 1 i:=ui.2 ⟨_,l6 hx,rfl,rfl,rfl⟩
       grind
      grind
     omega
   grind
def nI (f:Int->ByteArray) (a n:Int):ByteArray:=if cj a n=a/16 then f (a/16) else f (a/16)++f (cj a n)
def uj (f:Int->ByteArray) (a n:Int):ByteArray:=(nI f a n).extract (a%16).toNat ((a%16).toNat+n.toNat)
def vR (f:Int->ByteArray) (a:Int) (d:ByteArray):ByteArray:=iw (nI f a d.size) (a%16).toNat d
def nj (f:Int->ByteArray) (a:Int) (d:ByteArray) (p:Int):ByteArray:=if p=a/16 then (vR f a d).extract 0 16 else if p=cj a d.size then (vR f a d).extract 16 32 else f p
def iH (fs:List lK) (ids:List Nat):Nat->ByteArray
 | 0=>⟨#[]⟩
 | n+1=>iH fs ids n++(aD fs (ids.getD n 0)).data
def lq (k:aR) (ids:List Nat) (s:ByteArray):Nat->aR
 | 0=>k
 | n+1=>vQ (lq k ids s n) (ids.getD n 0) (s.extract (n*16) (n*16+16))
def l5 (k:aR) (j:Nat) (a n way:Int):ByteArray:=(iH (aZ k j a n way).2.frames (aZ k j a n way).1 (aZ k j a n way).1.length).extract (a%16).toNat ((a%16).toNat+n.toNat)
def ll (k:aR) (j:Nat) (a:Int) (d:ByteArray):aR:=lq (aZ k j a d.size 1).2 (aZ k j a d.size 1).1 (iw (iH (aZ k j a d.size 1).2.frames (aZ k j a d.size 1).1 (aZ k j a d.size 1).1.length) (a%16).toNat d) (aZ k j a d.size 1).1.length
theorem KS {k:aR} {j:Nat} {p:Int} {i:Nat} (h:bk (ak k.aj j).bf p=some ⟨p,1,i⟩):cC k j p=(aD k.frames i).data:=by
 grind [cC]
theorem xE {k:aR} (h:aY k) {j:Nat} (hj:j<k.aj.length) (a n way:Int) (h1:dX k j (a/16)) (h2:dX k j (cj a n)):iH (aZ k j a n way).2.frames (aZ k j a n way).1 (aZ k j a n way).1.length=nI (cC k j) a n:=by
 have R:=nT h hj a n way h1 h2;have p1:=R.kept.RQ j hj (a/16);have p2:=R.kept.RQ j hj (cj a n);rw[KS R.one.1] at p1;unfold nI;rw[<- p1,<- p2];by_cases c:cj a n=a/16
 · rw[aB c];have e:(aZ k j a n way).1=[(eU k j a way).1]:=by grind [aZ]
   rw[e];rfl
 · rw[au c,KS (R.two c).1];have e:(aZ k j a n way).1=[(eU k j a way).1,(kx k j a n way).1]:=by grind [aZ]
   rw[e];rfl
theorem wV {k:aR} (h:aY k) {j:Nat} (hj:j<k.aj.length) (a n way:Int) (h1:dX k j (a/16)) (h2:dX k j (cj a n)):l5 k j a n way=uj (cC k j) a n:=by
 grind [l5,uj,xE]
theorem o8 {k:aR} (h:aY k) {j:Nat} (hj:j<k.aj.length) {p:Int} (hp:dX k j p):(cC k j p).size=16:=by
 unfold cC;cases g:bk (ak k.aj j).bf p with
 | none=>exact DU h hj hp
 | some e =>
  have hb:=iU h hj (l6 g);have hn:=ji hj (l6 g);dsimp only;rcases hb with b | b
  · rw[aB b.1];exact(h.zt _ b.2.2).size (fun z=>by grind)
  grind [aY.slt,oF.size]
open Go.RowKit
theorem KO (s:ByteArray) (q:Nat) (t:ByteArray) (h:q+t.size<=s.size):(iw s q t).size=s.size:=by
 have h1:(iw s q t).size=(iw s q t).data.toList.length:=by simp
 have h2:s.size=s.data.toList.length:=by simp
 have h3:t.size=t.data.toList.length:=by simp
 grind [iw]
theorem A6 (s:ByteArray) (a b:Nat) (h:b<=s.size) (hab:a<=b):(s.extract a b).size=b-a:=by
 simp_all
theorem Mi {a n:Int} (h1:1<=n) (h8:n<=8):(cj a n=a/16/\a%16+n<=16)∨(cj a n=a/16+1/\16<a%16+n):=by
 grind [cj]
structure DX (f:Int->ByteArray) (a n:Int):Prop where
 one:(f (a/16)).size=16
 two:(f (cj a n)).size=16
theorem y9 {f:Int->ByteArray} {a n:Int} (h:DX f a n) (h1:1<=n) (h8:n<=8):((nI f a n).size:Int)=if cj a n=a/16 then 16 else 32:=by
 grind [nI,DX.one,DX.two]
theorem A5 {f:Int->ByteArray} {a n:Int} (h:DX f a n) (h1:1<=n) (h8:n<=8):(a%16).toNat+n.toNat<=(nI f a n).size:=by
 grind [y9,Mi]
theorem VL {f:Int->ByteArray} {a n:Int} (h:DX f a n) (h1:1<=n) (h8:n<=8):(uj f a n).size=n.toNat:=by
 grind [uj,A6,A5]
theorem VN {f:Int->ByteArray} {a:Int} {d:ByteArray} (h:DX f a d.size) (h1:1<=(d.size:Int)) (h8:(d.size:Int)<=8):((vR f a d).size:Int)=if cj a d.size=a/16 then 16 else 32:=by
 unfold vR;rw[KO _ _ _ (by have:=A5 h h1 h8;omega)]
 grind [y9]
structure Mk (k:aR) (j:Nat) (a:Int) (d:ByteArray) (r:aR):Prop where
 right:aY r
 aM:r.aM=k.aM
 nf:r.frames.length=k.frames.length
 ns:r.slots.length=k.slots.length
 np:r.aj.length=k.aj.length
 live:∀m,m<k.aj.length->(ak r.aj m).live=(ak k.aj m).live
 aT:∀m,m<k.aj.length->(ak r.aj m).aT=(ak k.aj m).aT
 RQ:∀m,m<k.aj.length->∀p,cC r m p=if m=j then nj (cC k j) a d p else cC k m p
theorem vK {k:aR} (h:aY k) {j:Nat} (hj:j<k.aj.length) (a:Int) (d:ByteArray) (hd1:1<=(d.size:Int)) (hd8:(d.size:Int)<=8) (h1:dX k j (a/16)) (h2:dX k j (cj a d.size)):Mk k j a d (ll k j a d):=by
 have R:=nT h hj a d.size 1 h1 h2;have A:=QB h hj a d.size h1 h2;have hP:DX (cC k j) a d.size:=⟨o8 h hj h1,o8 h hj h2⟩;have hL:=VN hP hd1 hd8;have Pd:=Mi (a:=a) hd1 hd8;unfold ll;rw[xE h hj a d.size 1 h1 h2];obtain⟨s,hs⟩:=ex (vR (cC k j) a d);have hs':iw (nI (cC k j) a d.size) (a%16).toNat d=s:=hs.symm;rw[hs'];rw[<- hs] at hL;obtain⟨K,hK⟩:=ex ((aZ k j a d.size 1).2);have hr:=R.right;have E2:=R.kept;rw[<- hK] at hr E2 A ⊢;have hjK:j<K.aj.length:=by grind [fE.np]
 by_cases c:cj a d.size=a/16
 · have e:(aZ k j a d.size 1).1=[(eU k j a 1).1]:=by grind [aZ]
   rw[e];show Mk k j a d (vQ K (eU k j a 1).1 (s.extract (0*16) (0*16+16)));rw[aB c] at hL;have hz:(s.extract (0*16) (0*16+16)).size=16:=A6 _ _ _ (by omega) (by omega);refine⟨B0 hr hjK A.1 hz,E2.aM,by show(List.set _ _ _).length=_;grind [fE.nf],E2.ns,E2.np,E2.live,E2.aT,fun m hm p=>?_⟩
   grind [DN,nj,fE.np,fE.RQ]
 · have e:(aZ k j a d.size 1).1=[(eU k j a 1).1,(kx k j a d.size 1).1]:=by grind [aZ]
   rw[e];show Mk k j a d (vQ (vQ K (eU k j a 1).1 (s.extract (0*16) (0*16+16))) (kx k j a d.size 1).1 (s.extract (1*16) (1*16+16)));rw[au c] at hL;have hz:(s.extract (0*16) (0*16+16)).size=16:=A6 _ _ _ (by omega) (by omega);have hy:(s.extract (1*16) (1*16+16)).size=16:=A6 _ _ _ (by omega) (by omega);have A2:=A.2 c;have hne:=uG hr hjK hjK A.1.here A2.here c;have r1:=B0 hr hjK A.1 hz;have B:sP (vQ K (eU k j a 1).1 (s.extract (0*16) (0*16+16))) j (cj a d.size) (kx k j a d.size 1).1:=by
    have at_:aD (vQ K (eU k j a 1).1 (s.extract (0*16) (0*16+16))).frames (kx k j a d.size 1).1=aD K.frames (kx k j a d.size 1).1:=by
     show aD (List.set _ _ _) _=_
     grind [jM,sP.lt]
    exact⟨A2.here,by show _<(List.set _ _ _).length;rw[fC];exact A2.lt,by grind [sP.refs],by grind [sP.jw]⟩
   refine⟨B0 r1 hjK B hy,E2.aM,by show(List.set (List.set _ _ _) _ _).length=_;grind [fE.nf],E2.ns,E2.np,E2.live,E2.aT,fun m hm p=>?_⟩;have hmK:m<K.aj.length:=by grind [fE.np]
   rw[DN r1 hjK B _ (m:=m) hmK,DN hr hjK A.1 _ hmK]
   grind [nj,fE.RQ]
open Go.RowKit
structure jZ where
 i:wD
 a:JY
 base:Int
def ajo:jZ:=⟨⟨⟨#[]⟩,[],[],[],[],0⟩,⟨none,0,none,0,none,0,none,0⟩,0⟩
def dJ (l:List jZ) (k:Nat):jZ:=l.getD k ajo
def oP (o:jZ):Array Value:=#[.string o.i.name,.slice o.a.an o.i.needs.length o.a.cn,.slice o.a.ag o.i.jD.length o.a.cg,.slice o.a.ay o.i.syms.length o.a.cy,.slice o.a.ar o.i.pN.length o.a.cr,I o.i.entry,I o.base]
def Pk (w:World) (b off:Nat) (l:List jZ):Prop:=∀k,k<l.length ->
 (w.cell? (Ad b (off+k*7))=some (.string (dJ l k).i.name)/\w.cell? (Ad b (off+k*7+1))=some (.slice (dJ l k).a.an (dJ l k).i.needs.length (dJ l k).a.cn) /\
  w.cell? (Ad b (off+k*7+2))=some (.slice (dJ l k).a.ag (dJ l k).i.jD.length (dJ l k).a.cg)/\w.cell? (Ad b (off+k*7+3))=some (.slice (dJ l k).a.ay (dJ l k).i.syms.length (dJ l k).a.cy) /\
  w.cell? (Ad b (off+k*7+4))=some (.slice (dJ l k).a.ar (dJ l k).i.pN.length (dJ l k).a.cr)/\w.cell? (Ad b (off+k*7+5))=some (I (dJ l k).i.entry)/\w.cell? (Ad b (off+k*7+6))=some (I (dJ l k).base))/\pT w (dJ l k).a (dJ l k).i
theorem ahf {w w':World} {b off:Nat} {l:List jZ} (hb:Below w.heap.size w w') (hlt:b<w.heap.size) (h:Pk w b off l):Pk w' b off l:=fun k hk=>by
 obtain⟨⟨c0,c1,c2,c3,c4,c5,c6⟩,hi⟩:=h k hk
 grind [cJ,pT.below]
def Ko (w:World) (ao:Option Addr) (l:List jZ):Prop:=gJ Pk w ao l
theorem Ko.below {w w':World} {ao:Option Addr} {l:List jZ} (h:Ko w ao l) (hb:Below w.heap.size w w'):Ko w' ao l:=gJ.below (lie:=Pk) (fun hb hlt h=>ahf hb hlt h) h hb
def wO (i:wD):pE:=eD i.jD (i.jD.length-1)
def xC (o:jZ):Int:=o.base+(wO o.i).page+(wO o.i).aO
def xU (o:jZ) (Xl:Int):Int:=o.base*16+Xl
def vw (s:pE):Int:=if s.wr then (if s.ex then 3 else 1) else (if s.ex then 2 else 0)
theorem xy {i:wD} (hc:mq i=0) (k:Nat) (hk:k<i.jD.length):0<=(eD i.jD k).page/\1<=(eD i.jD k).aO/\(eD i.jD k).page+(eD i.jD k).aO<=255/\((eD i.jD k).data.size:Int)<=(eD i.jD k).aO*16:=by
 unfold mq at hc;split at hc
 · omega
 · split at hc
   · omega
   · split at hc
     · omega
     · rename_i h
       have h':L4 i=true:=by grind
       unfold L4 at h';have:=PU kZ Hp i.jD k hk h';unfold kZ at this;exact oI this
theorem vH {i:wD} (hc:mq i=0):1<=i.jD.length/\i.jD.length<=6/\i.needs.length<=4/\i.syms.length<=12/\i.pN.length<=16:=by
 grind [mq,CA]
theorem E7 {i:wD} (hc:mq i=0):0<=(wO i).page/\1<=(wO i).aO/\(wO i).page+(wO i).aO<=255:=by
 have h1:=vH hc;have h2:=xy hc (i.jD.length-1) (by omega);exact⟨h2.1,h2.2.1,h2.2.2.1⟩
open Go.RowKit
theorem aA {p:Prop} (h:p):Hid p:=h
theorem lT {a b:Bool} (h:a=b):Ending.returned (.bool a)=.returned (.bool b):=by rw[h]
theorem JQ (n:Int) (w:World):Calls Tryz.prog 220 #[.int .u8 n] w fun e w'=>e=.returned (.bool (uB n))/\w=w':=by
 by_cases h1:97<=n/\n<=122
 · have e:uB n=true:=by grind [uB]
   rw[e];obtain⟨a,b⟩:=h1;go_enter Tryz.func220,Tryz.ntmps220;go_wp2;go_ret
   simp_all
 · by_cases h2:48<=n/\n<=57
   · have e:uB n=true:=by grind [uB]
     rw[e];obtain⟨a,b⟩:=h2;have c:decide (97<=n)=false:=by grind
     clear h1;go_enter Tryz.func220,Tryz.ntmps220;go_wp2;go_ret
     simp_all
   · by_cases h3:n=95
     · subst h3;go_enter Tryz.func220,Tryz.ntmps220;go_wp2;go_ret;exact⟨rfl,rfl⟩
     · have e:uB n=false:=by grind [uB]
       rw[e];have h3':(n==95)=false:=by grind
       by_cases a:97<=n
       · have b:decide (n<=122)=false:=by grind
         have c:48<=n:=by omega
         have d:decide (n<=57)=false:=by grind
         clear h1 h2;go_enter Tryz.func220,Tryz.ntmps220;go_wp2;go_ret
         simp_all
       · by_cases c:48<=n
         · have d:decide (n<=57)=false:=by grind
           clear h1 h2;go_enter Tryz.func220,Tryz.ntmps220;go_wp2;go_ret
           simp_all
         · clear h1 h2;go_enter Tryz.func220,Tryz.ntmps220;go_wp2;go_ret
           simp_all
theorem UM (s:ByteArray) (w:World) (hs:cu s.size):Calls Tryz.prog 200 #[.string s] w fun e w'=>e=.returned (.bool (uC s))/\w=w':=by
 unfold cu at hs;by_cases h1:1<=s.size
 · by_cases h2:s.size<=12
   · have d1:¬(s.size:Int)<1:=by omega
     have d2:¬12<(s.size:Int):=by omega
     go_enter Tryz.func200,Tryz.ntmps200;go_wp2
     go_loop [14] (fun i=>∃k:Nat,k<=s.size/\i=I k/\∀j (hj:j<s.size),j<k->uB s[j].toNat=true) (fun i=>s.size-(intOf i).toNat)
     case atStart=>exact⟨0,by omega,rfl,fun j _ h=>by omega⟩
     case round =>
      obtain⟨k,hk,rfl,hall⟩:=hrel;have HA:=aA hall;clear hall;by_cases hlt:k<s.size
      · cases hc:uB s[k].toNat
        · have HR:=aA (adh s k hlt hc);go_wp2_with (go_at_call 220;refine(JQ _ _).mono ?_;rintro e w' ⟨rfl,rfl⟩;rw[hc])
          go_ret;exact⟨lT HR.o.symm,rfl⟩
        · have HC:=aA hc;go_wp2_with (go_at_call 220;refine(JQ _ _).mono ?_;rintro e w' ⟨rfl,rfl⟩;rw[hc])
          grind [intOf,Hid.o]
      · obtain rfl:k=s.size:=by omega
        have HR:=aA (aax s h1 h2 (fun k hk=>HA.o k hk hk));go_wp2;go_ret;exact⟨lT HR.o.symm,rfl⟩
   · have HR:=aA (PT s (fun h=>h2 h.2));have d1:¬(s.size:Int)<1:=by omega
     have d2:12<(s.size:Int):=by omega
     go_enter Tryz.func200,Tryz.ntmps200;go_wp2;go_ret;exact⟨lT HR.o.symm,rfl⟩
 · have HR:=aA (PT s (fun h=>h1 h.1));have d1:(s.size:Int)<1:=by omega
   go_enter Tryz.func200,Tryz.ntmps200;go_wp2;go_ret;exact⟨lT HR.o.symm,rfl⟩
open Go.RowKit
open Go.RowKit
open Go.RowKit
theorem JO (i:wD) (a:JY) (w:World) (hf:JW i):Calls Tryz.prog 159 #[.agg (jF a i)] w fun e w'=>e=.returned (.bool (CA i))/\Below w.heap.size w w':=by
 obtain⟨an,cn,ag,cg,ay,cy,ar,cr⟩:=a;obtain⟨nm,ns,gs,ys,rs,en⟩:=i;obtain⟨f1,f2,f3,f4,f5,f6,f7,f8,f9,f10⟩:=hf;simp only at f2 f4 f6 f8;unfold cu at f2 f4 f6 f8;simp only[jF,CA];have gG:∀o,Hid (Below w.heap.size w (w.alloc o)):=fun o=>(aJ w.heap.size w).alloc (aH _) o
 obtain⟨r,hr⟩:=ex (decide (1<=gs.length/\gs.length<=6/\ns.length<=4/\ys.length<=12/\rs.length<=16));rw[<- hr];have HR:=aA hr;clear hr f1 f3 f5 f7 f9 f10;obtain⟨ln,hln⟩:∃n,n=ns.length:=⟨_,rfl⟩;obtain⟨lg,hlg⟩:∃n,n=gs.length:=⟨_,rfl⟩;obtain⟨ly,hly⟩:∃n,n=ys.length:=⟨_,rfl⟩;obtain⟨lr,hlr⟩:∃n,n=rs.length:=⟨_,rfl⟩;rw[<- hln,<- hlg,<- hly,<- hlr] at HR;rw[<- hln,<- hlg,<- hly,<- hlr];rw[<- hln] at f2;rw[<- hlg] at f4;rw[<- hly] at f6;rw[<- hlr] at f8;clear hln hlg hly hlr;by_cases d1:1<=(lg:Int)
 · by_cases d2:(lg:Int)<=6
   · by_cases d3:(ln:Int)<=4
     · by_cases d4:(ly:Int)<=12
       · by_cases d5:(lr:Int)<=16
         · have e:r=true:=by grind [Hid.o]
           subst e;go_enter Tryz.func159,Tryz.ntmps159;go_wp2;go_ret;exact⟨rfl,(gG _).out⟩
         · have e:r=false:=by grind [Hid.o]
           subst e;go_enter Tryz.func159,Tryz.ntmps159;go_wp2;go_ret;exact⟨rfl,(gG _).out⟩
       · have e:r=false:=by grind [Hid.o]
         subst e;go_enter Tryz.func159,Tryz.ntmps159;go_wp2;go_ret;exact⟨rfl,(gG _).out⟩
     · have e:r=false:=by grind [Hid.o]
       subst e;go_enter Tryz.func159,Tryz.ntmps159;go_wp2;go_ret;exact⟨rfl,(gG _).out⟩
   · have e:r=false:=by grind [Hid.o]
     subst e;go_enter Tryz.func159,Tryz.ntmps159;go_wp2;go_ret;exact⟨rfl,(gG _).out⟩
 · have e:r=false:=by grind [Hid.o]
   subst e;have q4:decide ((1:Int)<=(lg:Int))=false:=je d1;obtain rfl:lg=0:=by omega
   go_enter Tryz.func159,Tryz.ntmps159;go_wp2;go_ret;exact⟨rfl,(gG _).out⟩
theorem JN (l:List pE) (ao:Option Addr) (cap:Nat) (w:World) (h:gJ zC w ao l) (hn:cu l.length) (hf:∀k,k<l.length->ae9 (eD l k)) :
  Calls Tryz.prog 160 #[.slice ao l.length cap] w fun e w'=>e=.returned (.bool (l.all kZ))/\Below w.heap.size w w':=by
 unfold cu at hn;have H:=aA h;have F:=aA hf;clear h hf;go_enter Tryz.func160,Tryz.ntmps160;go_wp2;go_loopw [7] (fun i wr=>∃k:Nat,k<=l.length/\i=I k/\(∀j,j<k->kZ (eD l j)=true)/\Below w.heap.size w wr) (fun i _=>l.length-(intOf i).toNat)
 case atStart=>grind [Below.refl]
 case round =>
  obtain⟨k,hk,rfl,hall,hb⟩:=hrel;have HA:=aA hall;have HB:=aA hb;clear hall;by_cases hlt:k<l.length
  · obtain⟨b,off,hao,hbl,hl⟩:=H.o (by omega);subst hao;obtain⟨c0,c1,c2,c3,c4⟩:=zB hb hbl hl k hlt;obtain⟨g1,g2,g3⟩:=F.o k hlt;obtain⟨s,hs⟩:=ex (eD l k);rw[<- hs] at c0 c1 c2 c3 c4 g1 g2 g3;have HS:=aA hs;clear hs hb hl;obtain⟨p,n,d,x,y⟩:=s;simp only at c0 c1 c2 c3 c4 g1 g2 g3;unfold cK at g1 g2;unfold cu at g3;have TI:(k:Int)<(l.length:Int):=by omega
    have hbad:Hid (¬(0<=p/\1<=n/\p+n<=255/\(d.size:Int)<=n*16)->l.all kZ=false):=fun hx =>
     MQ kZ Hp l k hlt (by show kZ (eD l k)=false;rw[<- HS.o];exact je hx)
    by_cases d1:0<=p
    · have d1':¬p<0:=by omega
      by_cases d2:1<=n
      · have d2':¬n<1:=by omega
        by_cases d3:p+n<=255
        · have d3':¬255-p<n:=by omega
          by_cases d4:(d.size:Int)<=n*16
          · have d4':¬n*16<(d.size:Int):=by omega
            have ak5:Hid (kZ ⟨p,n,d,x,y⟩=true):=gU ⟨d1,d2,d3,d4⟩;go_wp2;go_roundw
            case rel=>exact⟨k+1,by omega,by go_num,fun j h=>if e:j=k then by rw[e,<- HS.o];exact ak5.out else HA.o j (by omega),HB.o.alloc HB.o.size _⟩
            case measure=>simp[intOf];omega
          · have d4':n*16<(d.size:Int):=by omega
            have HR:=aA (hbad.out (by omega));go_wp2;go_ret;exact⟨lT HR.o.symm,HB.o.alloc HB.o.size _⟩
        · have d3':255-p<n:=by omega
          have HR:=aA (hbad.out (by omega));go_wp2;go_ret;exact⟨lT HR.o.symm,HB.o.alloc HB.o.size _⟩
      · have d2':n<1:=by omega
        have HR:=aA (hbad.out (by omega));go_wp2;go_ret;exact⟨lT HR.o.symm,HB.o.alloc HB.o.size _⟩
    · have d1':p<0:=by omega
      have HR:=aA (hbad.out (by omega));go_wp2;go_ret;exact⟨lT HR.o.symm,HB.o.alloc HB.o.size _⟩
  · obtain rfl:k=l.length:=by omega
    have HR:=aA (I0 kZ Hp l (fun j hj=>HA.o j hj));clear hb;go_wp2;go_ret;exact⟨lT HR.o.symm,HB.o⟩
end Go.Proofs.YtlgoihmkgaaemaaGreat
