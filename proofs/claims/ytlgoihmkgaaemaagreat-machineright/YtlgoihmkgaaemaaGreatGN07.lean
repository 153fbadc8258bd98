import Derived.Test.YtlgoihmkgaaemaaGreatGN06
set_option maxHeartbeats 20000000
set_option linter.unusedVariables false
set_option maxRecDepth 100000
set_option linter.unusedSimpArgs false
namespace Go.Proofs.YtlgoihmkgaaemaaGreat
open Go.RowKit
theorem aZ.space {k:aT} (h:aZ k) {j:Nat} (hj:j<k.aj.length) {s:cY} (hs:uX k.aM k.frames.length k.slots.length s) (hn:∀kd a,fE s kd a=fE (ak k.aj j) kd a) (hr:eB (k.aj.set j s)<=k.slots.length):aZ { k with aj:=k.aj.set j s }:=by
 have nn:∀kd a,bW (k.aj.set j s) kd a=bW k.aj kd a:=fun kd a=>by
  obtain⟨u,v,g1,g2⟩:=zo k.aj j s kd a hj
  grind
 refine⟨?_,h.mr,h.hand,?_,hr,fun i hi=>?_,fun i hi=>?_⟩
 · have:=h.counts
   grind [nB]
 · grind [each]
 · grind [zL]
 grind [slt]
theorem KV (l:List cY):∀(j:Nat) (s:cY),j<l.length->eB (l.set j s)=eB l-bh (ak l j).aU+bh s.aU:=fun j s hj=>by
 have:∀n,jC (l.set j s) n=jC l n+if j<n then bh s.aU-bh (ak l j).aU else 0:=fun n=>by
  induction n with
  | zero=>rfl
  | succ n ih =>
   grind [jC,iI]
 grind [eB]
def xp (old new:List aX):Prop:=∀p,(aY new p).2=true->((aY old p).2=true/\(aY new p).1.zero=(aY old p).1.zero)∨((aY old p).2=false/\(aY new p).1.zero=true)
theorem Ir {l:List aX} {p n q:Int} (h:(dK l p n q).2=0):bk (dK l p n q).1=0/\xp l (dK l p n q).1:=by
 obtain⟨h1,h2⟩:=zF l p n q h;refine⟨h1,fun x hx=>?_⟩;have hb:=kP hx;obtain⟨m,rfl⟩:∃m:Nat,x=(m:Int):=⟨x.toNat,by omega⟩
 grind
theorem yM {l:List aX} {p n:Int} (h:(cR l p n).2=0):bk (cR l p n).1=0/\xp l (cR l p n).1:=by
 obtain⟨h1,h2⟩:=wL l p n h;refine⟨h1,fun x hx=>?_⟩;have hb:=kP hx;obtain⟨m,rfl⟩:∃m:Nat,x=(m:Int):=⟨x.toNat,by omega⟩
 grind
theorem Bi {l:List aX} {p n q:Int} (h:(bV l p n q).2=0):bk (bV l p n q).1=0/\xp l (bV l p n q).1:=by
 obtain⟨h1,h2⟩:=ub l p n q h;refine⟨h1,fun x hx=>?_⟩;have hb:=kP hx;obtain⟨m,rfl⟩:∃m:Nat,x=(m:Int):=⟨x.toNat,by omega⟩
 grind
def jm (l:List aX) (e:bI):Bool:=!(aY l e.page).2
def gF (k:aT) (j:Nat) (l:List aX):aT:={ dD k j (jm l) with aj:=(dD k j (jm l)).aj.set j ⟨(ak k.aj j).live,l,eZ (ak k.aj j).bc (jm l)⟩ }
theorem QX {k:aT} (h:aZ k) {j:Nat} (hj:j<k.aj.length) (hl:(ak k.aj j).live=true) {l:List aX} (hc:bk l=0) (ht:xp (ak k.aj j).aU l) (hr:eB k.aj-bh (ak k.aj j).aU+bh l<=k.slots.length):aZ (gF k j l):=by
 have hf:=yN h hj (jm l);have hsp:=gL k j (jm l);have hre:=mY k j (jm l);have hj':j<(dD k j (jm l)).aj.length:=by grind
 have hat:ak (dD k j (jm l)).aj j=ek (ak k.aj j) (eZ (ak k.aj j).bc (jm l)):=by grind [iI]
 have hold:=h.sp hj;have hnew:=hf.sp hj';rw[hat] at hnew;have ajc:∀e∈eZ (ak k.aj j).bc (jm l),(aY l e.page).2=true/\e∈(ak k.aj j).bc:=fun e he=>by
  grind [eZ,jm]
 refine aZ.space hf hj' ⟨fun dd=>?_,hc,hnew.mr,fun e he=>⟨(ajc e he).1,(hnew.M6 e he).2⟩,fun p hp hz=>?_⟩ (fun kd a=>?_) ?_
 · grind
 · rcases ht p hp with g | g
   · grind [uX.aM]
   grind
 · rw[hat];unfold fE;refine U3 fun e he=>?_
   have hm:=ajc e (UH.1 he).1;rcases ht e.page hm.1 with g | g
   · show(e.page,_)=(e.page,_);rw[g.2];rfl
   · have:=(hold.M6 e hm.2).1
     grind
 · rw[KV _ _ _ hj',hat,hsp,Bl _ _ (ek (ak k.aj j) (eZ (ak k.aj j).bc (jm l))) hj rfl,hre.2.2.2];exact hr
def jy (k:aT) (j:Nat):aT:={ dD k j (fun _=>true) with aj:=(dD k j (fun _=>true)).aj.set j qV }
theorem Ze (p:Int):(aY [] p).2=false:=by
 rfl
theorem V7 (hs:List bJ) (nf ns:Nat):uX hs nf ns qV:=by
 refine⟨fun _=>⟨rfl,rfl⟩,rfl,List.Pairwise.nil,fun e he=>?_,fun p hp=>?_⟩
 · cases he
 · have hp:(aY [] p).2=true:=hp
   grind [Ze]
theorem Wi (es:List bI):eZ es (fun _=>true)=[]:=by simp[eZ]
theorem Ta {k:aT} (h:aZ k) {j:Nat} (hj:j<k.aj.length):aZ (jy k j):=by
 have hf:=yN h hj (fun _=>true);have hsp:=gL k j (fun _=>true);have hre:=mY k j (fun _=>true);have hj':j<(dD k j (fun _=>true)).aj.length:=by grind
 have hat:ak (dD k j (fun _=>true)).aj j=ek (ak k.aj j) []:=by grind [iI,Wi]
 have ht:0<=bh (ak k.aj j).aU:=by
  have:=Co (h.sp hj);omega
 refine aZ.space hf hj' (V7 _ _ _) (fun kd a=>?_) ?_
 · rw[hat];rfl
 · rw[KV _ _ _ hj',hat,hsp,Bl _ _ (ek (ak k.aj j) (eZ (ak k.aj j).bc (fun _=>true))) hj rfl,hre.2.2.2];have:=h.room;show eB k.aj-bh (ak k.aj j).aU+bh []<=_;have e:bh []=0:=rfl;omega
def dX (k:aT) (es:List bI):Nat->aT
 | 0=>k
 | n+1=>ki (dX k es n) (aW es n) 1
def gJ (k:aT) (j:Nat):aT:={ dX k (ak k.aj j).bc (ak k.aj j).bc.length with aj:=(dX k (ak k.aj j).bc (ak k.aj j).bc.length).aj++[ak k.aj j] }
def yx (f:lQ) (c:Nat):lQ:=⟨f.data,f.refs+c,f.jo,f.seen⟩
def yw (f:oZ) (c:Nat):oZ:=⟨f.data,f.refs+c⟩
theorem ID (f:lQ):yx f 0=f:=by simp[yx]
theorem IC (f:oZ):yw f 0=f:=by simp[yw]
theorem wj {k:aT} (h:aZ k) {j:Nat} (hj:j<k.aj.length):∀m,m<=(ak k.aj j).bc.length->(dX k (ak k.aj j).bc m).aM=k.aM/\(dX k (ak k.aj j).bc m).hand=k.hand/\(dX k (ak k.aj j).bc m).aj=k.aj/\(dX k (ak k.aj j).bc m).frames.length=k.frames.length/\(dX k (ak k.aj j).bc m).slots.length=k.slots.length /\
  (∀n,n<k.frames.length->aH (dX k (ak k.aj j).bc m).frames n=yx (aH k.frames n) (jO (ak k.aj j).aU 1 n ((ak k.aj j).bc.take m)).length) /\
  (∀n,n<k.slots.length->bH (dX k (ak k.aj j).bc m).slots n=yw (bH k.slots n) (jO (ak k.aj j).aU 2 n ((ak k.aj j).bc.take m)).length)
 | 0,_=>⟨rfl,rfl,rfl,rfl,rfl,fun n _=>(ID _).symm,fun n _=>(IC _).symm⟩
 | m+1,hm=>by
  obtain⟨h1,h2,h3,h4,h5,h6,h7⟩:=wj h hj m (by omega);have hlt:m<(ak k.aj j).bc.length:=by omega
  have hin:aW (ak k.aj j).bc m∈(ak k.aj j).bc:=jP hlt;rw[DY _ m hlt];obtain⟨e,he⟩:=ex (aW (ak k.aj j).bc m);obtain⟨q,hq⟩:=ex (dX k (ak k.aj j).bc m);rw[<- he] at hin ⊢;have hs:dX k (ak k.aj j).bc (m+1)=ki q e 1:=by rw[hq,he];rfl
  rw[<- hq] at h1 h2 h3 h4 h5 h6 h7;rw[hs];have aq6:∀(f:lQ) (a b:Nat),yx (yx f a) b=yx f (a+b):=fun f a b=>by grind [yx]
  have aq5:∀(f:oZ) (a b:Nat),yw (yw f a) b=yw f (a+b):=fun f a b=>by grind [yw]
  rcases ja h hj hin with b | b
  · have hc:ki q e 1={ q with frames:=q.frames.set e.loc.toNat (Hl (aH q.frames e.loc.toNat) 1) }:=by grind [ki]
    rw[hc];refine⟨h1,h2,h3,by grind,h5,fun n hn=>?_,fun n hn=>?_⟩
    · show aH (q.frames.set _ _) n=_;rw[jQ _ _ _ _ (by omega),mQ,fK];by_cases c:e.loc.toNat=n
      · rw[aC c,rU _ (show e.kind=1/\e.loc=(n:Int) by omega),<- aq6,<- h6 n hn,c];have hr:0<=(aH q.frames n).refs:=by
         rw[h6 n hn];have:=(h.zL n hn).refs;show 0<=(aH k.frames n).refs+_;omega
        unfold Hl;rw[aA (by omega)];rfl
      · rw[aA c,nO _ (show ¬(e.kind=1/\e.loc=(n:Int)) by omega),h6 n hn];rfl
    grind [mQ,nO]
  · have hc:ki q e 1={ q with slots:=q.slots.set e.loc.toNat (Hk (bH q.slots e.loc.toNat) 1) }:=by grind [ki]
    rw[hc];refine⟨h1,h2,h3,h4,by grind,fun n hn=>?_,fun n hn=>?_⟩
    · grind [mQ,nO]
    · show bH (q.slots.set _ _) n=_;rw[yu _ _ _ _ (by omega),mQ,fK];by_cases c:e.loc.toNat=n
      · rw[aC c,rU _ (show e.kind=2/\e.loc=(n:Int) by omega),<- aq5,<- h7 n hn,c];have hr:0<=(bH q.slots n).refs:=by
         rw[h7 n hn];have:=(h.slt n hn).refs;show 0<=(bH k.slots n).refs+_;omega
        unfold Hk;rw[aA (by omega)];rfl
      · rw[aA c,nO _ (show ¬(e.kind=2/\e.loc=(n:Int)) by omega),h7 n hn];rfl
structure rV (k:aT) (j:Nat) (f:aT):Prop where
 aM:f.aM=k.aM
 hand:f.hand=k.hand
 aj:f.aj=k.aj++[ak k.aj j]
 nf:f.frames.length=k.frames.length
 ns:f.slots.length=k.slots.length
 zL:∀n,n<k.frames.length->aH f.frames n=yx (aH k.frames n) (fE (ak k.aj j) 1 n).length
 slt:∀n,n<k.slots.length->bH f.slots n=yw (bH k.slots n) (fE (ak k.aj j) 2 n).length
theorem vt {k:aT} (h:aZ k) {j:Nat} (hj:j<k.aj.length):rV k j (gJ k j):=by
 obtain⟨h1,h2,h3,h4,h5,h6,h7⟩:=wj h hj _ (aI _);rw[vK] at h6 h7;exact⟨h1,h2,by show _++_=_;rw[h3],h4,h5,h6,h7⟩
theorem S8 {k:aT} (h:aZ k) {j:Nat} (hj:j<k.aj.length) (h4:k.aj.length≠4) (hr:eB k.aj+bh (ak k.aj j).aU<=k.slots.length):aZ (gJ k j):=by
 have F:=vt h hj;have hc:=h.c;have nn:∀kd a,bW (gJ k j).aj kd a=bW k.aj kd a++fE (ak k.aj j) kd a:=fun kd a=>by
  grind [EP,kO,K5,rV.aj]
 have sub:∀kd a,∀x∈fE (ak k.aj j) kd a,x∈bW k.aj kd a:=fun kd a x hx=>by
  grind [ux,pC,Bk]
 have both:∀kd a,∀x∈bW k.aj kd a++fE (ak k.aj j) kd a,x∈bW k.aj kd a:=fun kd a x hx=>by
  grind
 have nil:∀kd a,bW k.aj kd a++fE (ak k.aj j) kd a=[]->bW k.aj kd a=[]/\fE (ak k.aj j) kd a=[]:=fun kd a e=>Po.1 e
 have ne:∀kd a,bW k.aj kd a++fE (ak k.aj j) kd a≠[]->bW k.aj kd a≠[]:=fun kd a hn e=>hn (by
  rw[e];refine acV.2 fun x hx=>?_
  grind)
 refine⟨?_,by rw[F.aM];exact h.mr,by rw[F.hand,F.nf];exact h.hand,?_,?_,fun n hn=>?_,fun n hn=>?_⟩
 · grind [nB,rV.nf,rV.ns,rV.aj,rV.aM]
 · grind [rV.aM,rV.nf,rV.ns,rV.aj,aZ.each,aZ.sp]
 · rw[F.aj,KW,F.ns];exact hr
 · rw[F.nf] at hn;rw[F.aM,nn,F.zL n hn];have hf:=h.zL n hn;refine⟨?_,fun e=>?_,fun x hx y hy=>hf.one x (both 1 n x hx) y (both 1 n y hy),fun e=>hf.size (ne 1 n e),fun d x hx=>hf.fill d x (both 1 n x hx)⟩
   · show(aH k.frames n).refs+_=_
     grind [lN.refs]
   grind [ID,lN.zero]
 · rw[F.ns] at hn;rw[nn,F.slt n hn];have hf:=h.slt n hn;refine⟨?_,fun e=>?_,fun x hx y hy=>hf.one x (both 2 n x hx) y (both 2 n y hy),fun e=>hf.size (ne 2 n e)⟩
   · show(bH k.slots n).refs+_=_
     grind [oM.refs]
   grind [IC,oM.zero]
open Go.RowKit
theorem Zj {k:aT} (h:aZ k) {j:Nat} (hj:j<k.aj.length) {pre post:List bI} {e:bI} (he:(ak k.aj j).bc=pre++e::post) {m:Nat} (hm:m<k.aj.length) {x:bI} (hx:x∈(ak (mh k j (pre++post) e).aj m).bc) :
  (x.kind=1->(aH (mh k j (pre++post) e).frames x.loc.toNat).data=(aH k.frames x.loc.toNat).data)/\(x.kind≠1->(bH (mh k j (pre++post) e).slots x.loc.toNat).data=(bH k.slots x.loc.toNat).data):=by
 obtain⟨f1,f2,f3,f4,f5,f6,f7⟩:=Ea h hj he;have hr:=Lh h hj he;have hm':m<(mh k j (pre++post) e).aj.length:=by grind
 have hn:=jr hm' hx;have hb:=ja hr hm' hx;refine⟨fun c=>?_,fun c=>?_⟩
 · have hb:(x.loc.toNat:Int)=x.loc/\x.loc.toNat<(mh k j (pre++post) e).frames.length:=by omega
   rw[c,<- hb.1] at hn;have hf:=(hr.zL x.loc.toNat hb.2).refs;have hg:=f6 x.loc.toNat
   by_cases d:e.kind=1/\e.loc=(x.loc.toNat:Int)
   · rw[aC d] at hg;rw[hg] at hf ⊢;unfold rI at hf ⊢;by_cases z:(aH k.frames x.loc.toNat).refs-1=0
     · rw[aC z] at hf;have:(bW (mh k j (pre++post) e).aj 1 (x.loc.toNat:Int)).length=0:=by
        have hf:(0:Int)=_:=hf;omega
       grind
     grind
   grind
 · have hb:x.kind=2/\(x.loc.toNat:Int)=x.loc/\x.loc.toNat<(mh k j (pre++post) e).slots.length:=by omega
   rw[hb.1,<- hb.2.1] at hn;have hf:=(hr.slt x.loc.toNat hb.2.2).refs;have hg:=f7 x.loc.toNat
   by_cases d:e.kind=2/\e.loc=(x.loc.toNat:Int)
   · rw[aC d] at hg;rw[hg] at hf ⊢;unfold uA at hf ⊢;by_cases z:(bH k.slots x.loc.toNat).refs-1=0
     · rw[aC z] at hf;have:(bW (mh k j (pre++post) e).aj 2 (x.loc.toNat:Int)).length=0:=by
        have hf:(0:Int)=_:=hf;omega
       grind
     grind
   grind
theorem mg {es:List bI} {p:Int} {e:bI} (h:bu es p=some e):e∈es:=U4 h
theorem NH {es:List bI} {p:Int} {e:bI} (h:bu es p=some e):e.page=p:=by
 have:=List.find?_some h
 grind
theorem xm {a b:aT} {m n:Nat} {p:Int} (hE:bu (ak a.aj m).bc p=bu (ak b.aj n).bc p) (hd:∀x,bu (ak a.aj m).bc p=some x->(x.kind=1->(aH a.frames x.loc.toNat).data=(aH b.frames x.loc.toNat).data)/\(x.kind≠1->(bH a.slots x.loc.toNat).data=(bH b.slots x.loc.toNat).data)) (hf:bu (ak a.aj m).bc p=none->gm a.aM p (aY (ak a.aj m).aU p).1.zero=gm b.aM p (aY (ak b.aj n).aU p).1.zero):cI a m p=cI b n p:=by
 grind [cI]
theorem abL {pre post:List bI} {e:bI} {p:Int} (h:e.page≠p):bu (pre++post) p=bu (pre++e::post) p:=by
 grind [bu]
theorem Zi {k:aT} (h:aZ k) {j:Nat} (hj:j<k.aj.length) {pre post:List bI} {e:bI} (he:(ak k.aj j).bc=pre++e::post) {m:Nat} (hm:m<k.aj.length) {p:Int} (hp:m≠j∨e.page≠p):cI (mh k j (pre++post) e) m p=cI k m p:=by
 obtain⟨f1,f2,f3,f4,f5,f6,f7⟩:=Ea h hj he;have hs:bu (ak (mh k j (pre++post) e).aj m).bc p=bu (ak k.aj m).bc p/\(ak (mh k j (pre++post) e).aj m).aU=(ak k.aj m).aU:=by
  rw[f5,iI _ _ _ _ hj];by_cases c:j=m
  · subst c;rw[aC rfl];refine⟨?_,rfl⟩;show bu (pre++post) p=_
    grind [abL]
  grind
 grind [xm,Zj,mg]
theorem yU {k:aT} (h:aZ k) {j:Nat} (hj:j<k.aj.length) (g:bI->Bool) {m:Nat} (hm:m<k.aj.length) {p:Int} (hp:m≠j∨∀e,bu (ak k.aj j).bc p=some e->g e=false):∀n,n<=(ak k.aj j).bc.length->cI (kg (cU k (ak k.aj j).bc g n) j (eZ ((ak k.aj j).bc.take n) g++(ak k.aj j).bc.drop n)) m p=cI k m p
 | 0,_=>by
  have:eZ ((ak k.aj j).bc.take 0) g++(ak k.aj j).bc.drop 0=(ak k.aj j).bc:=rfl;rw[this];show cI (kg k j (ak k.aj j).bc) m p=_
  grind [KU]
 | n+1,hn=>by
  have ih:=yU h hj g hm hp n (by omega);have hr:=wB h hj g n (by omega);have hlt:n<(ak k.aj j).bc.length:=by omega
  have Vb:j<(cU k (ak k.aj j).bc g n).aj.length:=by grind [kQ]
  rw[Lf _ n hlt] at ih hr;rw[K6 _ g n hlt];unfold cU;cases c:g (aW (ak k.aj j).bc n) with
  | true =>
   rw[aC rfl,aC rfl,Dl,<- ih];have hl2:(kg (cU k (ak k.aj j).bc g n) j (eZ ((ak k.aj j).bc.take n) g++aW (ak k.aj j).bc n::(ak k.aj j).bc.drop (n+1))).aj.length=k.aj.length:=by
    show List.length (List.set _ _ _)=_
    grind [kQ]
   have Pw:m≠j∨(aW (ak k.aj j).bc n).page≠p:=by
    rcases hp with q | q
    · omega
    · refine .inr fun e=>?_
      have:=q _ ((ie (h.sp hj).mr).2 ⟨jP hlt,e⟩)
      grind [aW]
   have:=Zi hr (by omega) (QP _ j Vb _) (m:=m) (by omega) Pw;have e:mh (kg (cU k (ak k.aj j).bc g n) j (eZ ((ak k.aj j).bc.take n) g++aW (ak k.aj j).bc n::(ak k.aj j).bc.drop (n+1))) j (eZ ((ak k.aj j).bc.take n) g++(ak k.aj j).bc.drop (n+1)) (aW (ak k.aj j).bc n)=kg (dM (cU k (ak k.aj j).bc g n) (aW (ak k.aj j).bc n)) j (eZ ((ak k.aj j).bc.take n) g++(ak k.aj j).bc.drop (n+1)):=by
    show dM (kg (kg _ j _) j _) _=_
    grind [KT,IE]
   grind
  | false =>
   grind
theorem Ae {k:aT} (h:aZ k) {j:Nat} (hj:j<k.aj.length) (g:bI->Bool) {m:Nat} (hm:m<k.aj.length) {p:Int} (hp:m≠j∨∀e,bu (ak k.aj j).bc p=some e->g e=false):cI (dD k j g) m p=cI k m p:=by
 have:=yU h hj g hm hp _ (aI _);rw[vK,UL,Dl] at this;exact this
theorem KS (l:List cY) (s:cY) (m:Nat):ak (l++[s]) m=if m<l.length then ak l m else if m=l.length then s else qV:=by
 grind [ak]
theorem K9 {k:aT} (h:aZ k) {j:Nat} (hj:j<k.aj.length) (m n:Nat) (hn:n<k.aj.length) (hm:ak (gJ k j).aj m=ak k.aj n) (p:Int):cI (gJ k j) m p=cI k n p:=by
 have F:=vt h hj;refine xm (by rw[hm]) (fun x hx=>?_) (fun _=>by rw[hm,F.aM]);rw[hm] at hx;have hb:=ja h hn (mg hx);exact⟨fun c=>by rw[F.zL x.loc.toNat (by omega)];rfl,fun c=>by rw[F.slt x.loc.toNat (by omega)];rfl⟩
theorem Wj {k:aT} (h:aZ k) {j:Nat} (hj:j<k.aj.length) {m:Nat} (hm:m<k.aj.length) (hne:m≠j) (p:Int):cI (jy k j) m p=cI k m p:=by
 rw[<- Ae h hj (fun _=>true) hm (.inl hne) (p:=p)]
 grind [ak,jy,xm]
theorem Zc {es:List bI} (hr:jH es) (g:bI->Bool) (p:Int) (hp:∀e,bu es p=some e->g e=false):bu (eZ es g) p=bu es p:=by
 grind [jH,eZ,bu,qJ,ie]
theorem qx (k:aT) {j:Nat} (hj:j<k.aj.length) (l:List aX):(gF k j l).aM=k.aM/\(gF k j l).hand=k.hand/\(gF k j l).frames.length=k.frames.length/\(gF k j l).slots.length=k.slots.length/\(gF k j l).aj.length=k.aj.length/\∀m,m<k.aj.length->ak (gF k j l).aj m=if j=m then ⟨(ak k.aj j).live,l,eZ (ak k.aj j).bc (jm l)⟩ else ak k.aj m:=by
 have hre:=mY k j (jm l);have hj':j<(dD k j (jm l)).aj.length:=by grind [gL]
 refine⟨hre.1,hre.2.1,hre.2.2.1,hre.2.2.2,?_,fun m hm=>?_⟩
 · show(List.set _ _ _).length=_
   grind [gL]
 · show ak (List.set _ _ _) m=_
   grind [iI,gL]
theorem IL {k:aT} (h:aZ k) {j:Nat} (hj:j<k.aj.length) {l:List aX} (ht:xp (ak k.aj j).aU l) {m:Nat} (hm:m<k.aj.length) {p:Int} (hp:m≠j∨(aY l p).2=true):cI (gF k j l) m p=if m=j/\(aY (ak k.aj j).aU p).2=false then vq else cI k m p:=by
 obtain⟨a1,a2,a3,a4,a5,a6⟩:=qx k hj l;by_cases c:m=j
 · subst c;have hl:(aY l p).2=true:=by grind
   have hE:∀e,bu (ak k.aj m).bc p=some e->jm l e=false:=fun e he=>by
    grind [jm,NH]
   have hsp:ak (gF k m l).aj m=⟨(ak k.aj m).live,l,eZ (ak k.aj m).bc (jm l)⟩:=by grind
   have hke:=Zc (h.sp hm).mr (jm l) p hE;rcases ht p hl with g | g
   · rw[aA (by grind),<- Ae h hm (jm l) hm (.inr hE)]
     grind [ek,gL,iI,xm,gF]
   · rw[aC ⟨rfl,g.1⟩];unfold cI;rw[hsp];have:bu (eZ (ak k.aj m).bc (jm l)) p=none:=by
      rw[hke];refine qJ.2 fun e he hpe=>?_
      have:=((h.sp hm).M6 e he).1
      grind
     grind [gm]
 · rw[aA (fun x=>c x.1),<- Ae h hj (jm l) hm (.inl c) (p:=p)]
   grind [gF,iI,xm]
open Go.RowKit
open Go.RowKit
theorem uQ {k:aT} (h:aZ k) {j j0:Nat} (hj:j<k.aj.length) (hj0:j0<k.aj.length) {p q:Int} {a b:Nat} (h1:bu (ak k.aj j).bc p=some ⟨p,1,a⟩) (h2:bu (ak k.aj j0).bc q=some ⟨q,1,b⟩) (hpq:q≠p):a≠b:=fun e=>by
 subst e;have m1:=jr hj (mg h1);have m2:=jr hj0 (mg h2);have hb:=ja h hj (mg h1);have hlt:a<k.frames.length:=by
  grind
 have:=(h.zL a hlt).one _ m1 _ m2
 grind
theorem D7 {k:aT} (h:aZ k) {j0:Nat} (hj0:j0<k.aj.length) {q:Int} {b:Nat} (h2:bu (ak k.aj j0).bc q=some ⟨q,1,b⟩):b<k.frames.length/\(aH k.frames b).refs≠0:=by
 have m2:=jr hj0 (mg h2);have hb:=ja h hj0 (mg h2);have hlt:b<k.frames.length:=by
  grind
 refine⟨hlt,fun z=>?_⟩;have:=(h.zL b hlt).nil z
 grind
theorem Ox {k:aT} (h:aZ k) {j:Nat} (hj:j<k.aj.length) {p:Int} (hp:ez k j p) {held:List Int} (hl:held.length<=2) {j0:Nat} (hj0:j0<k.aj.length) {q:Int} {b:Nat} (h2:bu (ak k.aj j0).bc q=some ⟨q,1,b⟩) (hin:(b:Int)∈held) (hpq:q≠p):aH (dA k j p held).2.frames b=aH k.frames b:=by
 have hsp:=h.sp hj;have G:=s8 h hl;have hH:=G.PZ b hin (D7 h hj0 h2).2;unfold dA;cases g:bu (ak k.aj j).bc p with
 | none =>
  dsimp only;have hent:bu (ak (bN k held).2.aj j).bc p=none:=by grind [um.M6]
  have hj':j<(bN k held).2.aj.length:=by rw[G.kept.np];exact hj
  have m:jT (bN k held).2 j p (bN k held).1 (gm (bN k held).2.aM p (rT (bN k held).2 j p)) false:=⟨G.right,hj',G.mapped hj hp,by rw[G.kept.nf];exact G.lt,G.free,D8 G.right hj' (G.mapped hj hp),fun _=>rfl⟩
  grind [oK]
 | some e =>
  have he:=(ie hsp.mr).1 g;dsimp only;by_cases c:e.kind=1
  · grind
  · rw[aA c];have hb:=(ja h hj he.1).resolve_left (fun y=>c y.1);have hent:bu (ak (bN k held).2.aj j).bc p=some e:=by grind [um.M6]
    have hj':j<(bN k held).2.aj.length:=by rw[G.kept.np];exact hj
    have he':=(ie (G.right.sp hj').mr).1 hent;have hsz:(bH (bN k held).2.slots e.loc.toNat).data.size=16:=(G.right.slt e.loc.toNat (by grind [um.kept,fM.ns])).size (fun z=>by
     grind [jr])
    have m:jT (bN k held).2 j p (bN k held).1 (bH (bN k held).2.slots e.loc.toNat).data true:=⟨G.right,hj',G.mapped hj hp,by rw[G.kept.nf];exact G.lt,G.free,hsz,fun y=>by cases y⟩
    grind [oK]
theorem Tf {k:aT} (h:aZ k) {j:Nat} (hj:j<k.aj.length) {p:Int} (hp:ez k j p) {a:Nat} (ha:bu (ak k.aj j).bc p=some ⟨p,1,a⟩) {held:List Int} (hl:held.length<=1) {j0:Nat} (hj0:j0<k.aj.length) {q:Int} {b:Nat} (h2:bu (ak k.aj j0).bc q=some ⟨q,1,b⟩) (hin:(b:Int)∈held) (hpq:q≠p):aH (kM k j p a held).2.frames b=aH k.frames b:=by
 have hab:=uQ h hj hj0 ha h2 hpq;have hat:=(D7 h hj ha).1;unfold kM;by_cases c:(aH k.frames a).refs=1
 · grind
 · rw[aA c];have G:=s8 h (held:=held++[(a:Int)]) (by grind);have hH:=G.PZ b (lV.2 (.inl hin)) (D7 h hj0 h2).2;obtain⟨g,hg⟩:=ex (bN k (held++[(a:Int)]));rw[<- hg] at G hH ⊢;have hent:bu (ak g.2.aj j).bc p=some ⟨p,1,a⟩:=G.stay h hj ha (fun _=>lV.2 (.inr (by simp)));have hj':j<g.2.aj.length:=by rw[G.kept.np];exact hj
   have he':=(ie (G.right.sp hj').mr).1 hent;have hsz:(aH g.2.frames a).data.size=16:=(G.right.zL a (by rw[G.kept.nf];exact hat)).size (fun z=>by
    have:=jr hj' he'.1
    grind)
   have m:jT g.2 j p g.1 (aH g.2.frames a).data true:=⟨G.right,hj',G.mapped hj hp,by rw[G.kept.nf];exact G.lt,G.free,hsz,fun y=>by cases y⟩
   grind [oK]
theorem Tb {k:aT} (h:aZ k) {j:Nat} (hj:j<k.aj.length) {p:Int} (hp:ez k j p) (way:Int) {held:List Int} (hl:held.length<=1) {j0:Nat} (hj0:j0<k.aj.length) {q:Int} {b:Nat} (h2:bu (ak k.aj j0).bc q=some ⟨q,1,b⟩) (hin:(b:Int)∈held) (hpq:q≠p):aH (dN k j p way held).2.frames b=aH k.frames b:=by
 have P:=Ab h hj hp (held:=held) (by omega);have PH:=Ox h hj hp (held:=held) (by omega) hj0 h2 hin hpq;have hT:fR k j p held (iz k j p way held)/\aH (iz k j p way held).2.frames b=aH k.frames b:=by
  unfold iz;by_cases c:way=1
  · rw[aC c];have A:=Li P.right (by rw[P.kept.np];exact hj) (P.kept.mapped hj hp) P.here hl;refine⟨P.trans A.1,?_⟩;rw[Tf P.right (by rw[P.kept.np];exact hj) (P.kept.mapped hj hp) P.here hl (by rw[P.kept.np];exact hj0) (P.stay j0 hj0 q _ h2 rfl hin (fun x=>hpq x.2)) hin hpq];exact PH
  grind
 have T:=hT.1;have hne:=uQ T.right (by rw[T.kept.np];exact hj) (by rw[T.kept.np];exact hj0) T.here (T.stay j0 hj0 q _ h2 rfl hin (fun x=>hpq x.2)) hpq;show aH ((iz k j p way held).2.frames.set _ _) b=_
 grind [jQ,fR.kept,fM.nf,fR.lt]
structure tq (k:aT) (j:Nat) (p:Int) (i:Nat):Prop where
 here:bu (ak k.aj j).bc p=some ⟨p,1,i⟩
 lt:i<k.frames.length
 refs:(aH k.frames i).refs=1
 jo:(aH k.frames i).jo=true
theorem QQ {k:aT} (h:aZ k) {j:Nat} (hj:j<k.aj.length) (a n:Int) (h1:ez k j (a/16)) (h2:ez k j (cD a n)):tq (bf k j a n 1).2 j (a/16) (fp k j a 1).1/\(cD a n≠a/16->tq (bf k j a n 1).2 j (cD a n) (kF k j a n 1).1):=by
 have R:=nZ h hj a n 1 h1 h2;obtain⟨A,A2⟩:=qW h hj h1 1 (held:=[]) (by simp);have A2:=A2 rfl;by_cases c:cD a n=a/16
 · have e:bf k j a n 1=([(fp k j a 1).1],(fp k j a 1).2):=by grind [bf]
   refine⟨?_,fun x=>absurd c x⟩;rw[e];exact⟨A.here,by have:=A.kept.nf;have:=A.lt;show(dN k j (a/16) 1 []).1<(dN k j (a/16) 1 []).2.frames.length;omega,A2.1,A2.2⟩
 · have hj':j<(fp k j a 1).2.aj.length:=by grind [fp,fR.kept,fM.np]
   have hm':=A.kept.mapped hj h2;obtain⟨B,B2⟩:=qW (k:=(fp k j a 1).2) A.right hj' hm' 1 (held:=[((fp k j a 1).1:Int)]) (by simp);have B2:=B2 rfl;have hh:=Tb (k:=(fp k j a 1).2) A.right hj' hm' 1 (held:=[((fp k j a 1).1:Int)]) (by simp) hj' A.here (by simp[fp]) (fun x=>c x.symm);have e:bf k j a n 1=([(fp k j a 1).1,(kF k j a n 1).1],(kF k j a n 1).2):=by grind [bf]
   have hB:kF k j a n 1=dN (fp k j a 1).2 j (cD a n) 1 [((fp k j a 1).1:Int)]:=rfl;have hlen:(kF k j a n 1).2.frames.length=k.frames.length:=by rw[hB,B.kept.nf];exact A.kept.nf
   rw[e];refine⟨⟨?_,?_,?_,?_⟩,fun _=>⟨?_,?_,?_,?_⟩⟩
   · grind [fp,fR.stay,fR.here]
   · show(fp k j a 1).1<(kF k j a n 1).2.frames.length;rw[hlen];exact A.lt
   · grind [fp]
   · grind [fp]
   · exact B.here
   · show(kF k j a n 1).1<(kF k j a n 1).2.frames.length;rw[hlen];have:=B.lt
     grind [fR.kept,fM.nf]
   · grind
   grind
def wy (k:aT) (i:Nat) (d:ByteArray):aT:={ k with frames:=k.frames.set i ⟨d,(aH k.frames i).refs,(aH k.frames i).jo,(aH k.frames i).seen⟩ }
theorem Cn {k:aT} (h:aZ k) {j:Nat} (hj:j<k.aj.length) {p:Int} {i:Nat} (a:tq k j p i) {d:ByteArray} (hd:d.size=16):aZ (wy k i d):=by
 have hf:=h.zL i a.lt;refine h.frame ⟨hf.refs,fun e=>?_,hf.one,fun _=>hd,fun x=>?_⟩
 · have:=hf.refs
   grind [tq.refs]
 grind [tq.jo]
theorem D4 {k:aT} (h:aZ k) {j:Nat} (hj:j<k.aj.length) {p:Int} {i:Nat} (a:tq k j p i) (d:ByteArray) {m:Nat} (hm:m<k.aj.length) (q:Int):cI (wy k i d) m q=if m=j/\q=p then d else cI k m q:=by
 have at_:∀n,aH (wy k i d).frames n=if i=n then ⟨d,(aH k.frames i).refs,(aH k.frames i).jo,(aH k.frames i).seen⟩ else aH k.frames n:=fun n=>jQ _ _ _ _ a.lt
 by_cases c:m=j/\q=p
 · grind [cI,aH,wy,tq.here]
 · rw[aA c];refine xm rfl (fun x hx=>⟨fun hk=>?_,fun _=>rfl⟩) (fun _=>rfl);have hx:bu (ak k.aj m).bc q=some x:=hx;rw[at_];by_cases e:i=x.loc.toNat
   · exfalso;have m1:x∈(ak k.aj m).bc:=mg hx;have hb:=(ja h hm m1).resolve_right (fun y=>by omega);have hxl:x.loc=(i:Int):=by omega
     have e2:x=⟨q,1,i⟩:=by
      have:=NH hx;obtain⟨a1,a2,a3⟩:=x
      grind
     rw[e2] at hx;have hpq:q=p:=by
      by_cases z:q=p
      · exact z
      · exact absurd rfl (uQ h hj hm a.here hx z)
     have hmj:m≠j:=fun z=>c ⟨z,hpq⟩
     have hr:=(h.zL i a.lt).refs;rw[a.refs] at hr;have two:2<=(bW k.aj 1 i).length:=by
      have key:∀(l:List cY) (a b:Nat),a<b->b<l.length->(fE (ak l a) 1 i)≠[]->(fE (ak l b) 1 i)≠[]->2<=(bW l 1 i).length:=fun l=>by
       induction l with
       | nil=>grind
       | cons s r ih =>
        intro a b hab hb h1 h2;rw[kO,fK];cases a with
        | zero =>
         have h1':1<=(fE s 1 i).length:=List.length_pos_iff.2 h1;obtain⟨b',rfl⟩:∃b',b=b'+1:=⟨b-1,by omega⟩;have h2':fE (ak r b') 1 i≠[]:=h2;have:1<=(bW r 1 i).length:=by
          obtain⟨y,hy⟩:=JU _ h2';refine List.length_pos_iff.2 fun z=>?_
          have:y∈bW r 1 i:=vJ.2 ⟨_,Bk (by grind),hy⟩
          grind
         omega
        | succ a =>
         obtain⟨b',rfl⟩:∃b',b=b'+1:=⟨b-1,by omega⟩;have:=ih a b' (by omega) (by grind) h1 h2;omega
      have n1:fE (ak k.aj j) 1 i≠[]:=fun z=>by
       have:(_:Int×Bool)∈fE (ak k.aj j) 1 i:=ux.2 ⟨_,mg a.here,rfl,rfl,rfl⟩
       grind
      have n2:fE (ak k.aj m) 1 i≠[]:=fun z=>by
       have:(_:Int×Bool)∈fE (ak k.aj m) 1 i:=ux.2 ⟨_,mg hx,rfl,rfl,rfl⟩
       grind
      grind
     omega
   grind
def nQ (f:Int->ByteArray) (a n:Int):ByteArray:=if cD a n=a/16 then f (a/16) else f (a/16)++f (cD a n)
def uy (f:Int->ByteArray) (a n:Int):ByteArray:=(nQ f a n).extract (a%16).toNat ((a%16).toNat+n.toNat)
def wA (f:Int->ByteArray) (a:Int) (d:ByteArray):ByteArray:=iC (nQ f a d.size) (a%16).toNat d
def nA (f:Int->ByteArray) (a:Int) (d:ByteArray) (p:Int):ByteArray:=if p=a/16 then (wA f a d).extract 0 16 else if p=cD a d.size then (wA f a d).extract 16 32 else f p
def iP (fs:List lQ) (ids:List Nat):Nat->ByteArray
 | 0=>⟨#[]⟩
 | n+1=>iP fs ids n++(aH fs (ids.getD n 0)).data
def lD (k:aT) (ids:List Nat) (s:ByteArray):Nat->aT
 | 0=>k
 | n+1=>wy (lD k ids s n) (ids.getD n 0) (s.extract (n*16) (n*16+16))
def ma (k:aT) (j:Nat) (a n way:Int):ByteArray:=(iP (bf k j a n way).2.frames (bf k j a n way).1 (bf k j a n way).1.length).extract (a%16).toNat ((a%16).toNat+n.toNat)
def lC (k:aT) (j:Nat) (a:Int) (d:ByteArray):aT:=lD (bf k j a d.size 1).2 (bf k j a d.size 1).1 (iC (iP (bf k j a d.size 1).2.frames (bf k j a d.size 1).1 (bf k j a d.size 1).1.length) (a%16).toNat d) (bf k j a d.size 1).1.length
theorem K7 {k:aT} {j:Nat} {p:Int} {i:Nat} (h:bu (ak k.aj j).bc p=some ⟨p,1,i⟩):cI k j p=(aH k.frames i).data:=by
 grind [cI]
theorem xV {k:aT} (h:aZ k) {j:Nat} (hj:j<k.aj.length) (a n way:Int) (h1:ez k j (a/16)) (h2:ez k j (cD a n)):iP (bf k j a n way).2.frames (bf k j a n way).1 (bf k j a n way).1.length=nQ (cI k j) a n:=by
 have R:=nZ h hj a n way h1 h2;have p1:=R.kept.Si j hj (a/16);have p2:=R.kept.Si j hj (cD a n);rw[K7 R.one.1] at p1;unfold nQ;rw[<- p1,<- p2];by_cases c:cD a n=a/16
 · rw[aC c];have e:(bf k j a n way).1=[(fp k j a way).1]:=by grind [bf]
   rw[e];rfl
 · rw[aA c,K7 (R.two c).1];have e:(bf k j a n way).1=[(fp k j a way).1,(kF k j a n way).1]:=by grind [bf]
   rw[e];rfl
theorem xo {k:aT} (h:aZ k) {j:Nat} (hj:j<k.aj.length) (a n way:Int) (h1:ez k j (a/16)) (h2:ez k j (cD a n)):ma k j a n way=uy (cI k j) a n:=by
 grind [ma,uy,xV]
theorem pB {k:aT} (h:aZ k) {j:Nat} (hj:j<k.aj.length) {p:Int} (hp:ez k j p):(cI k j p).size=16:=by
 unfold cI;cases g:bu (ak k.aj j).bc p with
 | none=>exact D8 h hj hp
 | some e =>
  have hb:=ja h hj (mg g);have hn:=jr hj (mg g);dsimp only;rcases hb with b | b
  · rw[aC b.1];exact(h.zL _ b.2.2).size (fun z=>by grind)
  grind [aZ.slt,oM.size]
open Go.RowKit
theorem KZ (s:ByteArray) (q:Nat) (t:ByteArray) (h:q+t.size<=s.size):(iC s q t).size=s.size:=by
 have h1:(iC s q t).size=(iC s q t).data.toList.length:=by simp
 have h2:s.size=s.data.toList.length:=by simp
 have h3:t.size=t.data.toList.length:=by simp
 grind [iC]
theorem Bo (s:ByteArray) (a b:Nat) (h:b<=s.size) (hab:a<=b):(s.extract a b).size=b-a:=by
 simp_all
theorem Mv {a n:Int} (h1:1<=n) (h8:n<=8):(cD a n=a/16/\a%16+n<=16)∨(cD a n=a/16+1/\16<a%16+n):=by
 grind [cD]
structure Eb (f:Int->ByteArray) (a n:Int):Prop where
 one:(f (a/16)).size=16
 two:(f (cD a n)).size=16
theorem zu {f:Int->ByteArray} {a n:Int} (h:Eb f a n) (h1:1<=n) (h8:n<=8):((nQ f a n).size:Int)=if cD a n=a/16 then 16 else 32:=by
 grind [nQ,Eb.one,Eb.two]
theorem Bn {f:Int->ByteArray} {a n:Int} (h:Eb f a n) (h1:1<=n) (h8:n<=8):(a%16).toNat+n.toNat<=(nQ f a n).size:=by
 grind [zu,Mv]
theorem We {f:Int->ByteArray} {a n:Int} (h:Eb f a n) (h1:1<=n) (h8:n<=8):(uy f a n).size=n.toNat:=by
 grind [uy,Bo,Bn]
theorem Wh {f:Int->ByteArray} {a:Int} {d:ByteArray} (h:Eb f a d.size) (h1:1<=(d.size:Int)) (h8:(d.size:Int)<=8):((wA f a d).size:Int)=if cD a d.size=a/16 then 16 else 32:=by
 unfold wA;rw[KZ _ _ _ (by have:=Bn h h1 h8;omega)]
 grind [zu]
structure Mx (k:aT) (j:Nat) (a:Int) (d:ByteArray) (r:aT):Prop where
 right:aZ r
 aM:r.aM=k.aM
 nf:r.frames.length=k.frames.length
 ns:r.slots.length=k.slots.length
 np:r.aj.length=k.aj.length
 live:∀m,m<k.aj.length->(ak r.aj m).live=(ak k.aj m).live
 aU:∀m,m<k.aj.length->(ak r.aj m).aU=(ak k.aj m).aU
 Si:∀m,m<k.aj.length->∀p,cI r m p=if m=j then nA (cI k j) a d p else cI k m p
theorem wh {k:aT} (h:aZ k) {j:Nat} (hj:j<k.aj.length) (a:Int) (d:ByteArray) (hd1:1<=(d.size:Int)) (hd8:(d.size:Int)<=8) (h1:ez k j (a/16)) (h2:ez k j (cD a d.size)):Mx k j a d (lC k j a d):=by
 have R:=nZ h hj a d.size 1 h1 h2;have A:=QQ h hj a d.size h1 h2;have hP:Eb (cI k j) a d.size:=⟨pB h hj h1,pB h hj h2⟩;have hL:=Wh hP hd1 hd8;have Pw:=Mv (a:=a) hd1 hd8;unfold lC;rw[xV h hj a d.size 1 h1 h2];obtain⟨s,hs⟩:=ex (wA (cI k j) a d);have hs':iC (nQ (cI k j) a d.size) (a%16).toNat d=s:=hs.symm;rw[hs'];rw[<- hs] at hL;obtain⟨K,hK⟩:=ex ((bf k j a d.size 1).2);have hr:=R.right;have Fg:=R.kept;rw[<- hK] at hr Fg A ⊢;have hjK:j<K.aj.length:=by grind [fM.np]
 by_cases c:cD a d.size=a/16
 · have e:(bf k j a d.size 1).1=[(fp k j a 1).1]:=by grind [bf]
   rw[e];show Mx k j a d (wy K (fp k j a 1).1 (s.extract (0*16) (0*16+16)));rw[aC c] at hL;have hz:(s.extract (0*16) (0*16+16)).size=16:=Bo _ _ _ (by omega) (by omega);refine⟨Cn hr hjK A.1 hz,Fg.aM,by show(List.set _ _ _).length=_;grind [fM.nf],Fg.ns,Fg.np,Fg.live,Fg.aU,fun m hm p=>?_⟩
   grind [D4,nA,fM.np,fM.Si]
 · have e:(bf k j a d.size 1).1=[(fp k j a 1).1,(kF k j a d.size 1).1]:=by grind [bf]
   rw[e];show Mx k j a d (wy (wy K (fp k j a 1).1 (s.extract (0*16) (0*16+16))) (kF k j a d.size 1).1 (s.extract (1*16) (1*16+16)));rw[aA c] at hL;have hz:(s.extract (0*16) (0*16+16)).size=16:=Bo _ _ _ (by omega) (by omega);have hy:(s.extract (1*16) (1*16+16)).size=16:=Bo _ _ _ (by omega) (by omega);have A2:=A.2 c;have hne:=uQ hr hjK hjK A.1.here A2.here c;have r1:=Cn hr hjK A.1 hz;have B:tq (wy K (fp k j a 1).1 (s.extract (0*16) (0*16+16))) j (cD a d.size) (kF k j a d.size 1).1:=by
    have at_:aH (wy K (fp k j a 1).1 (s.extract (0*16) (0*16+16))).frames (kF k j a d.size 1).1=aH K.frames (kF k j a d.size 1).1:=by
     show aH (List.set _ _ _) _=_
     grind [jQ,tq.lt]
    exact⟨A2.here,by show _<(List.set _ _ _).length;rw[fJ];exact A2.lt,by grind [tq.refs],by grind [tq.jo]⟩
   refine⟨Cn r1 hjK B hy,Fg.aM,by show(List.set (List.set _ _ _) _ _).length=_;grind [fM.nf],Fg.ns,Fg.np,Fg.live,Fg.aU,fun m hm p=>?_⟩;have hmK:m<K.aj.length:=by grind [fM.np]
   rw[D4 r1 hjK B _ (m:=m) hmK,D4 hr hjK A.1 _ hmK]
   grind [nA,fM.Si]
open Go.RowKit
structure km where
 i:wR
 a:J7
 base:Int
def akK:km:=⟨⟨⟨#[]⟩,[],[],[],[],0⟩,⟨none,0,none,0,none,0,none,0⟩,0⟩
def dR (l:List km) (k:Nat):km:=l.getD k akK
def o5 (o:km):Array Value:=#[.string o.i.name,.slice o.a.an o.i.needs.length o.a.cn,.slice o.a.ag o.i.jI.length o.a.cg,.slice o.a.ay o.i.syms.length o.a.cy,.slice o.a.ar o.i.pV.length o.a.cr,I o.i.entry,I o.base]
def PB (w:World) (b off:Nat) (l:List km):Prop:=∀k,k<l.length ->
 (w.cell? (Ad b (off+k*7))=some (.string (dR l k).i.name)/\w.cell? (Ad b (off+k*7+1))=some (.slice (dR l k).a.an (dR l k).i.needs.length (dR l k).a.cn) /\
  w.cell? (Ad b (off+k*7+2))=some (.slice (dR l k).a.ag (dR l k).i.jI.length (dR l k).a.cg)/\w.cell? (Ad b (off+k*7+3))=some (.slice (dR l k).a.ay (dR l k).i.syms.length (dR l k).a.cy) /\
  w.cell? (Ad b (off+k*7+4))=some (.slice (dR l k).a.ar (dR l k).i.pV.length (dR l k).a.cr)/\w.cell? (Ad b (off+k*7+5))=some (I (dR l k).i.entry)/\w.cell? (Ad b (off+k*7+6))=some (I (dR l k).base))/\qc w (dR l k).a (dR l k).i
theorem ahZ {w w':World} {b off:Nat} {l:List km} (hb:Below w.heap.size w w') (hlt:b<w.heap.size) (h:PB w b off l):PB w' b off l:=fun k hk=>by
 obtain⟨⟨c0,c1,c2,c3,c4,c5,c6⟩,hi⟩:=h k hk
 grind [cQ,qc.below]
def KC (w:World) (ao:Option Addr) (l:List km):Prop:=gS PB w ao l
theorem KC.below {w w':World} {ao:Option Addr} {l:List km} (h:KC w ao l) (hb:Below w.heap.size w w'):KC w' ao l:=gS.below (lie:=PB) (fun hb hlt h=>ahZ hb hlt h) h hb
def xf (i:wR):pL:=eO i.jI (i.jI.length-1)
def xS (o:km):Int:=o.base+(xf o.i).page+(xf o.i).aQ
def yn (o:km) (XO:Int):Int:=o.base*16+XO
def vQ (s:pL):Int:=if s.wr then (if s.ex then 3 else 1) else (if s.ex then 2 else 0)
theorem xP {i:wR} (hc:mz i=0) (k:Nat) (hk:k<i.jI.length):0<=(eO i.jI k).page/\1<=(eO i.jI k).aQ/\(eO i.jI k).page+(eO i.jI k).aQ<=255/\((eO i.jI k).data.size:Int)<=(eO i.jI k).aQ*16:=by
 unfold mz at hc;split at hc
 · omega
 · split at hc
   · omega
   · split at hc
     · omega
     · rename_i h
       have h':Mi i=true:=by grind
       unfold Mi at h';have:=Qd ll Ib i.jI k hk h';unfold ll at this;exact oP this
theorem vX {i:wR} (hc:mz i=0):1<=i.jI.length/\i.jI.length<=6/\i.needs.length<=4/\i.syms.length<=12/\i.pV.length<=16:=by
 grind [mz,CQ]
theorem Fl {i:wR} (hc:mz i=0):0<=(xf i).page/\1<=(xf i).aQ/\(xf i).page+(xf i).aQ<=255:=by
 have h1:=vX hc;have h2:=xP hc (i.jI.length-1) (by omega);exact⟨h2.1,h2.2.1,h2.2.2.1⟩
open Go.RowKit
theorem aB {p:Prop} (h:p):Hid p:=h
theorem lY {a b:Bool} (h:a=b):Ending.returned (.bool a)=.returned (.bool b):=by rw[h]
theorem J1 (n:Int) (w:World):Calls Tryz.prog 220 #[.int .u8 n] w fun e w'=>e=.returned (.bool (uL n))/\w=w':=by
 by_cases h1:97<=n/\n<=122
 · have e:uL n=true:=by grind [uL]
   rw[e];obtain⟨a,b⟩:=h1;go_enter Tryz.func220,Tryz.ntmps220;go_wp2;go_ret
   simp_all
 · by_cases h2:48<=n/\n<=57
   · have e:uL n=true:=by grind [uL]
     rw[e];obtain⟨a,b⟩:=h2;have c:decide (97<=n)=false:=by grind
     clear h1;go_enter Tryz.func220,Tryz.ntmps220;go_wp2;go_ret
     simp_all
   · by_cases h3:n=95
     · subst h3;go_enter Tryz.func220,Tryz.ntmps220;go_wp2;go_ret;exact⟨rfl,rfl⟩
     · have e:uL n=false:=by grind [uL]
       rw[e];have h3':(n==95)=false:=by grind
       by_cases a:97<=n
       · have b:decide (n<=122)=false:=by grind
         have c:48<=n:=by omega
         have d:decide (n<=57)=false:=by grind
         clear h1 h2;go_enter Tryz.func220,Tryz.ntmps220;go_wp2;go_ret
         simp_all
       · by_cases c:48<=n
         · have d:decide (n<=57)=false:=by grind
           clear h1 h2;go_enter Tryz.func220,Tryz.ntmps220;go_wp2;go_ret
           simp_all
         · clear h1 h2;go_enter Tryz.func220,Tryz.ntmps220;go_wp2;go_ret
           simp_all
theorem Vh (s:ByteArray) (w:World) (hs:cB s.size):Calls Tryz.prog 200 #[.string s] w fun e w'=>e=.returned (.bool (uM s))/\w=w':=by
 unfold cB at hs;by_cases h1:1<=s.size
 · by_cases h2:s.size<=12
   · have d1:¬(s.size:Int)<1:=by omega
     have d2:¬12<(s.size:Int):=by omega
     go_enter Tryz.func200,Tryz.ntmps200;go_wp2
     go_loop [14] (fun i=>∃k:Nat,k<=s.size/\i=I k/\∀j (hj:j<s.size),j<k->uL s[j].toNat=true) (fun i=>s.size-(intOf i).toNat)
     case atStart=>exact⟨0,by omega,rfl,fun j _ h=>by omega⟩
     case round =>
      obtain⟨k,hk,rfl,hall⟩:=hrel;have HA:=aB hall;clear hall;by_cases hlt:k<s.size
      · cases hc:uL s[k].toNat
        · have HR:=aB (adR s k hlt hc);go_wp2_with (go_at_call 220;refine(J1 _ _).mono ?_;rintro e w' ⟨rfl,rfl⟩;rw[hc])
          go_ret;exact⟨lY HR.o.symm,rfl⟩
        · have HC:=aB hc;go_wp2_with (go_at_call 220;refine(J1 _ _).mono ?_;rintro e w' ⟨rfl,rfl⟩;rw[hc])
          grind [intOf,Hid.o]
      · obtain rfl:k=s.size:=by omega
        have HR:=aB (aa8 s h1 h2 (fun k hk=>HA.o k hk hk));go_wp2;go_ret;exact⟨lY HR.o.symm,rfl⟩
   · have HR:=aB (Qc s (fun h=>h2 h.2));have d1:¬(s.size:Int)<1:=by omega
     have d2:12<(s.size:Int):=by omega
     go_enter Tryz.func200,Tryz.ntmps200;go_wp2;go_ret;exact⟨lY HR.o.symm,rfl⟩
 · have HR:=aB (Qc s (fun h=>h1 h.1));have d1:(s.size:Int)<1:=by omega
   go_enter Tryz.func200,Tryz.ntmps200;go_wp2;go_ret;exact⟨lY HR.o.symm,rfl⟩
open Go.RowKit
open Go.RowKit
open Go.RowKit
theorem JZ (i:wR) (a:J7) (w:World) (hf:J6 i):Calls Tryz.prog 159 #[.agg (jJ a i)] w fun e w'=>e=.returned (.bool (CQ i))/\Below w.heap.size w w':=by
 obtain⟨an,cn,ag,cg,ay,cy,ar,cr⟩:=a;obtain⟨nm,ns,gs,ys,rs,en⟩:=i;obtain⟨f1,f2,f3,f4,f5,f6,f7,f8,f9,f10⟩:=hf;simp only at f2 f4 f6 f8;unfold cB at f2 f4 f6 f8;simp only[jJ,CQ];have gK:∀o,Hid (Below w.heap.size w (w.alloc o)):=fun o=>(aK w.heap.size w).alloc (aI _) o
 obtain⟨r,hr⟩:=ex (decide (1<=gs.length/\gs.length<=6/\ns.length<=4/\ys.length<=12/\rs.length<=16));rw[<- hr];have HR:=aB hr;clear hr f1 f3 f5 f7 f9 f10;obtain⟨ln,hln⟩:∃n,n=ns.length:=⟨_,rfl⟩;obtain⟨lg,hlg⟩:∃n,n=gs.length:=⟨_,rfl⟩;obtain⟨ly,hly⟩:∃n,n=ys.length:=⟨_,rfl⟩;obtain⟨lr,hlr⟩:∃n,n=rs.length:=⟨_,rfl⟩;rw[<- hln,<- hlg,<- hly,<- hlr] at HR;rw[<- hln,<- hlg,<- hly,<- hlr];rw[<- hln] at f2;rw[<- hlg] at f4;rw[<- hly] at f6;rw[<- hlr] at f8;clear hln hlg hly hlr;by_cases d1:1<=(lg:Int)
 · by_cases d2:(lg:Int)<=6
   · by_cases d3:(ln:Int)<=4
     · by_cases d4:(ly:Int)<=12
       · by_cases d5:(lr:Int)<=16
         · have e:r=true:=by grind [Hid.o]
           subst e;go_enter Tryz.func159,Tryz.ntmps159;go_wp2;go_ret;exact⟨rfl,(gK _).out⟩
         · have e:r=false:=by grind [Hid.o]
           subst e;go_enter Tryz.func159,Tryz.ntmps159;go_wp2;go_ret;exact⟨rfl,(gK _).out⟩
       · have e:r=false:=by grind [Hid.o]
         subst e;go_enter Tryz.func159,Tryz.ntmps159;go_wp2;go_ret;exact⟨rfl,(gK _).out⟩
     · have e:r=false:=by grind [Hid.o]
       subst e;go_enter Tryz.func159,Tryz.ntmps159;go_wp2;go_ret;exact⟨rfl,(gK _).out⟩
   · have e:r=false:=by grind [Hid.o]
     subst e;go_enter Tryz.func159,Tryz.ntmps159;go_wp2;go_ret;exact⟨rfl,(gK _).out⟩
 · have e:r=false:=by grind [Hid.o]
   subst e;have q4:decide ((1:Int)<=(lg:Int))=false:=jl d1;obtain rfl:lg=0:=by omega
   go_enter Tryz.func159,Tryz.ntmps159;go_wp2;go_ret;exact⟨rfl,(gK _).out⟩
theorem JY (l:List pL) (ao:Option Addr) (cap:Nat) (w:World) (h:gS zS w ao l) (hn:cB l.length) (hf:∀k,k<l.length->afT (eO l k)) :
  Calls Tryz.prog 160 #[.slice ao l.length cap] w fun e w'=>e=.returned (.bool (l.all ll))/\Below w.heap.size w w':=by
 unfold cB at hn;have H:=aB h;have F:=aB hf;clear h hf;go_enter Tryz.func160,Tryz.ntmps160;go_wp2;go_loopw [7] (fun i wr=>∃k:Nat,k<=l.length/\i=I k/\(∀j,j<k->ll (eO l j)=true)/\Below w.heap.size w wr) (fun i _=>l.length-(intOf i).toNat)
 case atStart=>grind [Below.refl]
 case round =>
  obtain⟨k,hk,rfl,hall,hb⟩:=hrel;have HA:=aB hall;have HB:=aB hb;clear hall;by_cases hlt:k<l.length
  · obtain⟨b,off,hao,hbl,hl⟩:=H.o (by omega);subst hao;obtain⟨c0,c1,c2,c3,c4⟩:=zR hb hbl hl k hlt;obtain⟨g1,g2,g3⟩:=F.o k hlt;obtain⟨s,hs⟩:=ex (eO l k);rw[<- hs] at c0 c1 c2 c3 c4 g1 g2 g3;have HS:=aB hs;clear hs hb hl;obtain⟨p,n,d,x,y⟩:=s;simp only at c0 c1 c2 c3 c4 g1 g2 g3;unfold cO at g1 g2;unfold cB at g3;have T5:(k:Int)<(l.length:Int):=by omega
    have hbad:Hid (¬(0<=p/\1<=n/\p+n<=255/\(d.size:Int)<=n*16)->l.all ll=false):=fun hx =>
     Nb ll Ib l k hlt (by show ll (eO l k)=false;rw[<- HS.o];exact jl hx)
    by_cases d1:0<=p
    · have d1':¬p<0:=by omega
      by_cases d2:1<=n
      · have d2':¬n<1:=by omega
        by_cases d3:p+n<=255
        · have d3':¬255-p<n:=by omega
          by_cases d4:(d.size:Int)<=n*16
          · have d4':¬n*16<(d.size:Int):=by omega
            have amz:Hid (ll ⟨p,n,d,x,y⟩=true):=gZ ⟨d1,d2,d3,d4⟩;go_wp2;go_roundw
            case rel=>exact⟨k+1,by omega,by go_num,fun j h=>if e:j=k then by rw[e,<- HS.o];exact amz.out else HA.o j (by omega),HB.o.alloc HB.o.size _⟩
            case measure=>simp[intOf];omega
          · have d4':n*16<(d.size:Int):=by omega
            have HR:=aB (hbad.out (by omega));go_wp2;go_ret;exact⟨lY HR.o.symm,HB.o.alloc HB.o.size _⟩
        · have d3':255-p<n:=by omega
          have HR:=aB (hbad.out (by omega));go_wp2;go_ret;exact⟨lY HR.o.symm,HB.o.alloc HB.o.size _⟩
      · have d2':n<1:=by omega
        have HR:=aB (hbad.out (by omega));go_wp2;go_ret;exact⟨lY HR.o.symm,HB.o.alloc HB.o.size _⟩
    · have d1':p<0:=by omega
      have HR:=aB (hbad.out (by omega));go_wp2;go_ret;exact⟨lY HR.o.symm,HB.o.alloc HB.o.size _⟩
  · obtain rfl:k=l.length:=by omega
    have HR:=aB (Jf ll Ib l (fun j hj=>HA.o j hj));clear hb;go_wp2;go_ret;exact⟨lY HR.o.symm,HB.o⟩
end Go.Proofs.YtlgoihmkgaaemaaGreat
