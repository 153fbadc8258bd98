import Derived.Test.YtlgoihmkgaaemaaGreatGO06
set_option maxHeartbeats 20000000
set_option linter.unusedVariables false
set_option maxRecDepth 100000
set_option linter.unusedSimpArgs false
namespace Go.Proofs.YtlgoihmkgaaemaaGreat
open Go.RowKit
theorem aW.space {k:aR} (h:aW k) {j:Nat} (hj:j<k.aj.length) {s:cZ} (hs:vh k.aM k.frames.length k.slots.length s) (hn:∀kd a,fJ s kd a=fJ (ak k.aj j) kd a) (hr:eD (k.aj.set j s)<=k.slots.length):aW { k with aj:=k.aj.set j s }:=by
 have nn:∀kd a,bU (k.aj.set j s) kd a=bU k.aj kd a:=fun kd a=>by
  obtain⟨u,v,g1,g2⟩:=zw k.aj j s kd a hj
  grind
 refine⟨?_,h.lT,h.hand,?_,hr,fun i hi=>?_,fun i hi=>?_⟩
 · have:=h.counts
   grind [nz]
 · grind [each]
 · grind [zP]
 grind [slt]
theorem Lb (l:List cZ):∀(j:Nat) (s:cZ),j<l.length->eD (l.set j s)=eD l-bh (ak l j).aT+bh s.aT:=fun j s hj=>by
 have:∀n,jH (l.set j s) n=jH l n+if j<n then bh s.aT-bh (ak l j).aT else 0:=fun n=>by
  induction n with
  | zero=>rfl
  | succ n ih =>
   grind [jH,iI]
 grind [eD]
def xt (old new:List aY):Prop:=∀p,(aV new p).2=true->((aV old p).2=true/\(aV new p).1.zero=(aV old p).1.zero)∨((aV old p).2=false/\(aV new p).1.zero=true)
theorem Iz {l:List aY} {p n q:Int} (h:(dK l p n q).2=0):bj (dK l p n q).1=0/\xt l (dK l p n q).1:=by
 obtain⟨h1,h2⟩:=zM l p n q h;refine⟨h1,fun x hx=>?_⟩;have hb:=kf hx;obtain⟨m,rfl⟩:∃m:Nat,x=(m:Int):=⟨x.toNat,by omega⟩
 grind
theorem yP {l:List aY} {p n:Int} (h:(cQ l p n).2=0):bj (cQ l p n).1=0/\xt l (cQ l p n).1:=by
 obtain⟨h1,h2⟩:=wP l p n h;refine⟨h1,fun x hx=>?_⟩;have hb:=kf hx;obtain⟨m,rfl⟩:∃m:Nat,x=(m:Int):=⟨x.toNat,by omega⟩
 grind
theorem Bk {l:List aY} {p n q:Int} (h:(bT l p n q).2=0):bj (bT l p n q).1=0/\xt l (bT l p n q).1:=by
 obtain⟨h1,h2⟩:=uj l p n q h;refine⟨h1,fun x hx=>?_⟩;have hb:=kf hx;obtain⟨m,rfl⟩:∃m:Nat,x=(m:Int):=⟨x.toNat,by omega⟩
 grind
def jr (l:List aY) (e:bD):Bool:=!(aV l e.page).2
def gI (k:aR) (j:Nat) (l:List aY):aR:={ dH k j (jr l) with aj:=(dH k j (jr l)).aj.set j ⟨(ak k.aj j).live,l,fe (ak k.aj j).bf (jr l)⟩ }
theorem Rb {k:aR} (h:aW k) {j:Nat} (hj:j<k.aj.length) (hl:(ak k.aj j).live=true) {l:List aY} (hc:bj l=0) (ht:xt (ak k.aj j).aT l) (hr:eD k.aj-bh (ak k.aj j).aT+bh l<=k.slots.length):aW (gI k j l):=by
 have hf:=yQ h hj (jr l);have hsp:=gN k j (jr l);have hre:=mY k j (jr l);have hj':j<(dH k j (jr l)).aj.length:=by grind
 have hat:ak (dH k j (jr l)).aj j=ek (ak k.aj j) (fe (ak k.aj j).bf (jr l)):=by grind [iI]
 have hold:=h.sp hj;have hnew:=hf.sp hj';rw[hat] at hnew;have ai1:∀e∈fe (ak k.aj j).bf (jr l),(aV l e.page).2=true/\e∈(ak k.aj j).bf:=fun e he=>by
  grind [fe,jr]
 refine aW.space hf hj' ⟨fun dd=>?_,hc,hnew.lT,fun e he=>⟨(ai1 e he).1,(hnew.Mq e he).2⟩,fun p hp hz=>?_⟩ (fun kd a=>?_) ?_
 · grind
 · rcases ht p hp with g | g
   · grind [vh.aM]
   grind
 · rw[hat];unfold fJ;refine Vs fun e he=>?_
   have hm:=ai1 e (U9.1 he).1;rcases ht e.page hm.1 with g | g
   · show(e.page,_)=(e.page,_);rw[g.2];rfl
   · have:=(hold.Mq e hm.2).1
     grind
 · rw[Lb _ _ _ hj',hat,hsp,Bo _ _ (ek (ak k.aj j) (fe (ak k.aj j).bf (jr l))) hj rfl,hre.2.2.2];exact hr
def jE (k:aR) (j:Nat):aR:={ dH k j (fun _=>true) with aj:=(dH k j (fun _=>true)).aj.set j rp }
theorem NQ (p:Int):(aV [] p).2=false:=by
 rfl
theorem Wy (hs:List bG) (nf ns:Nat):vh hs nf ns rp:=by
 refine⟨fun _=>⟨rfl,rfl⟩,rfl,List.Pairwise.nil,fun e he=>?_,fun p hp=>?_⟩
 · cases he
 · have hp:(aV [] p).2=true:=hp
   grind [NQ]
theorem WJ (es:List bD):fe es (fun _=>true)=[]:=by simp[fe]
theorem Tw {k:aR} (h:aW k) {j:Nat} (hj:j<k.aj.length):aW (jE k j):=by
 have hf:=yQ h hj (fun _=>true);have hsp:=gN k j (fun _=>true);have hre:=mY k j (fun _=>true);have hj':j<(dH k j (fun _=>true)).aj.length:=by grind
 have hat:ak (dH k j (fun _=>true)).aj j=ek (ak k.aj j) []:=by grind [iI,WJ]
 have ht:0<=bh (ak k.aj j).aT:=by
  have:=xZ (h.sp hj);omega
 refine aW.space hf hj' (Wy _ _ _) (fun kd a=>?_) ?_
 · rw[hat];rfl
 · rw[Lb _ _ _ hj',hat,hsp,Bo _ _ (ek (ak k.aj j) (fe (ak k.aj j).bf (fun _=>true))) hj rfl,hre.2.2.2];have:=h.room;show eD k.aj-bh (ak k.aj j).aT+bh []<=_;have e:bh []=0:=rfl;omega
def dY (k:aR) (es:List bD):Nat->aR
 | 0=>k
 | n+1=>ko (dY k es n) (aX es n) 1
def gM (k:aR) (j:Nat):aR:={ dY k (ak k.aj j).bf (ak k.aj j).bf.length with aj:=(dY k (ak k.aj j).bf (ak k.aj j).bf.length).aj++[ak k.aj j] }
def yx (f:lV) (c:Nat):lV:=⟨f.data,f.refs+c,f.jG,f.seen⟩
def yw (f:pd) (c:Nat):pd:=⟨f.data,f.refs+c⟩
theorem II (f:lV):yx f 0=f:=by simp[yx]
theorem IH (f:pd):yw f 0=f:=by simp[yw]
theorem wA {k:aR} (h:aW k) {j:Nat} (hj:j<k.aj.length):∀m,m<=(ak k.aj j).bf.length->(dY k (ak k.aj j).bf m).aM=k.aM/\(dY k (ak k.aj j).bf m).hand=k.hand/\(dY k (ak k.aj j).bf m).aj=k.aj/\(dY k (ak k.aj j).bf m).frames.length=k.frames.length/\(dY k (ak k.aj j).bf m).slots.length=k.slots.length /\
  (∀n,n<k.frames.length->aH (dY k (ak k.aj j).bf m).frames n=yx (aH k.frames n) (jS (ak k.aj j).aT 1 n ((ak k.aj j).bf.take m)).length) /\
  (∀n,n<k.slots.length->bE (dY k (ak k.aj j).bf m).slots n=yw (bE k.slots n) (jS (ak k.aj j).aT 2 n ((ak k.aj j).bf.take m)).length)
 | 0,_=>⟨rfl,rfl,rfl,rfl,rfl,fun n _=>(II _).symm,fun n _=>(IH _).symm⟩
 | m+1,hm=>by
  obtain⟨h1,h2,h3,h4,h5,h6,h7⟩:=wA h hj m (by omega);have hlt:m<(ak k.aj j).bf.length:=by omega
  have hin:aX (ak k.aj j).bf m∈(ak k.aj j).bf:=jT hlt;rw[D7 _ m hlt];obtain⟨e,he⟩:=ex (aX (ak k.aj j).bf m);obtain⟨q,hq⟩:=ex (dY k (ak k.aj j).bf m);rw[<- he] at hin ⊢;have hs:dY k (ak k.aj j).bf (m+1)=ko q e 1:=by rw[hq,he];rfl
  rw[<- hq] at h1 h2 h3 h4 h5 h6 h7;rw[hs];have aqm:∀(f:lV) (a b:Nat),yx (yx f a) b=yx f (a+b):=fun f a b=>by grind [yx]
  have aql:∀(f:pd) (a b:Nat),yw (yw f a) b=yw f (a+b):=fun f a b=>by grind [yw]
  rcases iO h hj hin with b | b
  · have hc:ko q e 1={ q with frames:=q.frames.set e.loc.toNat (Hr (aH q.frames e.loc.toNat) 1) }:=by grind [ko]
    rw[hc];refine⟨h1,h2,h3,by grind,h5,fun n hn=>?_,fun n hn=>?_⟩
    · show aH (q.frames.set _ _) n=_;rw[jU _ _ _ _ (by omega),mP,fM];by_cases c:e.loc.toNat=n
      · rw[aB c,se _ (show e.kind=1/\e.loc=(n:Int) by omega),<- aqm,<- h6 n hn,c];have hr:0<=(aH q.frames n).refs:=by
         rw[h6 n hn];have:=(h.zP n hn).refs;show 0<=(aH k.frames n).refs+_;omega
        unfold Hr;rw[au (by omega)];rfl
      · rw[au c,nN _ (show ¬(e.kind=1/\e.loc=(n:Int)) by omega),h6 n hn];rfl
    grind [mP,nN]
  · have hc:ko q e 1={ q with slots:=q.slots.set e.loc.toNat (Hq (bE q.slots e.loc.toNat) 1) }:=by grind [ko]
    rw[hc];refine⟨h1,h2,h3,h4,by grind,fun n hn=>?_,fun n hn=>?_⟩
    · grind [mP,nN]
    · show bE (q.slots.set _ _) n=_;rw[yu _ _ _ _ (by omega),mP,fM];by_cases c:e.loc.toNat=n
      · rw[aB c,se _ (show e.kind=2/\e.loc=(n:Int) by omega),<- aql,<- h7 n hn,c];have hr:0<=(bE q.slots n).refs:=by
         rw[h7 n hn];have:=(h.slt n hn).refs;show 0<=(bE k.slots n).refs+_;omega
        unfold Hq;rw[au (by omega)];rfl
      · rw[au c,nN _ (show ¬(e.kind=2/\e.loc=(n:Int)) by omega),h7 n hn];rfl
structure si (k:aR) (j:Nat) (f:aR):Prop where
 aM:f.aM=k.aM
 hand:f.hand=k.hand
 aj:f.aj=k.aj++[ak k.aj j]
 nf:f.frames.length=k.frames.length
 ns:f.slots.length=k.slots.length
 zP:∀n,n<k.frames.length->aH f.frames n=yx (aH k.frames n) (fJ (ak k.aj j) 1 n).length
 slt:∀n,n<k.slots.length->bE f.slots n=yw (bE k.slots n) (fJ (ak k.aj j) 2 n).length
theorem vD {k:aR} (h:aW k) {j:Nat} (hj:j<k.aj.length):si k j (gM k j):=by
 obtain⟨h1,h2,h3,h4,h5,h6,h7⟩:=wA h hj _ (aD _);rw[vQ] at h6 h7;exact⟨h1,h2,by show _++_=_;rw[h3],h4,h5,h6,h7⟩
theorem Tu {k:aR} (h:aW k) {j:Nat} (hj:j<k.aj.length) (h4:k.aj.length≠4) (hr:eD k.aj+bh (ak k.aj j).aT<=k.slots.length):aW (gM k j):=by
 have F:=vD h hj;have hc:=h.c;have nn:∀kd a,bU (gM k j).aj kd a=bU k.aj kd a++fJ (ak k.aj j) kd a:=fun kd a=>by
  grind [EU,kT,Li,si.aj]
 have sub:∀kd a,∀x∈fJ (ak k.aj j) kd a,x∈bU k.aj kd a:=fun kd a x hx=>by
  grind [uE,pI,Bn]
 have both:∀kd a,∀x∈bU k.aj kd a++fJ (ak k.aj j) kd a,x∈bU k.aj kd a:=fun kd a x hx=>by
  grind
 have nil:∀kd a,bU k.aj kd a++fJ (ak k.aj j) kd a=[]->bU k.aj kd a=[]/\fJ (ak k.aj j) kd a=[]:=fun kd a e=>Pz.1 e
 have ne:∀kd a,bU k.aj kd a++fJ (ak k.aj j) kd a≠[]->bU k.aj kd a≠[]:=fun kd a hn e=>hn (by
  rw[e];refine acZ.2 fun x hx=>?_
  grind)
 refine⟨?_,by rw[F.aM];exact h.lT,by rw[F.hand,F.nf];exact h.hand,?_,?_,fun n hn=>?_,fun n hn=>?_⟩
 · grind [nz,si.nf,si.ns,si.aj,si.aM]
 · grind [si.aM,si.nf,si.ns,si.aj,aW.each,aW.sp]
 · rw[F.aj,Le,F.ns];exact hr
 · rw[F.nf] at hn;rw[F.aM,nn,F.zP n hn];have hf:=h.zP n hn;refine⟨?_,fun e=>?_,fun x hx y hy=>hf.one x (both 1 n x hx) y (both 1 n y hy),fun e=>hf.size (ne 1 n e),fun d x hx=>hf.fill d x (both 1 n x hx)⟩
   · show(aH k.frames n).refs+_=_
     grind [lU.refs]
   grind [II,lU.zero]
 · rw[F.ns] at hn;rw[nn,F.slt n hn];have hf:=h.slt n hn;refine⟨?_,fun e=>?_,fun x hx y hy=>hf.one x (both 2 n x hx) y (both 2 n y hy),fun e=>hf.size (ne 2 n e)⟩
   · show(bE k.slots n).refs+_=_
     grind [oV.refs]
   grind [IH,oV.zero]
open Go.RowKit
theorem Zx {k:aR} (h:aW k) {j:Nat} (hj:j<k.aj.length) {pre post:List bD} {e:bD} (he:(ak k.aj j).bf=pre++e::post) {m:Nat} (hm:m<k.aj.length) {x:bD} (hx:x∈(ak (ml k j (pre++post) e).aj m).bf) :
  (x.kind=1->(aH (ml k j (pre++post) e).frames x.loc.toNat).data=(aH k.frames x.loc.toNat).data)/\(x.kind≠1->(bE (ml k j (pre++post) e).slots x.loc.toNat).data=(bE k.slots x.loc.toNat).data):=by
 obtain⟨f1,f2,f3,f4,f5,f6,f7⟩:=Ef h hj he;have hr:=Lt h hj he;have hm':m<(ml k j (pre++post) e).aj.length:=by grind
 have hn:=ju hm' hx;have hb:=iO hr hm' hx;refine⟨fun c=>?_,fun c=>?_⟩
 · have hb:(x.loc.toNat:Int)=x.loc/\x.loc.toNat<(ml k j (pre++post) e).frames.length:=by omega
   rw[c,<- hb.1] at hn;have hf:=(hr.zP x.loc.toNat hb.2).refs;have hg:=f6 x.loc.toNat
   by_cases d:e.kind=1/\e.loc=(x.loc.toNat:Int)
   · rw[aB d] at hg;rw[hg] at hf ⊢;unfold rR at hf ⊢;by_cases z:(aH k.frames x.loc.toNat).refs-1=0
     · rw[aB z] at hf;have:(bU (ml k j (pre++post) e).aj 1 (x.loc.toNat:Int)).length=0:=by
        have hf:(0:Int)=_:=hf;omega
       grind
     grind
   grind
 · have hb:x.kind=2/\(x.loc.toNat:Int)=x.loc/\x.loc.toNat<(ml k j (pre++post) e).slots.length:=by omega
   rw[hb.1,<- hb.2.1] at hn;have hf:=(hr.slt x.loc.toNat hb.2.2).refs;have hg:=f7 x.loc.toNat
   by_cases d:e.kind=2/\e.loc=(x.loc.toNat:Int)
   · rw[aB d] at hg;rw[hg] at hf ⊢;unfold uG at hf ⊢;by_cases z:(bE k.slots x.loc.toNat).refs-1=0
     · rw[aB z] at hf;have:(bU (ml k j (pre++post) e).aj 2 (x.loc.toNat:Int)).length=0:=by
        have hf:(0:Int)=_:=hf;omega
       grind
     grind
   grind
theorem mj {es:List bD} {p:Int} {e:bD} (h:bl es p=some e):e∈es:=Vt h
theorem NR {es:List bD} {p:Int} {e:bD} (h:bl es p=some e):e.page=p:=by
 have:=List.find?_some h
 grind
theorem xo {a b:aR} {m n:Nat} {p:Int} (hE:bl (ak a.aj m).bf p=bl (ak b.aj n).bf p) (hd:∀x,bl (ak a.aj m).bf p=some x->(x.kind=1->(aH a.frames x.loc.toNat).data=(aH b.frames x.loc.toNat).data)/\(x.kind≠1->(bE a.slots x.loc.toNat).data=(bE b.slots x.loc.toNat).data)) (hf:bl (ak a.aj m).bf p=none->fY a.aM p (aV (ak a.aj m).aT p).1.zero=fY b.aM p (aV (ak b.aj n).aT p).1.zero):bY a m p=bY b n p:=by
 grind [bY]
theorem abV {pre post:List bD} {e:bD} {p:Int} (h:e.page≠p):bl (pre++post) p=bl (pre++e::post) p:=by
 grind [bl]
theorem Zw {k:aR} (h:aW k) {j:Nat} (hj:j<k.aj.length) {pre post:List bD} {e:bD} (he:(ak k.aj j).bf=pre++e::post) {m:Nat} (hm:m<k.aj.length) {p:Int} (hp:m≠j∨e.page≠p):bY (ml k j (pre++post) e) m p=bY k m p:=by
 obtain⟨f1,f2,f3,f4,f5,f6,f7⟩:=Ef h hj he;have hs:bl (ak (ml k j (pre++post) e).aj m).bf p=bl (ak k.aj m).bf p/\(ak (ml k j (pre++post) e).aj m).aT=(ak k.aj m).aT:=by
  rw[f5,iI _ _ _ _ hj];by_cases c:j=m
  · subst c;rw[aB rfl];refine⟨?_,rfl⟩;show bl (pre++post) p=_
    grind [abV]
  grind
 grind [xo,Zx,mj]
theorem yY {k:aR} (h:aW k) {j:Nat} (hj:j<k.aj.length) (g:bD->Bool) {m:Nat} (hm:m<k.aj.length) {p:Int} (hp:m≠j∨∀e,bl (ak k.aj j).bf p=some e->g e=false):∀n,n<=(ak k.aj j).bf.length->bY (km (cU k (ak k.aj j).bf g n) j (fe ((ak k.aj j).bf.take n) g++(ak k.aj j).bf.drop n)) m p=bY k m p
 | 0,_=>by
  have:fe ((ak k.aj j).bf.take 0) g++(ak k.aj j).bf.drop 0=(ak k.aj j).bf:=rfl;rw[this];show bY (km k j (ak k.aj j).bf) m p=_
  grind [K9]
 | n+1,hn=>by
  have ih:=yY h hj g hm hp n (by omega);have hr:=wF h hj g n (by omega);have hlt:n<(ak k.aj j).bf.length:=by omega
  have Vy:j<(cU k (ak k.aj j).bf g n).aj.length:=by grind [kV]
  rw[Lr _ n hlt] at ih hr;rw[Lj _ g n hlt];unfold cU;cases c:g (aX (ak k.aj j).bf n) with
  | true =>
   rw[aB rfl,aB rfl,Dq,<- ih];have hl2:(km (cU k (ak k.aj j).bf g n) j (fe ((ak k.aj j).bf.take n) g++aX (ak k.aj j).bf n::(ak k.aj j).bf.drop (n+1))).aj.length=k.aj.length:=by
    show List.length (List.set _ _ _)=_
    grind [kV]
   have PL:m≠j∨(aX (ak k.aj j).bf n).page≠p:=by
    rcases hp with q | q
    · omega
    · refine .inr fun e=>?_
      have:=q _ ((gJ (h.sp hj).lT).2 ⟨jT hlt,e⟩)
      grind [aX]
   have:=Zw hr (by omega) (Q3 _ j Vy _) (m:=m) (by omega) PL;have e:ml (km (cU k (ak k.aj j).bf g n) j (fe ((ak k.aj j).bf.take n) g++aX (ak k.aj j).bf n::(ak k.aj j).bf.drop (n+1))) j (fe ((ak k.aj j).bf.take n) g++(ak k.aj j).bf.drop (n+1)) (aX (ak k.aj j).bf n)=km (dM (cU k (ak k.aj j).bf g n) (aX (ak k.aj j).bf n)) j (fe ((ak k.aj j).bf.take n) g++(ak k.aj j).bf.drop (n+1)):=by
    show dM (km (km _ j _) j _) _=_
    grind [K8,IJ]
   grind
  | false =>
   grind
theorem Aj {k:aR} (h:aW k) {j:Nat} (hj:j<k.aj.length) (g:bD->Bool) {m:Nat} (hm:m<k.aj.length) {p:Int} (hp:m≠j∨∀e,bl (ak k.aj j).bf p=some e->g e=false):bY (dH k j g) m p=bY k m p:=by
 have:=yY h hj g hm hp _ (aD _);rw[vQ,Vg,Dq] at this;exact this
theorem K7 (l:List cZ) (s:cZ) (m:Nat):ak (l++[s]) m=if m<l.length then ak l m else if m=l.length then s else rp:=by
 grind [ak]
theorem Lp {k:aR} (h:aW k) {j:Nat} (hj:j<k.aj.length) (m n:Nat) (hn:n<k.aj.length) (hm:ak (gM k j).aj m=ak k.aj n) (p:Int):bY (gM k j) m p=bY k n p:=by
 have F:=vD h hj;refine xo (by rw[hm]) (fun x hx=>?_) (fun _=>by rw[hm,F.aM]);rw[hm] at hx;have hb:=iO h hn (mj hx);exact⟨fun c=>by rw[F.zP x.loc.toNat (by omega)];rfl,fun c=>by rw[F.slt x.loc.toNat (by omega)];rfl⟩
theorem WK {k:aR} (h:aW k) {j:Nat} (hj:j<k.aj.length) {m:Nat} (hm:m<k.aj.length) (hne:m≠j) (p:Int):bY (jE k j) m p=bY k m p:=by
 rw[<- Aj h hj (fun _=>true) hm (.inl hne) (p:=p)]
 grind [ak,jE,xo]
theorem Zq {es:List bD} (hr:jJ es) (g:bD->Bool) (p:Int) (hp:∀e,bl es p=some e->g e=false):bl (fe es g) p=bl es p:=by
 grind [jJ,fe,bl,qQ,gJ]
theorem qE (k:aR) {j:Nat} (hj:j<k.aj.length) (l:List aY):(gI k j l).aM=k.aM/\(gI k j l).hand=k.hand/\(gI k j l).frames.length=k.frames.length/\(gI k j l).slots.length=k.slots.length/\(gI k j l).aj.length=k.aj.length/\∀m,m<k.aj.length->ak (gI k j l).aj m=if j=m then ⟨(ak k.aj j).live,l,fe (ak k.aj j).bf (jr l)⟩ else ak k.aj m:=by
 have hre:=mY k j (jr l);have hj':j<(dH k j (jr l)).aj.length:=by grind [gN]
 refine⟨hre.1,hre.2.1,hre.2.2.1,hre.2.2.2,?_,fun m hm=>?_⟩
 · show(List.set _ _ _).length=_
   grind [gN]
 · show ak (List.set _ _ _) m=_
   grind [iI,gN]
theorem IU {k:aR} (h:aW k) {j:Nat} (hj:j<k.aj.length) {l:List aY} (ht:xt (ak k.aj j).aT l) {m:Nat} (hm:m<k.aj.length) {p:Int} (hp:m≠j∨(aV l p).2=true):bY (gI k j l) m p=if m=j/\(aV (ak k.aj j).aT p).2=false then vC else bY k m p:=by
 obtain⟨a1,a2,a3,a4,a5,a6⟩:=qE k hj l;by_cases c:m=j
 · subst c;have hl:(aV l p).2=true:=by grind
   have hE:∀e,bl (ak k.aj m).bf p=some e->jr l e=false:=fun e he=>by
    grind [jr,NR]
   have hsp:ak (gI k m l).aj m=⟨(ak k.aj m).live,l,fe (ak k.aj m).bf (jr l)⟩:=by grind
   have hke:=Zq (h.sp hm).lT (jr l) p hE;rcases ht p hl with g | g
   · rw[au (by grind),<- Aj h hm (jr l) hm (.inr hE)]
     grind [ek,gN,iI,xo,gI]
   · rw[aB ⟨rfl,g.1⟩];unfold bY;rw[hsp];have:bl (fe (ak k.aj m).bf (jr l)) p=none:=by
      rw[hke];refine qQ.2 fun e he hpe=>?_
      have:=((h.sp hm).Mq e he).1
      grind
     grind [fY]
 · rw[au (fun x=>c x.1),<- Aj h hj (jr l) hm (.inl c) (p:=p)]
   grind [gI,iI,xo]
open Go.RowKit
open Go.RowKit
theorem uY {k:aR} (h:aW k) {j j0:Nat} (hj:j<k.aj.length) (YA:j0<k.aj.length) {p q:Int} {a b:Nat} (h1:bl (ak k.aj j).bf p=some ⟨p,1,a⟩) (h2:bl (ak k.aj j0).bf q=some ⟨q,1,b⟩) (hpq:q≠p):a≠b:=fun e=>by
 subst e;have m1:=ju hj (mj h1);have m2:=ju YA (mj h2);have hb:=iO h hj (mj h1);have hlt:a<k.frames.length:=by
  grind
 have:=(h.zP a hlt).one _ m1 _ m2
 grind
theorem Ec {k:aR} (h:aW k) {j0:Nat} (YA:j0<k.aj.length) {q:Int} {b:Nat} (h2:bl (ak k.aj j0).bf q=some ⟨q,1,b⟩):b<k.frames.length/\(aH k.frames b).refs≠0:=by
 have m2:=ju YA (mj h2);have hb:=iO h YA (mj h2);have hlt:b<k.frames.length:=by
  grind
 refine⟨hlt,fun z=>?_⟩;have:=(h.zP b hlt).nil z
 grind
theorem OP {k:aR} (h:aW k) {j:Nat} (hj:j<k.aj.length) {p:Int} (hp:dV k j p) {held:List Int} (hl:held.length<=2) {j0:Nat} (YA:j0<k.aj.length) {q:Int} {b:Nat} (h2:bl (ak k.aj j0).bf q=some ⟨q,1,b⟩) (hin:(b:Int)∈held) (hpq:q≠p):aH (dD k j p held).2.frames b=aH k.frames b:=by
 have hsp:=h.sp hj;have G:=tq h hl;have hH:=G.Qf b hin (Ec h YA h2).2;unfold dD;cases g:bl (ak k.aj j).bf p with
 | none =>
  dsimp only;have hent:bl (ak (bM k held).2.aj j).bf p=none:=by grind [uw.Mq]
  have hj':j<(bM k held).2.aj.length:=by rw[G.kept.np];exact hj
  have m:jW (bM k held).2 j p (bM k held).1 (fY (bM k held).2.aM p (oG (bM k held).2 j p)) false:=⟨G.right,hj',G.mapped hj hp,by rw[G.kept.nf];exact G.lt,G.free,Ed G.right hj' (G.mapped hj hp),fun _=>rfl⟩
  grind [oQ]
 | some e =>
  have he:=(gJ hsp.lT).1 g;dsimp only;by_cases c:e.kind=1
  · grind
  · rw[au c];have hb:=(iO h hj he.1).resolve_left (fun y=>c y.1);have hent:bl (ak (bM k held).2.aj j).bf p=some e:=by grind [uw.Mq]
    have hj':j<(bM k held).2.aj.length:=by rw[G.kept.np];exact hj
    have he':=(gJ (G.right.sp hj').lT).1 hent;have hsz:(bE (bM k held).2.slots e.loc.toNat).data.size=16:=(G.right.slt e.loc.toNat (by grind [uw.kept,fN.ns])).size (fun z=>by
     grind [ju])
    have m:jW (bM k held).2 j p (bM k held).1 (bE (bM k held).2.slots e.loc.toNat).data true:=⟨G.right,hj',G.mapped hj hp,by rw[G.kept.nf];exact G.lt,G.free,hsz,fun y=>by cases y⟩
    grind [oQ]
theorem TB {k:aR} (h:aW k) {j:Nat} (hj:j<k.aj.length) {p:Int} (hp:dV k j p) {a:Nat} (ha:bl (ak k.aj j).bf p=some ⟨p,1,a⟩) {held:List Int} (hl:held.length<=1) {j0:Nat} (YA:j0<k.aj.length) {q:Int} {b:Nat} (h2:bl (ak k.aj j0).bf q=some ⟨q,1,b⟩) (hin:(b:Int)∈held) (hpq:q≠p):aH (kP k j p a held).2.frames b=aH k.frames b:=by
 have hab:=uY h hj YA ha h2 hpq;have hat:=(Ec h hj ha).1;unfold kP;by_cases c:(aH k.frames a).refs=1
 · grind
 · rw[au c];have G:=tq h (held:=held++[(a:Int)]) (by grind);have hH:=G.Qf b (l5.2 (.inl hin)) (Ec h YA h2).2;obtain⟨g,hg⟩:=ex (bM k (held++[(a:Int)]));rw[<- hg] at G hH ⊢;have hent:bl (ak g.2.aj j).bf p=some ⟨p,1,a⟩:=G.stay h hj ha (fun _=>l5.2 (.inr (by simp)));have hj':j<g.2.aj.length:=by rw[G.kept.np];exact hj
   have he':=(gJ (G.right.sp hj').lT).1 hent;have hsz:(aH g.2.frames a).data.size=16:=(G.right.zP a (by rw[G.kept.nf];exact hat)).size (fun z=>by
    have:=ju hj' he'.1
    grind)
   have m:jW g.2 j p g.1 (aH g.2.frames a).data true:=⟨G.right,hj',G.mapped hj hp,by rw[G.kept.nf];exact G.lt,G.free,hsz,fun y=>by cases y⟩
   grind [oQ]
theorem Tx {k:aR} (h:aW k) {j:Nat} (hj:j<k.aj.length) {p:Int} (hp:dV k j p) (way:Int) {held:List Int} (hl:held.length<=1) {j0:Nat} (YA:j0<k.aj.length) {q:Int} {b:Nat} (h2:bl (ak k.aj j0).bf q=some ⟨q,1,b⟩) (hin:(b:Int)∈held) (hpq:q≠p):aH (dN k j p way held).2.frames b=aH k.frames b:=by
 have P:=Ah h hj hp (held:=held) (by omega);have PH:=OP h hj hp (held:=held) (by omega) YA h2 hin hpq;have hT:fW k j p held (iB k j p way held)/\aH (iB k j p way held).2.frames b=aH k.frames b:=by
  unfold iB;by_cases c:way=1
  · rw[aB c];have A:=Lu P.right (by rw[P.kept.np];exact hj) (P.kept.mapped hj hp) P.here hl;refine⟨P.trans A.1,?_⟩;rw[TB P.right (by rw[P.kept.np];exact hj) (P.kept.mapped hj hp) P.here hl (by rw[P.kept.np];exact YA) (P.stay j0 YA q _ h2 rfl hin (fun x=>hpq x.2)) hin hpq];exact PH
  grind
 have T:=hT.1;have hne:=uY T.right (by rw[T.kept.np];exact hj) (by rw[T.kept.np];exact YA) T.here (T.stay j0 YA q _ h2 rfl hin (fun x=>hpq x.2)) hpq;show aH ((iB k j p way held).2.frames.set _ _) b=_
 grind [jU,fW.kept,fN.nf,fW.lt]
structure tv (k:aR) (j:Nat) (p:Int) (i:Nat):Prop where
 here:bl (ak k.aj j).bf p=some ⟨p,1,i⟩
 lt:i<k.frames.length
 refs:(aH k.frames i).refs=1
 jG:(aH k.frames i).jG=true
theorem Q4 {k:aR} (h:aW k) {j:Nat} (hj:j<k.aj.length) (a n:Int) (h1:dV k j (a/16)) (h2:dV k j (cB a n)):tv (aZ k j a n 1).2 j (a/16) (fp k j a 1).1/\(cB a n≠a/16->tv (aZ k j a n 1).2 j (cB a n) (kI k j a n 1).1):=by
 have R:=od h hj a n 1 h1 h2;obtain⟨A,A2⟩:=rq h hj h1 1 (held:=[]) (by simp);have A2:=A2 rfl;by_cases c:cB a n=a/16
 · have e:aZ k j a n 1=([(fp k j a 1).1],(fp k j a 1).2):=by grind [aZ]
   refine⟨?_,fun x=>absurd c x⟩;rw[e];exact⟨A.here,by have:=A.kept.nf;have:=A.lt;show(dN k j (a/16) 1 []).1<(dN k j (a/16) 1 []).2.frames.length;omega,A2.1,A2.2⟩
 · have hj':j<(fp k j a 1).2.aj.length:=by grind [fp,fW.kept,fN.np]
   have hm':=A.kept.mapped hj h2;obtain⟨B,B2⟩:=rq (k:=(fp k j a 1).2) A.right hj' hm' 1 (held:=[((fp k j a 1).1:Int)]) (by simp);have B2:=B2 rfl;have hh:=Tx (k:=(fp k j a 1).2) A.right hj' hm' 1 (held:=[((fp k j a 1).1:Int)]) (by simp) hj' A.here (by simp[fp]) (fun x=>c x.symm);have e:aZ k j a n 1=([(fp k j a 1).1,(kI k j a n 1).1],(kI k j a n 1).2):=by grind [aZ]
   have hB:kI k j a n 1=dN (fp k j a 1).2 j (cB a n) 1 [((fp k j a 1).1:Int)]:=rfl;have hlen:(kI k j a n 1).2.frames.length=k.frames.length:=by rw[hB,B.kept.nf];exact A.kept.nf
   rw[e];refine⟨⟨?_,?_,?_,?_⟩,fun _=>⟨?_,?_,?_,?_⟩⟩
   · grind [fp,fW.stay,fW.here]
   · show(fp k j a 1).1<(kI k j a n 1).2.frames.length;rw[hlen];exact A.lt
   · grind [fp]
   · grind [fp]
   · exact B.here
   · show(kI k j a n 1).1<(kI k j a n 1).2.frames.length;rw[hlen];have:=B.lt
     grind [fW.kept,fN.nf]
   · grind
   grind
def wD (k:aR) (i:Nat) (d:ByteArray):aR:={ k with frames:=k.frames.set i ⟨d,(aH k.frames i).refs,(aH k.frames i).jG,(aH k.frames i).seen⟩ }
theorem Cr {k:aR} (h:aW k) {j:Nat} (hj:j<k.aj.length) {p:Int} {i:Nat} (a:tv k j p i) {d:ByteArray} (hd:d.size=16):aW (wD k i d):=by
 have hf:=h.zP i a.lt;refine h.frame ⟨hf.refs,fun e=>?_,hf.one,fun _=>hd,fun x=>?_⟩
 · have:=hf.refs
   grind [tv.refs]
 grind [tv.jG]
theorem Ea {k:aR} (h:aW k) {j:Nat} (hj:j<k.aj.length) {p:Int} {i:Nat} (a:tv k j p i) (d:ByteArray) {m:Nat} (hm:m<k.aj.length) (q:Int):bY (wD k i d) m q=if m=j/\q=p then d else bY k m q:=by
 have at_:∀n,aH (wD k i d).frames n=if i=n then ⟨d,(aH k.frames i).refs,(aH k.frames i).jG,(aH k.frames i).seen⟩ else aH k.frames n:=fun n=>jU _ _ _ _ a.lt
 by_cases c:m=j/\q=p
 · grind [bY,aH,wD,tv.here]
 · rw[au c];refine xo rfl (fun x hx=>⟨fun hk=>?_,fun _=>rfl⟩) (fun _=>rfl);have hx:bl (ak k.aj m).bf q=some x:=hx;rw[at_];by_cases e:i=x.loc.toNat
   · exfalso;have m1:x∈(ak k.aj m).bf:=mj hx;have hb:=(iO h hm m1).resolve_right (fun y=>by omega);have hxl:x.loc=(i:Int):=by omega
     have e2:x=⟨q,1,i⟩:=by
      have:=NR hx;obtain⟨a1,a2,a3⟩:=x
      grind
     rw[e2] at hx;have hpq:q=p:=by
      by_cases z:q=p
      · exact z
      · exact absurd rfl (uY h hj hm a.here hx z)
     have hmj:m≠j:=fun z=>c ⟨z,hpq⟩
     have hr:=(h.zP i a.lt).refs;rw[a.refs] at hr;have two:2<=(bU k.aj 1 i).length:=by
      have key:∀(l:List cZ) (a b:Nat),a<b->b<l.length->(fJ (ak l a) 1 i)≠[]->(fJ (ak l b) 1 i)≠[]->2<=(bU l 1 i).length:=fun l=>by
       induction l with
       | nil=>grind
       | cons s r ih =>
        intro a b hab hb h1 h2;rw[kT,fM];cases a with
        | zero =>
         have h1':1<=(fJ s 1 i).length:=List.length_pos_iff.2 h1;obtain⟨b',rfl⟩:∃b',b=b'+1:=⟨b-1,by omega⟩;have h2':fJ (ak r b') 1 i≠[]:=h2;have:1<=(bU r 1 i).length:=by
          obtain⟨y,hy⟩:=J4 _ h2';refine List.length_pos_iff.2 fun z=>?_
          have:y∈bU r 1 i:=vO.2 ⟨_,Bn (by grind),hy⟩
          grind
         omega
        | succ a =>
         obtain⟨b',rfl⟩:∃b',b=b'+1:=⟨b-1,by omega⟩;have:=ih a b' (by omega) (by grind) h1 h2;omega
      have n1:fJ (ak k.aj j) 1 i≠[]:=fun z=>by
       have:(_:Int×Bool)∈fJ (ak k.aj j) 1 i:=uE.2 ⟨_,mj a.here,rfl,rfl,rfl⟩
       grind
      have n2:fJ (ak k.aj m) 1 i≠[]:=fun z=>by
       have:(_:Int×Bool)∈fJ (ak k.aj m) 1 i:=uE.2 ⟨_,mj hx,rfl,rfl,rfl⟩
       grind
      grind
     omega
   grind
def nO (f:Int->ByteArray) (a n:Int):ByteArray:=if cB a n=a/16 then f (a/16) else f (a/16)++f (cB a n)
def uF (f:Int->ByteArray) (a n:Int):ByteArray:=(nO f a n).extract (a%16).toNat ((a%16).toNat+n.toNat)
def wE (f:Int->ByteArray) (a:Int) (d:ByteArray):ByteArray:=iD (nO f a d.size) (a%16).toNat d
def nu (f:Int->ByteArray) (a:Int) (d:ByteArray) (p:Int):ByteArray:=if p=a/16 then (wE f a d).extract 0 16 else if p=cB a d.size then (wE f a d).extract 16 32 else f p
def iP (fs:List lV) (ids:List Nat):Nat->ByteArray
 | 0=>⟨#[]⟩
 | n+1=>iP fs ids n++(aH fs (ids.getD n 0)).data
def lK (k:aR) (ids:List Nat) (s:ByteArray):Nat->aR
 | 0=>k
 | n+1=>wD (lK k ids s n) (ids.getD n 0) (s.extract (n*16) (n*16+16))
def mi (k:aR) (j:Nat) (a n way:Int):ByteArray:=(iP (aZ k j a n way).2.frames (aZ k j a n way).1 (aZ k j a n way).1.length).extract (a%16).toNat ((a%16).toNat+n.toNat)
def lJ (k:aR) (j:Nat) (a:Int) (d:ByteArray):aR:=lK (aZ k j a d.size 1).2 (aZ k j a d.size 1).1 (iD (iP (aZ k j a d.size 1).2.frames (aZ k j a d.size 1).1 (aZ k j a d.size 1).1.length) (a%16).toNat d) (aZ k j a d.size 1).1.length
theorem Ll {k:aR} {j:Nat} {p:Int} {i:Nat} (h:bl (ak k.aj j).bf p=some ⟨p,1,i⟩):bY k j p=(aH k.frames i).data:=by
 grind [bY]
theorem xW {k:aR} (h:aW k) {j:Nat} (hj:j<k.aj.length) (a n way:Int) (h1:dV k j (a/16)) (h2:dV k j (cB a n)):iP (aZ k j a n way).2.frames (aZ k j a n way).1 (aZ k j a n way).1.length=nO (bY k j) a n:=by
 have R:=od h hj a n way h1 h2;have p1:=R.kept.Ou j hj (a/16);have p2:=R.kept.Ou j hj (cB a n);rw[Ll R.one.1] at p1;unfold nO;rw[<- p1,<- p2];by_cases c:cB a n=a/16
 · rw[aB c];have e:(aZ k j a n way).1=[(fp k j a way).1]:=by grind [aZ]
   rw[e];rfl
 · rw[au c,Ll (R.two c).1];have e:(aZ k j a n way).1=[(fp k j a way).1,(kI k j a n way).1]:=by grind [aZ]
   rw[e];rfl
theorem xq {k:aR} (h:aW k) {j:Nat} (hj:j<k.aj.length) (a n way:Int) (h1:dV k j (a/16)) (h2:dV k j (cB a n)):mi k j a n way=uF (bY k j) a n:=by
 grind [mi,uF,xW]
theorem pH {k:aR} (h:aW k) {j:Nat} (hj:j<k.aj.length) {p:Int} (hp:dV k j p):(bY k j p).size=16:=by
 unfold bY;cases g:bl (ak k.aj j).bf p with
 | none=>exact Ed h hj hp
 | some e =>
  have hb:=iO h hj (mj g);have hn:=ju hj (mj g);dsimp only;rcases hb with b | b
  · rw[aB b.1];exact(h.zP _ b.2.2).size (fun z=>by grind)
  grind [aW.slt,oV.size]
open Go.RowKit
theorem Lg (s:ByteArray) (q:Nat) (t:ByteArray) (h:q+t.size<=s.size):(iD s q t).size=s.size:=by
 have h1:(iD s q t).size=(iD s q t).data.toList.length:=by simp
 have h2:s.size=s.data.toList.length:=by simp
 have h3:t.size=t.data.toList.length:=by simp
 grind [iD]
theorem Br (s:ByteArray) (a b:Nat) (h:b<=s.size) (hab:a<=b):(s.extract a b).size=b-a:=by
 simp_all
theorem MK {a n:Int} (h1:1<=n) (h8:n<=8):(cB a n=a/16/\a%16+n<=16)∨(cB a n=a/16+1/\16<a%16+n):=by
 grind [cB]
structure Eg (f:Int->ByteArray) (a n:Int):Prop where
 one:(f (a/16)).size=16
 two:(f (cB a n)).size=16
theorem zz {f:Int->ByteArray} {a n:Int} (h:Eg f a n) (h1:1<=n) (h8:n<=8):((nO f a n).size:Int)=if cB a n=a/16 then 16 else 32:=by
 grind [nO,Eg.one,Eg.two]
theorem Bq {f:Int->ByteArray} {a n:Int} (h:Eg f a n) (h1:1<=n) (h8:n<=8):(a%16).toNat+n.toNat<=(nO f a n).size:=by
 grind [zz,MK]
theorem WG {f:Int->ByteArray} {a n:Int} (h:Eg f a n) (h1:1<=n) (h8:n<=8):(uF f a n).size=n.toNat:=by
 grind [uF,Br,Bq]
theorem WI {f:Int->ByteArray} {a:Int} {d:ByteArray} (h:Eg f a d.size) (h1:1<=(d.size:Int)) (h8:(d.size:Int)<=8):((wE f a d).size:Int)=if cB a d.size=a/16 then 16 else 32:=by
 unfold wE;rw[Lg _ _ _ (by have:=Bq h h1 h8;omega)]
 grind [zz]
structure MM (k:aR) (j:Nat) (a:Int) (d:ByteArray) (r:aR):Prop where
 right:aW r
 aM:r.aM=k.aM
 nf:r.frames.length=k.frames.length
 ns:r.slots.length=k.slots.length
 np:r.aj.length=k.aj.length
 live:∀m,m<k.aj.length->(ak r.aj m).live=(ak k.aj m).live
 aT:∀m,m<k.aj.length->(ak r.aj m).aT=(ak k.aj m).aT
 Ou:∀m,m<k.aj.length->∀p,bY r m p=if m=j then nu (bY k j) a d p else bY k m p
theorem wy {k:aR} (h:aW k) {j:Nat} (hj:j<k.aj.length) (a:Int) (d:ByteArray) (hd1:1<=(d.size:Int)) (hd8:(d.size:Int)<=8) (h1:dV k j (a/16)) (h2:dV k j (cB a d.size)):MM k j a d (lJ k j a d):=by
 have R:=od h hj a d.size 1 h1 h2;have A:=Q4 h hj a d.size h1 h2;have hP:Eg (bY k j) a d.size:=⟨pH h hj h1,pH h hj h2⟩;have hL:=WI hP hd1 hd8;have PL:=MK (a:=a) hd1 hd8;unfold lJ;rw[xW h hj a d.size 1 h1 h2];obtain⟨s,hs⟩:=ex (wE (bY k j) a d);have hs':iD (nO (bY k j) a d.size) (a%16).toNat d=s:=hs.symm;rw[hs'];rw[<- hs] at hL;obtain⟨K,hK⟩:=ex ((aZ k j a d.size 1).2);have hr:=R.right;have Fl:=R.kept;rw[<- hK] at hr Fl A ⊢;have hjK:j<K.aj.length:=by grind [fN.np]
 by_cases c:cB a d.size=a/16
 · have e:(aZ k j a d.size 1).1=[(fp k j a 1).1]:=by grind [aZ]
   rw[e];show MM k j a d (wD K (fp k j a 1).1 (s.extract (0*16) (0*16+16)));rw[aB c] at hL;have hz:(s.extract (0*16) (0*16+16)).size=16:=Br _ _ _ (by omega) (by omega);refine⟨Cr hr hjK A.1 hz,Fl.aM,by show(List.set _ _ _).length=_;grind [fN.nf],Fl.ns,Fl.np,Fl.live,Fl.aT,fun m hm p=>?_⟩
   grind [Ea,nu,fN.np,fN.Ou]
 · have e:(aZ k j a d.size 1).1=[(fp k j a 1).1,(kI k j a d.size 1).1]:=by grind [aZ]
   rw[e];show MM k j a d (wD (wD K (fp k j a 1).1 (s.extract (0*16) (0*16+16))) (kI k j a d.size 1).1 (s.extract (1*16) (1*16+16)));rw[au c] at hL;have hz:(s.extract (0*16) (0*16+16)).size=16:=Br _ _ _ (by omega) (by omega);have hy:(s.extract (1*16) (1*16+16)).size=16:=Br _ _ _ (by omega) (by omega);have A2:=A.2 c;have hne:=uY hr hjK hjK A.1.here A2.here c;have r1:=Cr hr hjK A.1 hz;have B:tv (wD K (fp k j a 1).1 (s.extract (0*16) (0*16+16))) j (cB a d.size) (kI k j a d.size 1).1:=by
    have at_:aH (wD K (fp k j a 1).1 (s.extract (0*16) (0*16+16))).frames (kI k j a d.size 1).1=aH K.frames (kI k j a d.size 1).1:=by
     show aH (List.set _ _ _) _=_
     grind [jU,tv.lt]
    exact⟨A2.here,by show _<(List.set _ _ _).length;rw[fC];exact A2.lt,by grind [tv.refs],by grind [tv.jG]⟩
   refine⟨Cr r1 hjK B hy,Fl.aM,by show(List.set (List.set _ _ _) _ _).length=_;grind [fN.nf],Fl.ns,Fl.np,Fl.live,Fl.aT,fun m hm p=>?_⟩;have hmK:m<K.aj.length:=by grind [fN.np]
   rw[Ea r1 hjK B _ (m:=m) hmK,Ea hr hjK A.1 _ hmK]
   grind [nu,fN.Ou]
open Go.RowKit
structure kr where
 i:wV
 a:Kk
 base:Int
def ake:kr:=⟨⟨⟨#[]⟩,[],[],[],[],0⟩,⟨none,0,none,0,none,0,none,0⟩,0⟩
def dR (l:List kr) (k:Nat):kr:=l.getD k ake
def px (o:kr):Array Value:=#[.string o.i.name,.slice o.a.an o.i.needs.length o.a.cn,.slice o.a.ag o.i.jK.length o.a.cg,.slice o.a.ay o.i.syms.length o.a.cy,.slice o.a.ar o.i.qd.length o.a.cr,I o.i.entry,I o.base]
def PT (w:World) (b off:Nat) (l:List kr):Prop:=∀k,k<l.length ->
 (w.cell? (Ad b (off+k*7))=some (.string (dR l k).i.name)/\w.cell? (Ad b (off+k*7+1))=some (.slice (dR l k).a.an (dR l k).i.needs.length (dR l k).a.cn) /\
  w.cell? (Ad b (off+k*7+2))=some (.slice (dR l k).a.ag (dR l k).i.jK.length (dR l k).a.cg)/\w.cell? (Ad b (off+k*7+3))=some (.slice (dR l k).a.ay (dR l k).i.syms.length (dR l k).a.cy) /\
  w.cell? (Ad b (off+k*7+4))=some (.slice (dR l k).a.ar (dR l k).i.qd.length (dR l k).a.cr)/\w.cell? (Ad b (off+k*7+5))=some (I (dR l k).i.entry)/\w.cell? (Ad b (off+k*7+6))=some (I (dR l k).base))/\qm w (dR l k).a (dR l k).i
theorem ah8 {w w':World} {b off:Nat} {l:List kr} (hb:Below w.heap.size w w') (hlt:b<w.heap.size) (h:PT w b off l):PT w' b off l:=fun k hk=>by
 obtain⟨⟨c0,c1,c2,c3,c4,c5,c6⟩,hi⟩:=h k hk
 grind [cM,qm.below]
def KM (w:World) (ao:Option Addr) (l:List kr):Prop:=gU PT w ao l
theorem KM.below {w w':World} {ao:Option Addr} {l:List kr} (h:KM w ao l) (hb:Below w.heap.size w w'):KM w' ao l:=gU.below (lie:=PT) (fun hb hlt h=>ah8 hb hlt h) h hb
def xh (i:wV):pR:=eN i.jK (i.jK.length-1)
def xU (o:kr):Int:=o.base+(xh o.i).page+(xh o.i).aQ
def yq (o:kr) (Yj:Int):Int:=o.base*16+Yj
def vW (s:pR):Int:=if s.wr then (if s.ex then 3 else 1) else (if s.ex then 2 else 0)
theorem xQ {i:wV} (hc:mC i=0) (k:Nat) (hk:k<i.jK.length):0<=(eN i.jK k).page/\1<=(eN i.jK k).aQ/\(eN i.jK k).page+(eN i.jK k).aQ<=255/\((eN i.jK k).data.size:Int)<=(eN i.jK k).aQ*16:=by
 unfold mC at hc;split at hc
 · omega
 · split at hc
   · omega
   · split at hc
     · omega
     · rename_i h
       have h':Mw i=true:=by grind
       unfold Mw at h';have:=Qp lC Ii i.jK k hk h';unfold lC at this;exact o5 this
theorem wk {i:wV} (hc:mC i=0):1<=i.jK.length/\i.jK.length<=6/\i.needs.length<=4/\i.syms.length<=12/\i.qd.length<=16:=by
 grind [mC,CS]
theorem Fv {i:wV} (hc:mC i=0):0<=(xh i).page/\1<=(xh i).aQ/\(xh i).page+(xh i).aQ<=255:=by
 have h1:=wk hc;have h2:=xQ hc (i.jK.length-1) (by omega);exact⟨h2.1,h2.2.1,h2.2.2.1⟩
open Go.RowKit
theorem aA {p:Prop} (h:p):Hid p:=h
theorem l7 {a b:Bool} (h:a=b):Ending.returned (.bool a)=.returned (.bool b):=by rw[h]
theorem Ke (n:Int) (w:World):Calls Tryz.prog 220 #[.int .u8 n] w fun e w'=>e=.returned (.bool (uT n))/\w=w':=by
 by_cases h1:97<=n/\n<=122
 · have e:uT n=true:=by grind [uT]
   rw[e];obtain⟨a,b⟩:=h1;go_enter Tryz.func220,Tryz.ntmps220;go_wp2;go_ret
   simp_all
 · by_cases h2:48<=n/\n<=57
   · have e:uT n=true:=by grind [uT]
     rw[e];obtain⟨a,b⟩:=h2;have c:decide (97<=n)=false:=by grind
     clear h1;go_enter Tryz.func220,Tryz.ntmps220;go_wp2;go_ret
     simp_all
   · by_cases h3:n=95
     · subst h3;go_enter Tryz.func220,Tryz.ntmps220;go_wp2;go_ret;exact⟨rfl,rfl⟩
     · have e:uT n=false:=by grind [uT]
       rw[e];have h3':(n==95)=false:=by grind
       by_cases a:97<=n
       · have b:decide (n<=122)=false:=by grind
         have c:48<=n:=by omega
         have d:decide (n<=57)=false:=by grind
         clear h1 h2;go_enter Tryz.func220,Tryz.ntmps220;go_wp2;go_ret
         simp_all
       · by_cases c:48<=n
         · have d:decide (n<=57)=false:=by grind
           clear h1 h2;go_enter Tryz.func220,Tryz.ntmps220;go_wp2;go_ret
           simp_all
         · clear h1 h2;go_enter Tryz.func220,Tryz.ntmps220;go_wp2;go_ret
           simp_all
theorem VC (s:ByteArray) (w:World) (hs:b7 s.size):Calls Tryz.prog 200 #[.string s] w fun e w'=>e=.returned (.bool (uU s))/\w=w':=by
 unfold b7 at hs;by_cases h1:1<=s.size
 · by_cases h2:s.size<=12
   · have d1:¬(s.size:Int)<1:=by omega
     have d2:¬12<(s.size:Int):=by omega
     go_enter Tryz.func200,Tryz.ntmps200;go_wp2
     go_loop [14] (fun i=>∃k:Nat,k<=s.size/\i=I k/\∀j (hj:j<s.size),j<k->uT s[j].toNat=true) (fun i=>s.size-(intOf i).toNat)
     case atStart=>exact⟨0,by omega,rfl,fun j _ h=>by omega⟩
     case round =>
      obtain⟨k,hk,rfl,hall⟩:=hrel;have HA:=aA hall;clear hall;by_cases hlt:k<s.size
      · cases hc:uT s[k].toNat
        · have HR:=aA (adV s k hlt hc);go_wp2_with (go_at_call 220;refine(Ke _ _).mono ?_;rintro e w' ⟨rfl,rfl⟩;rw[hc])
          go_ret;exact⟨l7 HR.o.symm,rfl⟩
        · have HC:=aA hc;go_wp2_with (go_at_call 220;refine(Ke _ _).mono ?_;rintro e w' ⟨rfl,rfl⟩;rw[hc])
          grind [intOf,Hid.o]
      · obtain rfl:k=s.size:=by omega
        have HR:=aA (abj s h1 h2 (fun k hk=>HA.o k hk hk));go_wp2;go_ret;exact⟨l7 HR.o.symm,rfl⟩
   · have HR:=aA (Qo s (fun h=>h2 h.2));have d1:¬(s.size:Int)<1:=by omega
     have d2:12<(s.size:Int):=by omega
     go_enter Tryz.func200,Tryz.ntmps200;go_wp2;go_ret;exact⟨l7 HR.o.symm,rfl⟩
 · have HR:=aA (Qo s (fun h=>h1 h.1));have d1:(s.size:Int)<1:=by omega
   go_enter Tryz.func200,Tryz.ntmps200;go_wp2;go_ret;exact⟨l7 HR.o.symm,rfl⟩
open Go.RowKit
open Go.RowKit
open Go.RowKit
theorem J9 (i:wV) (a:Kk) (w:World) (hf:Kj i):Calls Tryz.prog 159 #[.agg (jM a i)] w fun e w'=>e=.returned (.bool (CS i))/\Below w.heap.size w w':=by
 obtain⟨an,cn,ag,cg,ay,cy,ar,cr⟩:=a;obtain⟨nm,ns,gs,ys,rs,en⟩:=i;obtain⟨f1,f2,f3,f4,f5,f6,f7,f8,f9,f10⟩:=hf;simp only at f2 f4 f6 f8;unfold b7 at f2 f4 f6 f8;simp only[jM,CS];have gB:∀o,Hid (Below w.heap.size w (w.alloc o)):=fun o=>(aK w.heap.size w).alloc (aD _) o
 obtain⟨r,hr⟩:=ex (decide (1<=gs.length/\gs.length<=6/\ns.length<=4/\ys.length<=12/\rs.length<=16));rw[<- hr];have HR:=aA hr;clear hr f1 f3 f5 f7 f9 f10;obtain⟨ln,hln⟩:∃n,n=ns.length:=⟨_,rfl⟩;obtain⟨lg,hlg⟩:∃n,n=gs.length:=⟨_,rfl⟩;obtain⟨ly,hly⟩:∃n,n=ys.length:=⟨_,rfl⟩;obtain⟨lr,hlr⟩:∃n,n=rs.length:=⟨_,rfl⟩;rw[<- hln,<- hlg,<- hly,<- hlr] at HR;rw[<- hln,<- hlg,<- hly,<- hlr];rw[<- hln] at f2;rw[<- hlg] at f4;rw[<- hly] at f6;rw[<- hlr] at f8;clear hln hlg hly hlr;by_cases d1:1<=(lg:Int)
 · by_cases d2:(lg:Int)<=6
   · by_cases d3:(ln:Int)<=4
     · by_cases d4:(ly:Int)<=12
       · by_cases d5:(lr:Int)<=16
         · have e:r=true:=by grind [Hid.o]
           subst e;go_enter Tryz.func159,Tryz.ntmps159;go_wp2;go_ret;exact⟨rfl,(gB _).out⟩
         · have e:r=false:=by grind [Hid.o]
           subst e;go_enter Tryz.func159,Tryz.ntmps159;go_wp2;go_ret;exact⟨rfl,(gB _).out⟩
       · have e:r=false:=by grind [Hid.o]
         subst e;go_enter Tryz.func159,Tryz.ntmps159;go_wp2;go_ret;exact⟨rfl,(gB _).out⟩
     · have e:r=false:=by grind [Hid.o]
       subst e;go_enter Tryz.func159,Tryz.ntmps159;go_wp2;go_ret;exact⟨rfl,(gB _).out⟩
   · have e:r=false:=by grind [Hid.o]
     subst e;go_enter Tryz.func159,Tryz.ntmps159;go_wp2;go_ret;exact⟨rfl,(gB _).out⟩
 · have e:r=false:=by grind [Hid.o]
   subst e;have q4:decide ((1:Int)<=(lg:Int))=false:=jq d1;obtain rfl:lg=0:=by omega
   go_enter Tryz.func159,Tryz.ntmps159;go_wp2;go_ret;exact⟨rfl,(gB _).out⟩
theorem J8 (l:List pR) (ao:Option Addr) (cap:Nat) (w:World) (h:gU zW w ao l) (hn:b7 l.length) (hf:∀k,k<l.length->afS (eN l k)) :
  Calls Tryz.prog 160 #[.slice ao l.length cap] w fun e w'=>e=.returned (.bool (l.all lC))/\Below w.heap.size w w':=by
 unfold b7 at hn;have H:=aA h;have F:=aA hf;clear h hf;go_enter Tryz.func160,Tryz.ntmps160;go_wp2;go_loopw [7] (fun i wr=>∃k:Nat,k<=l.length/\i=I k/\(∀j,j<k->lC (eN l j)=true)/\Below w.heap.size w wr) (fun i _=>l.length-(intOf i).toNat)
 case atStart=>grind [Below.refl]
 case round =>
  obtain⟨k,hk,rfl,hall,hb⟩:=hrel;have HA:=aA hall;have HB:=aA hb;clear hall;by_cases hlt:k<l.length
  · obtain⟨b,off,hao,hbl,hl⟩:=H.o (by omega);subst hao;obtain⟨c0,c1,c2,c3,c4⟩:=zV hb hbl hl k hlt;obtain⟨g1,g2,g3⟩:=F.o k hlt;obtain⟨s,hs⟩:=ex (eN l k);rw[<- hs] at c0 c1 c2 c3 c4 g1 g2 g3;have HS:=aA hs;clear hs hb hl;obtain⟨p,n,d,x,y⟩:=s;simp only at c0 c1 c2 c3 c4 g1 g2 g3;unfold cN at g1 g2;unfold b7 at g3;have Us:(k:Int)<(l.length:Int):=by omega
    have hbad:Hid (¬(0<=p/\1<=n/\p+n<=255/\(d.size:Int)<=n*16)->l.all lC=false):=fun hx =>
     Nq lC Ii l k hlt (by show lC (eN l k)=false;rw[<- HS.o];exact jq hx)
    by_cases d1:0<=p
    · have d1':¬p<0:=by omega
      by_cases d2:1<=n
      · have d2':¬n<1:=by omega
        by_cases d3:p+n<=255
        · have d3':¬255-p<n:=by omega
          by_cases d4:(d.size:Int)<=n*16
          · have d4':¬n*16<(d.size:Int):=by omega
            have al9:Hid (lC ⟨p,n,d,x,y⟩=true):=ic ⟨d1,d2,d3,d4⟩;go_wp2;go_roundw
            case rel=>exact⟨k+1,by omega,by go_num,fun j h=>if e:j=k then by rw[e,<- HS.o];exact al9.out else HA.o j (by omega),HB.o.alloc HB.o.size _⟩
            case measure=>simp[intOf];omega
          · have d4':n*16<(d.size:Int):=by omega
            have HR:=aA (hbad.out (by omega));go_wp2;go_ret;exact⟨l7 HR.o.symm,HB.o.alloc HB.o.size _⟩
        · have d3':255-p<n:=by omega
          have HR:=aA (hbad.out (by omega));go_wp2;go_ret;exact⟨l7 HR.o.symm,HB.o.alloc HB.o.size _⟩
      · have d2':n<1:=by omega
        have HR:=aA (hbad.out (by omega));go_wp2;go_ret;exact⟨l7 HR.o.symm,HB.o.alloc HB.o.size _⟩
    · have d1':p<0:=by omega
      have HR:=aA (hbad.out (by omega));go_wp2;go_ret;exact⟨l7 HR.o.symm,HB.o.alloc HB.o.size _⟩
  · obtain rfl:k=l.length:=by omega
    have HR:=aA (Jm lC Ii l (fun j hj=>HA.o j hj));clear hb;go_wp2;go_ret;exact⟨l7 HR.o.symm,HB.o⟩
end Go.Proofs.YtlgoihmkgaaemaaGreat
