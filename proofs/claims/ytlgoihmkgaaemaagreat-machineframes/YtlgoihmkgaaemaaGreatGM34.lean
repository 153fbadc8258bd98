import Derived.Test.YtlgoihmkgaaemaaGreatGM33
set_option maxHeartbeats 20000000
set_option linter.unusedVariables false
set_option maxRecDepth 100000
set_option linter.unusedSimpArgs false
namespace Go.Proofs.YtlgoihmkgaaemaaGreat
open Go.RowKit
structure tZ where
 live:Bool
 aT:List aX
 pg:Int->ByteArray
structure wL where
 slots:Int
 Ct:List tZ
def Gd:tZ:=⟨false,[],fun _=>⟨#[]⟩⟩
def ig (l:List tZ) (j:Nat):tZ:=l.getD j Gd
def mG (ar:List aX) (f:Int->ByteArray) (p:Int):ByteArray:=if (aW ar p).2=true then f p else ⟨#[]⟩
def zU (old new:List aX) (f:Int->ByteArray) (p:Int):ByteArray:=if (aW new p).2=true then (if (aW old p).2=true then f p else uV) else ⟨#[]⟩
def px:List tZ->Int
 | []=>0
 | s::r=>bg s.aT+px r
def xM (A:wL) (j:Nat) (s:tZ):wL:=⟨A.slots,A.Ct.set j s⟩
def Ga (A:wL) (j:Nat) (a n way:Int):(ByteArray×(Int×Int))×wL :=
 if (bN (ig A.Ct j).aT a n way).1=0 then ((uj (ig A.Ct j).pg a n,(0,0)),A) else ((⟨#[]⟩,bN (ig A.Ct j).aT a n way),A)
def CL (A:wL) (j:Nat) (a:Int) (d:ByteArray):(Int×Int)×wL :=
 if (bN (ig A.Ct j).aT a d.size 1).1=0 then ((0,0),xM A j ⟨(ig A.Ct j).live,(ig A.Ct j).aT,nj (ig A.Ct j).pg a d⟩) else (bN (ig A.Ct j).aT a d.size 1,A)
def pq (A:wL) (j:Nat) (r:List aX×Int) (n:Int):Int×wL :=
 if ¬r.2=0 then (r.2,A) else if A.slots<px A.Ct+n then (8,A) else (0,xM A j ⟨(ig A.Ct j).live,r.1,zU (ig A.Ct j).aT r.1 (ig A.Ct j).pg⟩)
def Gc (A:wL) (j:Nat):Int×wL :=
 if 4<=A.Ct.length then (2,A) else if A.slots<px A.Ct+bg (ig A.Ct j).aT then (8,A) else (0,⟨A.slots,A.Ct++[ig A.Ct j]⟩)
def Zz:gN wL:=⟨Ga,CL,fun A j p n q=>pq A j (dD (ig A.Ct j).aT p n q) n,fun A j p n=>pq A j (cN (ig A.Ct j).aT p n) 0,fun A j p n q=>pq A j (bR (ig A.Ct j).aT p n q) 0,Gc,fun A j=>xM A j Gd⟩
theorem NC {f g:Int->ByteArray} {a n:Int} (h1:f (a/16)=g (a/16)) (h2:f (cj a n)=g (cj a n)):nI f a n=nI g a n:=by grind [nI]
theorem NB {f g:Int->ByteArray} {a n:Int} (h1:f (a/16)=g (a/16)) (h2:f (cj a n)=g (cj a n)):uj f a n=uj g a n:=by unfold uj;rw[NC h1 h2]
theorem Iu {ar:List aX} {f:Int->ByteArray} {a:Int} {d:ByteArray} (h1:(aW ar (a/16)).2=true) (h2:(aW ar (cj a d.size)).2=true):nj (mG ar f) a d=mG ar (nj f a d):=by
 funext p;have e:vR (mG ar f) a d=vR f a d:=by
  unfold vR;rw[NC (g:=f) (by grind [mG]) (by grind [mG])]
 grind [nj,mG]
def kY (k:aR) (j:Nat):tZ:=⟨(ak k.aj j).live,cY k j,mG (cY k j) (cC k j)⟩
def cW (k:aR):wL:=⟨k.slots.length,(List.range k.aj.length).map (kY k)⟩
variable {k k':aR} {fl:List Bool} {j:Nat}
theorem qM (k:aR):(cW k).Ct.length=k.aj.length:=by simp[cW]
theorem qh (hj:j<k.aj.length):ig (cW k).Ct j=kY k j:=by
 unfold ig cW;simp[List.getD,hj]
theorem Ub {l r:List tZ} (hn:l.length=r.length) (h:∀m,m<r.length->ig l m=ig r m):l=r:=by
 apply Uo hn;intro i h1 h2;have:=h i h2;unfold ig at this
 grind
theorem adR (l:List tZ) (j m:Nat) (s:tZ) (hj:j<l.length):ig (l.set j s) m=if m=j then s else ig l m:=by unfold ig;grind
theorem aby (l:List tZ) (m:Nat) (s:tZ):ig (l++[s]) m=if m<l.length then ig l m else if m=l.length then s else Gd:=by unfold ig;grind
theorem Iw (l:List tZ) (s:tZ):px (l++[s])=px l+bg s.aT:=by
 induction l with
 | nil=>simp[px]
 | cons a r ih=>simp only[C8,px,ih];omega
theorem QW (k:aR):∀n,px ((List.range n).map (kY k))=jx k.aj n
 | 0=>rfl
 | n+1=>by
  rw[O4,Ao,Uu,Iw,QW k n];rfl
theorem NA (k:aR):px (cW k).Ct=dZ k.aj:=QW k _
theorem Zv (hs:k'.slots.length=k.slots.length) (hn:k'.aj.length=k.aj.length) (h:∀m,m<k.aj.length->kY k' m=kY k m):cW k'=cW k:=by
 unfold cW;rw[hs,hn];congr 1;exact UC (fun m hm=>h m (uy.1 hm))
theorem Ge (hj:j<k.aj.length) (hs:k'.slots.length=k.slots.length) (hn:k'.aj.length=k.aj.length) (s:tZ) (h:∀m,m<k.aj.length->kY k' m=if m=j then s else kY k m):cW k'=xM (cW k) j s:=by
 have e:(cW k').Ct=((cW k).Ct.set j s):=Ub (by rw[fC,qM,qM,hn]) (fun m hm=>by
  rw[fC,qM] at hm;rw[qh (by omega),adR _ _ _ _ (by rw[qM];exact hj),h m hm];split
  · rfl
  · rw[qh hm])
 show(⟨(cW k').slots,(cW k').Ct⟩:wL)=_;rw[e,show(cW k').slots=(cW k).slots by show(k'.slots.length:Int)=k.slots.length;rw[hs]];rfl
theorem CM {m m':Nat} (h1:(ak k'.aj m').live=(ak k.aj m).live) (h2:(ak k'.aj m').aT=(ak k.aj m).aT) (h3:∀p,dX k m p->cC k' m' p=cC k m p):kY k' m'=kY k m:=by
 unfold kY cY;rw[h1,h2];congr 1;funext p;unfold mG;split
 · exact h3 p (by assumption)
 · rfl
theorem Zw (h:dO k fl) (hk:fl.getD j false=true) {a n way:Int} (h1:1<=n) (h8:n<=8):Ga (cW k) j a n way=((gI k j a n way).1,cW (gI k j a n way).2):=by
 obtain⟨hj,hl⟩:=h.at_ hk;unfold Ga;rw[qh hj];by_cases g:(bN (cY k j) a n way).1=0
 · rw[qz h1 h8 g,aB (show(bN (kY k j).aT a n way).1=0 from g)];obtain⟨m1,m2,_⟩:=l8 h1 h8 g;have R:=nT h.right hj a n way m1 m2;have e1:uj (kY k j).pg a n=l5 k j a n way:=by
    rw[wV h.right hj a n way m1 m2];exact NB (aB m1) (aB m2)
   have e2:cW (aZ k j a n way).2=cW k:=Zv R.kept.ns R.kept.np (fun m hm=>CM (R.kept.live m hm) (R.kept.aT m hm) (fun p _=>R.kept.RQ m hm p));rw[e1,e2]
 · rw[sW h1 h8 g,au (show ¬(bN (kY k j).aT a n way).1=0 from g)];rfl
theorem Ws (h:dO k fl) (hk:fl.getD j false=true) {a:Int} {d:ByteArray} (h1:1<=d.size) (h8:d.size<=8):CL (cW k) j a d=((iV k j a d).1,cW (iV k j a d).2):=by
 obtain⟨hj,hl⟩:=h.at_ hk;unfold CL;rw[qh hj];by_cases g:(bN (cY k j) a d.size 1).1=0
 · rw[qL g,aB (show(bN (kY k j).aT a d.size 1).1=0 from g)];obtain⟨m1,m2,_⟩:=l8 (by omega) (by omega) g;have R:=vK h.right hj a d (by omega) (by omega) m1 m2;rw[Ge (k':=ll k j a d) hj R.ns R.np ⟨(kY k j).live,(kY k j).aT,nj (kY k j).pg a d⟩ (fun m hm=>?_)];by_cases c:m=j
   · subst c;rw[aB rfl];show(⟨_,_,_⟩:tZ)=⟨_,_,nj (mG (cY k m) (cC k m)) a d⟩;rw[Iu (ar:=cY k m) m1 m2];have ea:cY (ll k m a d) m=cY k m:=R.aT m hm;have ep:cC (ll k m a d) m=nj (cC k m) a d:=funext fun p=>by rw[R.RQ m hm,aB rfl]
     rw[R.live m hm,ea,ep];rfl
   · rw[au c];exact CM (R.live m hm) (R.aT m hm) (fun p _=>by rw[R.RQ m hm,au c])
 · rw[sV g,au (show ¬(bN (kY k j).aT a d.size 1).1=0 from g)];rfl
theorem Ea (h:dO k fl) (hk:fl.getD j false=true) {r:List aX×Int} (n:Int) (hr:r.2=0->wW (cY k j) r.1) (hn:r.2=0->(dZ k.aj-bg (cY k j)+bg r.1>(k.slots.length:Int)↔(k.slots.length:Int)<dZ k.aj+n)):pq (cW k) j r n=((ek k j r).1,cW (ek k j r).2):=by
 obtain⟨hj,hl⟩:=h.at_ hk;unfold pq;rw[qh hj,NA];by_cases c:r.2=0
 · rw[au (fun x=>x c)];have e:=hn c;by_cases c2:dZ k.aj-bg (cY k j)+bg r.1>(k.slots.length:Int)
   · rw[show ek k j r=(8,k) by grind [ek],aB (show(cW k).slots<_ from e.1 c2)]
   · rw[show ek k j r=(0,gA k j r.1) by grind [ek],au (show ¬(cW k).slots<_ from fun x=>c2 (e.2 x))];obtain⟨p1,p2,p3,p4,p5,p6⟩:=qg k hj r.1;rw[Ge (k':=gA k j r.1) hj p4 p5 ⟨(kY k j).live,r.1,zU (kY k j).aT r.1 (kY k j).pg⟩ (fun m hm=>?_)];have q:=p6 m hm;by_cases cm:m=j
     · subst cm;rw[aB rfl] at q ⊢;unfold kY cY;rw[q];show(⟨_,_,mG r.1 (cC (gA k m r.1) m)⟩:tZ)=⟨_,_,zU (cY k m) r.1 (mG (cY k m) (cC k m))⟩;congr 1;funext p;unfold mG zU;by_cases f:(aW r.1 p).2=true
       · rw[aB f,aB f,Ip h.right hm (hr c) hm (.inr f)];unfold cY;by_cases f2:(aW (ak k.aj m).aT p).2=true
         · simp[f2]
         · simp[f2]
       · rw[au f,au f]
     · rw[au cm];rw[au (fun e=>cm e.symm)] at q;exact CM (by rw[q]) (by rw[q]) (fun p _=>by rw[Ip h.right hj (hr c) hm (.inl cm),au (fun x=>cm x.1)])
 · rw[aB c,show ek k j r=(r.2,k) by grind [ek]]
theorem Zx (h:dO k fl) (hk:fl.getD j false=true):Gc (cW k) j=((gm k j).1,cW (gm k j).2):=by
 obtain⟨hj,hl⟩:=h.at_ hk;have hc:=h.right.c.2.2.1;unfold Gc;rw[qh hj,NA,qM];by_cases c:k.aj.length=4
 · rw[show gm k j=(2,k) by grind [gm],aB (by omega)]
 rw[au (by omega)];by_cases c2:dZ k.aj+bg (cY k j)>(k.slots.length:Int)
 · rw[show gm k j=(8,k) by grind [gm],aB (show(cW k).slots<_+bg (kY k j).aT from c2)]
 · rw[show gm k j=(0,gD k j) by grind [gm],au (show ¬(cW k).slots<_+bg (kY k j).aT from c2)];have F:=uW h.right hj;have e:(cW (gD k j)).Ct=(cW k).Ct++[kY k j]:=Ub (by rw[qM,F.aj,fD,fD,qM];rfl) (fun m hm=>by
    rw[fD,qM] at hm;have hm:m<k.aj.length+1:=hm;have hs:ak (gD k j).aj m=if m<k.aj.length then ak k.aj m else ak k.aj j:=by
     rw[F.aj,KH];by_cases z:m<k.aj.length
     · rw[aB z,aB z]
     · rw[au z,au z,aB (by omega)]
    rw[qh (by rw[F.aj,fD];exact hm),aby,qM];by_cases z:m<k.aj.length
    · rw[aB z] at hs ⊢;rw[qh z];exact CM (by rw[hs]) (by rw[hs]) (fun p _=>KU h.right hj m m z hs p)
    · rw[au z] at hs;rw[au z,aB (by omega)];exact CM (by rw[hs]) (by rw[hs]) (fun p _=>KU h.right hj m j hj hs p))
   show(_,(⟨(cW k).slots,_⟩:wL))=(0,cW (gD k j));rw[show cW (gD k j)=⟨(cW (gD k j)).slots,(cW (gD k j)).Ct⟩ from rfl,e,show(cW (gD k j)).slots=(cW k).slots by show((gD k j).slots.length:Int)=k.slots.length;rw[F.ns]]
theorem Zy (h:dO k fl) (hk:fl.getD j false=true):xM (cW k) j Gd=cW (js k j):=by
 obtain⟨hj,hl⟩:=h.at_ hk;have hsp:(js k j).aj=k.aj.set j qJ:=by
  show(dz k j (fun _=>true)).aj.set j qJ=_;rw[gF,pQ]
 have hn:(js k j).aj.length=k.aj.length:=by rw[hsp,fC]
 rw[Ge (k':=js k j) hj (mU k j (fun _=>true)).2.2.2 hn Gd (fun m hm=>?_)];have hs:ak (js k j).aj m=if m=j then qJ else ak k.aj m:=by rw[hsp];grind [iC]
 by_cases c:m=j
 · rw[aB c] at hs ⊢;unfold kY cY;rw[hs];show(⟨false,[],mG [] _⟩:tZ)=Gd;unfold Gd;congr 1
 · rw[au c] at hs ⊢;exact CM (by rw[hs]) (by rw[hs]) (fun p _=>VP h.right hj hm c p)
theorem Cb (h:dO k fl) (hj:j<k.aj.length):bj (cY k j)=0:=(h.right.sp hj).aT
theorem Gb:Cc fR Zz dO cW where
 load:=fun s fl k a n way h hk h1 h8=>Zw h hk h1 h8
 store:=fun s fl k a d h hk h1 h8=>Ws h hk h1 h8
 map:=fun s fl k p n q h hk=>by
  have hj:=(h.at_ hk).1;show pq (cW s) k (dD (ig (cW s).Ct k).aT p n q) n=_;rw[qh hj];exact Ea h hk n (fun e=>(H8 e).2) (fun e=>by have h1:=VE e (Cb h hj);have h0:bg (kY s k).aT=bg (cY s k):=rfl;omega)
 oW:=fun s fl k p n h hk=>by
  have hj:=(h.at_ hk).1;show pq (cW s) k (cN (ig (cW s).Ct k).aT p n) 0=_;rw[qh hj];refine Ea h hk 0 (fun e=>(yu e).2) (fun e=>?_);have h1:=Qw e (Cb h hj);have h0:bg (kY s k).aT=bg (cY s k):=rfl;have h2:=h.right.room;exact⟨fun x=>by omega,fun x=>by omega⟩
 jl:=fun s fl k p n q h hk=>by
  have hj:=(h.at_ hk).1;show pq (cW s) k (bR (ig (cW s).Ct k).aT p n q) 0=_;rw[qh hj];refine Ea h hk 0 (fun e=>(AY e).2) (fun e=>?_);have h1:=Mf e (Cb h hj);have h0:bg (kY s k).aT=bg (cY s k):=rfl;have h2:=h.right.room;exact⟨fun x=>by omega,fun x=>by omega⟩
 fork:=fun s fl k h hk=>Zx h hk
 drop:=fun s fl k h hk=>Zy h hk
open Go.RowKit
theorem A9 (p q:Int) (d:ByteArray) (ps:List jS):cR q (py p d ps)=if q=p then (cR p ps).map (fun _=>d) else cR q ps:=by
 induction ps with
 | nil=>simp[py,cR]
 | cons x r ih=>unfold py at ih ⊢;simp only[yK,cR];grind
theorem F8 (q:Int) (a b:List jS):cR q (a++b)=(cR q a).or (cR q b):=by
 induction a with
 | nil=>rfl
 | cons x r ih=>simp only[C8,cR];grind
theorem Ix (q:Int):∀(n:Nat) (p:Int),cR q (xf p n)=if p<=q/\q<p+n then some Mv else none
 | 0,p=>by simp[xf,mg,cR]
 | n+1,p=>by
  have ih:=Ix q n (p+1);unfold xf at ih ⊢;simp only[mg,yK,cR,ih]
  grind
theorem Zq (q p n:Int) (ps:List jS):cR q (tO ps p n)=if p<=q/\q<p+n then none else cR q ps:=by
 induction ps with
 | nil=>simp[tO,cR]
 | cons x r ih=>unfold tO at ih ⊢;simp only[List.filter_cons,cR];grind [cR]
theorem Wo (q:Int) (ps:List jS):(cR q ps).isSome=true↔q∈cZ ps:=by
 induction ps with
 | nil=>simp[cZ,cR]
 | cons x r ih=>unfold cZ at ih ⊢;simp only[yK,cR];grind
theorem Zr (q p:Int) (n:Nat) (ps:List jS) (h:p<=q/\q<p+n->cR q ps=none):cR q (rW ps p n)=if p<=q/\q<p+n then some Mv else cR q ps:=by
 have e:cR q ps=(cR q (ps.take (tP ps p))).or (cR q (ps.drop (tP ps p))):=by rw[<- F8,UG]
 unfold rW;rw[F8,F8,Ix];by_cases c:p<=q/\q<p+n
 · rw[aB c,aB c];have:=h c
   grind
 · rw[au c,au c,e]
   grind
def wY (s:mW):tZ:=⟨s.live,s.aT,mG s.aT (oH s.aO)⟩
def gp (m:ry):wL:=⟨m.slots,m.aj.map wY⟩
variable {m:ry} {fl:List Bool} {j:Nat}
theorem qN (hj:j<m.aj.length):ig (gp m).Ct j=wY (bq m.aj j):=by
 unfold ig gp bq
 grind
theorem QX {s:mW} (h:qm s) (q:Int):(cR q s.aO).isSome=true↔(aW s.aT q).2=true:=by
 rw[Wo,h.nums];exact eY h.check
theorem Eb (m:ry) (j:Nat) (s:mW):gp (oG m j s)=xM (gp m) j (wY s):=by
 unfold gp oG xM;rw[OG]
theorem FZ:∀(n:Nat) (l:List mW),l.length=n->px (l.map wY)=iY l
 | 0,l,h=>by rw[kT h];rfl
 | n+1,l,h=>by
  rcases O0 l with rfl | ⟨r,s,rfl⟩
  · cases h
  · rw[OZ] at h ⊢;rw[Ao,Uu,Iw,FZ n r (by simpa using h),Ls];rfl
theorem Ms.liv (h:ql m fl) (hk:fl.getD j false=true):j<m.aj.length/\qm (bq m.aj j)/\(bq m.aj j).live=true:=by
 obtain⟨hj,hl⟩:=h.live hk;exact⟨hj,xg (h.each j hj) hl,hl⟩
theorem Zn {s:mW} (hs:qm s) {a:Int} {d:ByteArray} (h1:(aW s.aT (a/16)).2=true) (h2:(aW s.aT (cj a d.size)).2=true) (q:Int):oH (oU s.aO a d) q=nj (oH s.aO) a d q:=by
 have f1:=(QX hs _).2 h1;have f2:=(QX hs _).2 h2;have ej:um s.aO a d.size=nI (oH s.aO) a d.size:=rfl;unfold oU;rw[ej];unfold nj vR;generalize iw (nI (oH s.aO) a d.size) (a%16).toNat d=L;have el:nJ a d.size=cj a d.size:=rfl;rw[el];unfold oH;obtain⟨x1,e1⟩:=O8.1 f1;obtain⟨x2,e2⟩:=O8.1 f2;by_cases c:cj a d.size=a/16
 · rw[aB c,A9,e1];by_cases q1:q=a/16
   · simp[q1]
   · simp[q1,c]
 · rw[au c,A9,A9,A9,e1,e2];by_cases q1:q=a/16
   · have:¬a/16=cj a d.size:=fun e=>c e.symm
     simp[q1,this]
   · by_cases q2:q=cj a d.size
     · simp[q2,c]
     · simp[q1,q2]
theorem Td (h:ql m fl) (hk:fl.getD j false=true) {a:Int} {d:ByteArray} (h1:1<=d.size) (h8:d.size<=8):CL (gp m) j a d=((nz m j a d).1,gp (nz m j a d).2):=by
 obtain⟨hj,hs,hl⟩:=Ms.liv h hk;unfold CL;rw[qN hj];by_cases g:(bN (bq m.aj j).aT a d.size 1).1=0
 · rw[aB (show(bN (wY (bq m.aj j)).aT a d.size 1).1=0 from g),show nz m j a d=((0,0),oG m j { bq m.aj j with aO:=oU (bq m.aj j).aO a d }) by grind [nz]];obtain⟨_,hal,hau,hmap⟩:=rD (show 1<=(d.size:Int) by omega) (by omega) g;have m1:(aW (bq m.aj j).aT (a/16)).2=true:=by have:=hmap 0 (by omega) (by omega);rw[C3] at this;exact this
   have m2:(aW (bq m.aj j).aT (cj a d.size)).2=true:=by
    have:=hmap ((d.size:Int)-1) (by omega) (by omega);unfold cj;rw[show a+(d.size:Int)-1=a+((d.size:Int)-1) by omega];exact this
   show(_,xM (gp m) j _)=(_,gp (oG m j _));rw[Eb];congr 2;show(⟨_,_,nj (mG (bq m.aj j).aT (oH (bq m.aj j).aO)) a d⟩:tZ)=⟨_,_,mG (bq m.aj j).aT (oH (oU (bq m.aj j).aO a d))⟩;rw[Iu m1 m2,show oH (oU (bq m.aj j).aO a d)=nj (oH (bq m.aj j).aO) a d from funext (Zn hs m1 m2)];rfl
 · rw[au (show ¬(bN (wY (bq m.aj j)).aT a d.size 1).1=0 from g),show nz m j a d=(bN (bq m.aj j).aT a d.size 1,m) by grind [nz]];rfl
theorem Wp (h:ql m fl) (hk:fl.getD j false=true) {a n way:Int} (h1:1<=n) (h8:n<=8):Ga (gp m) j a n way=((lB m j a n way).1,gp (lB m j a n way).2):=by
 obtain⟨hj,hs,hl⟩:=Ms.liv h hk;unfold Ga;rw[qN hj];by_cases g:(bN (bq m.aj j).aT a n way).1=0
 · rw[aB (show(bN (wY (bq m.aj j)).aT a n way).1=0 from g),show lB m j a n way=((Gi (bq m.aj j).aO a n,(0,0)),m) by grind [lB]];obtain⟨_,hal,hau,hmap⟩:=rD h1 h8 g;have m1:(aW (bq m.aj j).aT (a/16)).2=true:=by have:=hmap 0 (by omega) (by omega);rw[C3] at this;exact this
   have m2:(aW (bq m.aj j).aT (cj a n)).2=true:=by
    have:=hmap (n-1) (by omega) (by omega);unfold cj;rw[show a+n-1=a+(n-1) by omega];exact this
   rw[show uj (wY (bq m.aj j)).pg a n=Gi (bq m.aj j).aO a n from NB (aB m1) (aB m2)]
 · rw[au (show ¬(bN (wY (bq m.aj j)).aT a n way).1=0 from g),show lB m j a n way=((⟨#[]⟩,bN (bq m.aj j).aT a n way),m) by grind [lB]];rfl
theorem D9 (h:ql m fl) (hk:fl.getD j false=true) {r:List aX×Int} {ps:List jS} (hp:∀q,(aW r.1 q).2=true->oH ps q=if (aW (bq m.aj j).aT q).2=true then oH (bq m.aj j).aO q else uV):xM (gp m) j ⟨(wY (bq m.aj j)).live,r.1,zU (wY (bq m.aj j)).aT r.1 (wY (bq m.aj j)).pg⟩=gp (oG m j { bq m.aj j with aT:=r.1,aO:=ps }):=by
 rw[Eb];congr 1;show(⟨_,_,zU (bq m.aj j).aT r.1 (mG (bq m.aj j).aT (oH (bq m.aj j).aO))⟩:tZ)=⟨_,_,mG r.1 (oH ps)⟩;congr 1;funext q;unfold zU mG;by_cases c:(aW r.1 q).2=true
 · rw[aB c,aB c,hp q c];by_cases c2:(aW (bq m.aj j).aT q).2=true
   · simp[c2]
   · simp[c2]
 · rw[au c,au c]
theorem abw {s:mW} (hs:qm s) {q:Int} (h:¬(aW s.aT q).2=true):cR q s.aO=none:=by
 have:=QX hs q;cases e:cR q s.aO with
 | none=>rfl
 | some x=>rw[e] at this;exact absurd (this.1 rfl) h
theorem Zu:Cc Ei Zz ql gp where
 load:=fun s fl k a n way h hk h1 h8=>Wp h hk h1 h8
 store:=fun s fl k a d h hk h1 h8=>Td h hk h1 h8
 map:=fun s fl k p n q h hk=>by
  obtain⟨hj,hs,hl⟩:=Ms.liv h hk;show pq (gp s) k (dD (ig (gp s).Ct k).aT p n q) n=((zi s k p n q).1,gp (zi s k p n q).2);rw[qN hj];unfold pq zi;rw[qN hj,show px (gp s).Ct=iY s.aj from FZ _ _ rfl];show(if ¬(dD (bq s.aj k).aT p n q).2=0 then _ else _)=_;by_cases c:(dD (bq s.aj k).aT p n q).2=0
  · simp only[c,De,tq];by_cases c2:s.slots<iY s.aj+n
    · rw[aB (show(gp s).slots<_ from c2),aB c2]
    · rw[au (show ¬(gp s).slots<_ from c2),au c2];obtain⟨g1,g2,g3,g4⟩:=Eg hs.check c;have:=D9 h hk (r:=dD (bq s.aj k).aT p n q) (ps:=rW (bq s.aj k).aO p n.toNat) (fun x hx=>by
       have hn:((n.toNat:Nat):Int)=n:=by omega
       have e:=Zr x p n.toNat (bq s.aj k).aO (fun y=>abw hs (fun z=>g4 x y.1 (by omega) ((eY hs.check).2 z)));unfold oH;rw[e,hn];have hx:=(g3 x).1 ((eY g1).2 hx);by_cases z:p<=x/\x<p+n
       · rw[aB z,au (fun y=>g4 x z.1 z.2 ((eY hs.check).2 y))];rfl
       · rw[au z,aB ((eY hs.check).1 (hx.resolve_right z))])
      rw[<- this];rfl
  · simp only[c,C9,tj];rfl
 oW:=fun s fl k p n h hk=>by
  obtain⟨hj,hs,hl⟩:=Ms.liv h hk;show pq (gp s) k (cN (ig (gp s).Ct k).aT p n) 0=((tN s k p n).1,gp (tN s k p n).2);rw[qN hj];unfold pq tN;rw[qN hj,show px (gp s).Ct=iY s.aj from FZ _ _ rfl];show(if ¬(cN (bq s.aj k).aT p n).2=0 then _ else _)=_;have hr:=h.room;by_cases c:(cN (bq s.aj k).aT p n).2=0
  · simp only[c,De,tq];rw[au (show ¬(gp s).slots<iY s.aj+0 from fun x=>by have x:s.slots<iY s.aj+0:=x;omega)];obtain⟨g1,g2,g3⟩:=Gh hs.check c;have:=D9 h hk (r:=cN (bq s.aj k).aT p n) (ps:=tO (bq s.aj k).aO p n) (fun x hx=>by
     have hx:=(g3 x).1 ((eY g1).2 hx);unfold oH;rw[Zq,au hx.2,aB ((eY hs.check).1 hx.1)])
    rw[<- this];rfl
  · simp only[c,C9,tj];rfl
 jl:=fun s fl k p n q h hk=>by
  obtain⟨hj,hs,hl⟩:=Ms.liv h hk;show pq (gp s) k (bR (ig (gp s).Ct k).aT p n q) 0=((pA s k p n q).1,gp (pA s k p n q).2);rw[qN hj];unfold pq pA;rw[qN hj,show px (gp s).Ct=iY s.aj from FZ _ _ rfl];show(if ¬(bR (bq s.aj k).aT p n q).2=0 then _ else _)=_;have hr:=h.room;by_cases c:(bR (bq s.aj k).aT p n q).2=0
  · simp only[c,De,tq];rw[au (show ¬(gp s).slots<iY s.aj+0 from fun x=>by have x:s.slots<iY s.aj+0:=x;omega)];obtain⟨g1,g2⟩:=CQ hs.check c;have:=D9 h hk (r:=bR (bq s.aj k).aT p n q) (ps:=(bq s.aj k).aO) (fun x hx=>by
     have hx:=(eY g1).2 hx;rw[g2] at hx;rw[aB ((eY hs.check).1 hx)])
    rw[show oG s k { live:=(bq s.aj k).live,aT:=(bR (bq s.aj k).aT p n q).1,aO:=(bq s.aj k).aO }=oG s k { bq s.aj k with aT:=(bR (bq s.aj k).aT p n q).1,aO:=(bq s.aj k).aO } from rfl,<- this];rfl
  · simp only[c,C9,tj];rfl
 fork:=fun s fl k h hk=>by
  obtain⟨hj,hs,hl⟩:=Ms.liv h hk;show Gc (gp s) k=((uo s k).1,gp (uo s k).2);unfold Gc uo;rw[qN hj,show px (gp s).Ct=iY s.aj from FZ _ _ rfl,show(gp s).Ct.length=s.aj.length by simp[gp]];show(if 4<=s.aj.length then _ else if s.slots<iY s.aj+bg (bq s.aj k).aT then _ else _)=_;by_cases c:4<=s.aj.length
  · simp only[c,tj]
  · by_cases c2:s.slots<iY s.aj+bg (bq s.aj k).aT
    · simp only[c,c2,tj,tq]
    · simp only[c,c2,tq];simp[gp]
 drop:=fun s fl k h hk=>by
  show xM (gp s) k Gd=gp (oG s k Jo);rw[Eb];rfl
open Go.RowKit
variable {σ τ υ:Type}
theorem Lj {o:gN σ} {o':gN τ} {b:gN υ} {Ok:σ->List Bool->Prop} {Ok':τ->List Bool->Prop} {f:σ->υ} {g:τ->υ} (S:Cc o b Ok f) (S':Cc o' b Ok' g) (ho:qp o Ok) (ho':qp o' Ok') {s:dA σ} {s':dA τ} (h:dK Ok s) (h':dK Ok' s') (e:gj f s=gj g s') (picks:List Int) (n:Nat):(fe o picks n (some s)).map (gj f)=(fe o' picks n (some s')).map (gj g):=by
 rw[<- zg S ho h,<- zg S' ho' h',e]
open Go.RowKit
structure ZA (l:List aX) (hs:List bG):Prop where
 check:bj l=0
 plain:∀p,(aW l p).2=true->(aW l p).1.zero=false
 aO:hs.map (·.page)=dB l
 mn:gS hs=true
 fine:∀s∈hs,df s=true
 few:hs.length<=255
variable {l:List aX} {hs:List bG} {nf ns:Int}
theorem Tc (p:Int) (hs:List bG):(iD hs p).isSome=true↔p∈hs.map (·.page):=by
 unfold iD;rw[List.find?_isSome];simp
theorem ZA.ahX (h:ZA l hs) {p:Int} (hp:(aW l p).2=true):(iD hs p).isSome=true:=by
 rw[Tc,h.aO];exact(eY h.check).2 hp
theorem Ll (l:List aX) (kd a:Int):bT [⟨true,l,[]⟩] kd a=[]:=rfl
theorem Iy (h:ZA l hs) (h3:3<=nf) (h64:nf<=64) (h0:0<=ns) (h5:ns<=512) (ht:bg l<=ns):aY (lI l hs nf ns):=by
 have ef:(lI l hs nf ns).frames.length=nf.toNat:=uA;have es:(lI l hs nf ns).slots.length=ns.toNat:=uA;refine⟨?_,h.mn,⟨by show(0:Int)<=0;omega,by rw[ef];show(0:Int)<_;omega⟩,fun s hs'=>?_,?_,fun i hi=>?_,fun i hi=>?_⟩
 · unfold nk;rw[ef,es];exact gU ⟨by omega,by omega,⟨aH 1,by show 1<=4;omega⟩,h.few⟩
 · have e:s=⟨true,l,[]⟩:=by simpa [lI] using hs'
   subst e;exact⟨fun x=>(by cases x),h.check,List.Pairwise.nil,fun e he=>(by cases he),fun p hp _=>h.ahX hp⟩
 · rw[es];show(0:Int)+bg l<=_;omega
 · show lJ _ (bT [⟨true,l,[]⟩] 1 i) (aD (List.replicate nf.toNat gM) i);rw[Ll,show aD (List.replicate nf.toNat gM) i=gM by unfold aD;grind];exact⟨rfl,fun _=>rfl,fun x hx=>(by cases hx),fun x=>absurd rfl x,fun _ x hx=>(by cases hx)⟩
 · show oF (bT [⟨true,l,[]⟩] 2 i) (bE (List.replicate ns.toNat nR) i);rw[Ll,show bE (List.replicate ns.toNat nR) i=nR by unfold bE;grind];exact⟨rfl,fun _=>rfl,fun x hx=>(by cases hx),fun x=>absurd rfl x⟩
theorem F7 (p:Int):∀hs:List bG,(∀s∈hs,df s=true)->cR p (hs.map fun s=>⟨s.page,(mH s).1⟩)=(iD hs p).map qW
 | [],_=>rfl
 | s::r,h=>by
  have ih:=F7 p r (fun x hx=>h x (GK _ hx));have e:(mH s).1=qW s:=by unfold mH;rw[aB (h s Dh)]
  unfold iD at ih ⊢;simp only[yK,cR,List.find?_cons,e];by_cases c:s.page=p
  · simp[c]
  · simp[c,ih]
theorem Jj (h:ZA l hs) (h0:0<=ns):cW (lI l hs nf ns)=gp ⟨ns,[⟨true,l,hs.map fun s=>⟨s.page,(mH s).1⟩⟩]⟩:=by
 have es:((lI l hs nf ns).slots.length:Int)=ns:=by show((List.replicate ns.toNat nR).length:Int)=ns;rw[uA];omega
 have ea:kY (lI l hs nf ns) 0=wY ⟨true,l,hs.map fun s=>⟨s.page,(mH s).1⟩⟩:=by
  show(⟨true,l,mG l (cC (lI l hs nf ns) 0)⟩:tZ)=⟨true,l,mG l (oH (hs.map fun s=>⟨s.page,(mH s).1⟩))⟩;congr 1;funext p;unfold mG;by_cases c:(aW l p).2=true
  · rw[aB c,aB c];unfold oH;rw[F7 p hs h.fine];show fY hs p (aW l p).1.zero=_;unfold fY eV;rw[h.plain p c];obtain⟨s,e⟩:=O8.1 (h.ahX c);rw[e];rfl
  · rw[au c,au c]
 unfold cW gp;rw[es];show(⟨ns,[kY (lI l hs nf ns) 0]⟩:wL)=_;rw[ea];rfl
open Go.RowKit
theorem Wn (p:Int):∀n,mg p n=(List.range n).map (fun m:Nat=>p+(m:Int)):=fun n=>by
 induction n with
 | zero=>rfl
 | succ n ih=>rw[NK,ih,O4,Ao];rfl
theorem Zt (l:List aX):mK l=dB l:=by
 have:∀n,n<=l.length->ft l n=xj l n:=fun n=>by
  induction n with
  | zero=>intro _;unfold xj;rfl
  | succ n ih =>
   intro h;rw[Ot l n (by omega),<- ih (by omega),Wn];rfl
 unfold mK;rw[this l.length (aH _)];unfold xj;rw[vh]
theorem Lm {l:List aX} {hs:List bG} {en:Int} (h:kI l hs en=0):ZA l hs:=by
 obtain⟨r1,r2,r3⟩:=Hu h;have hp:hs.map (·.page)=dB l:=by
  unfold kI at h;rw[aB r1] at h;rw[<- Zt];have:jG l hs=true:=by grind
  exact oI this
 have hin:yS l hs hs.length=true:=by
  rw[Ht] at h;unfold GZ at h;rw[aB r1] at h
  grind
 refine⟨r1,fun p c=>?_,hp,r2,fun s hs'=>?_,?_⟩
 · have hm:p∈hs.map (·.page):=by rw[hp];exact(eY r1).2 c
   obtain⟨k,hk,e⟩:=L9 hs p hm;have hi:=Dp l hs hs.length hin k hk;unfold Dq at hi;rw[e] at hi;have:aW l p=bV l p:=by
    unfold aW at c ⊢
    grind
   rw[this]
   grind
 · obtain⟨k,hk,e⟩:=List.getElem_of_mem hs';have:=(qF hs hs.length r2 k hk).1;rw[show bu hs k=s by rw[<- e];unfold bu;grind] at this;exact this
 · have e:hs.length=(dB l).length:=by rw[<- hp,gV]
   have s1:=yB.sorted (om r1);have:=mQ (mg 1 255) (dB l) s1 (uq _ _) (fun x hx=>(pK _ _ _).2 (by have:=Tn r1 hx;omega));rw[Ch] at this;omega
open Go.RowKit
open Go.RowKit
variable {k:aR} {fl:List Bool} {j:Nat} {hs:List bG}
structure Wl (hs:List bG) (k:aR) (fl:List Bool):Prop where
 ok:dO k fl
 same:cE k.aM hs
theorem Wi (h:dO k fl) (hk:fl.getD j false=true) (a n way:Int):(gI k j a n way).2.aM=k.aM:=by
 obtain⟨hj,hl⟩:=h.at_ hk;by_cases c:1<=n/\n<=8
 · by_cases g:(bN (cY k j) a n way).1=0
   · rw[qz c.1 c.2 g];obtain⟨m1,m2,_⟩:=l8 c.1 c.2 g;exact(nT h.right hj a n way m1 m2).kept.aM
   · rw[sW c.1 c.2 g]
 · rw[F9 c]
theorem Wh (h:dO k fl) (hk:fl.getD j false=true) (s:cE k.aM hs) (a n way:Int) (h1:1<=n) (h8:n<=8):gI (aU k hs) j a n way=((gI k j a n way).1,aU (gI k j a n way).2 hs):=by
 obtain⟨hj,hl⟩:=h.at_ hk;by_cases g:(bN (cY k j) a n way).1=0
 · obtain⟨m1,m2,_⟩:=l8 h1 h8 g;have e:l5 (aU k hs) j a n way=l5 k j a n way:=by
    rw[wV h.right hj a n way m1 m2,wV (h.right.xR s) hj a n way m1 m2];congr 1;funext p;exact Ia s j p
   rw[qz h1 h8 g,qz (k:=aU k hs) h1 h8 g,e,sL h.right hj m1 s]
 · rw[sW h1 h8 g,sW (k:=aU k hs) h1 h8 g];rfl
theorem Ta (h:dO k fl) (hk:fl.getD j false=true) (a:Int) (d:ByteArray) (h1:1<=d.size) (h8:d.size<=8):(iV k j a d).2.aM=k.aM:=by
 obtain⟨hj,hl⟩:=h.at_ hk;by_cases g:(bN (cY k j) a d.size 1).1=0
 · rw[qL g];obtain⟨m1,m2,_⟩:=l8 (by omega) (by omega) g;exact(vK h.right hj a d (by omega) (by omega) m1 m2).aM
 · rw[sV g]
theorem S9 (h:dO k fl) (hk:fl.getD j false=true) (s:cE k.aM hs) (a:Int) (d:ByteArray) (h1:1<=d.size) (h8:d.size<=8):iV (aU k hs) j a d=((iV k j a d).1,aU (iV k j a d).2 hs):=by
 obtain⟨hj,hl⟩:=h.at_ hk;by_cases g:(bN (cY k j) a d.size 1).1=0
 · obtain⟨m1,m2,_⟩:=l8 (by omega) (by omega) g;rw[qL g,qL (k:=aU k hs) g,Fv h.right hj m1 s]
 · rw[sV g,sV (k:=aU k hs) g];rfl
theorem D5 (h:dO k fl) (hk:fl.getD j false=true) (r:List aX×Int):(ek k j r).2.aM=k.aM:=by
 obtain⟨hj,hl⟩:=h.at_ hk;unfold ek
 repeat' split
 · rfl
 · rfl
 · exact(qg k hj r.1).1
theorem D4 (k:aR) (hs:List bG) (j:Nat) (r:List aX×Int):ek (aU k hs) j r=((ek k j r).1,aU (ek k j r).2 hs):=by
 unfold ek;show(if ¬r.2=0 then (r.2,aU k hs) else if dZ k.aj-bg (cY k j)+bg r.1>(k.slots.length:Int) then (8,aU k hs) else (0,gA (aU k hs) j r.1))=_;rw[FP]
 repeat' split
 all_goals rfl
theorem Li (h:dO k fl) (hk:fl.getD j false=true):(gm k j).2.aM=k.aM:=by
 obtain⟨hj,hl⟩:=h.at_ hk;unfold gm
 repeat' split
 · rfl
 · rfl
 · exact(uW h.right hj).aM
theorem Wj (k:aR) (hs:List bG) (j:Nat):gm (aU k hs) j=((gm k j).1,aU (gm k j).2 hs):=by
 unfold gm;show(if k.aj.length=4 then (2,aU k hs) else if dZ k.aj+bg (cY k j)>(k.slots.length:Int) then (8,aU k hs) else (0,gD (aU k hs) j))=_;rw[Ij]
 repeat' split
 all_goals rfl
theorem Zh (hs:List bG):Cc fR fR (Wl hs) (fun k=>aU k hs) where
 load:=fun s fl k a n way h hk h1 h8=>Wh h.ok hk h.same a n way h1 h8
 store:=fun s fl k a d h hk h1 h8=>S9 h.ok hk h.same a d h1 h8
 map:=fun s fl k p n q h hk=>D4 s hs k _
 oW:=fun s fl k p n h hk=>D4 s hs k _
 jl:=fun s fl k p n q h hk=>D4 s hs k _
 fork:=fun s fl k h hk=>Wj s hs k
 drop:=fun s fl k h hk=>Il s hs k
theorem sU {k k':aR} (h:k'.aM=k.aM) (s:cE k.aM hs):cE k'.aM hs:=by rw[h];exact s
theorem QV (hs:List bG):qp fR (Wl hs) where
 load:=fun s fl k a n way h hk=>⟨ic.load s fl k a n way h.ok hk,sU (Wi h.ok hk a n way) h.same⟩
 size:=fun s fl k a n way h hk=>ic.size s fl k a n way h.ok hk
 fault:=fun s fl k a n way h hk=>ic.fault s fl k a n way h.ok hk
 none:=fun s fl k a n way h hk=>ic.none s fl k a n way h.ok hk
 store:=fun s fl k a d h hk h1 h8=>⟨ic.store s fl k a d h.ok hk h1 h8,sU (Ta h.ok hk a d h1 h8) h.same⟩
 PJ:=fun s fl k a d h hk=>ic.PJ s fl k a d h.ok hk
 map:=fun s fl k p n q h hk=>⟨ic.map s fl k p n q h.ok hk,sU (D5 h.ok hk _) h.same⟩
 oW:=fun s fl k p n h hk=>⟨ic.oW s fl k p n h.ok hk,sU (D5 h.ok hk _) h.same⟩
 jl:=fun s fl k p n q h hk=>⟨ic.jl s fl k p n q h.ok hk,sU (D5 h.ok hk _) h.same⟩
 PI:=fun s fl k h hk g=>⟨ic.PI s fl k h.ok hk g,sU (Li h.ok hk) h.same⟩
 JM:=fun s fl k h hk g=>⟨ic.JM s fl k h.ok hk g,sU (Li h.ok hk) h.same⟩
 aeB:=fun s fl k p n q h hk=>ic.aeB s fl k p n q h.ok hk
 Pt:=fun s fl k p n h hk=>ic.Pt s fl k p n h.ok hk
 EW:=fun s fl k p n q h hk=>ic.EW s fl k p n q h.ok hk
 few:=fun s fl h=>ic.few s fl h.ok
 drop:=fun s fl k h hk=>⟨ic.drop s fl k h.ok hk,sU ((mU s k (fun _=>true)).1) h.same⟩
theorem Zl {s:dA aR} (h:dK dO s) (g:cE s.mem.aM hs):dK (Wl hs) s:=⟨⟨h.mem,g⟩,h.fit,h.right,h.words,h.out⟩
theorem afQ {s:dA aR} (h:dK (Wl hs) s):dK dO s/\cE s.mem.aM hs:=⟨⟨h.mem.ok,h.fit,h.right,h.words,h.out⟩,h.mem.same⟩
theorem Nz {s:dA aR} (h:dK dO s) (g:cE s.mem.aM hs):dK dO (gj (fun k=>aU k hs) s):=⟨⟨h.mem.right.xR g,h.mem.flags⟩,h.fit,h.right,h.words,h.out⟩
theorem abt {m:iM} (h:dK dO (gZ m)):jy m=0:=Od h
theorem zo {m:iM} (h:dK dO (gZ m)) (picks:List Int):fX m picks=if 2000<picks.length then ((vV,2):iM×Int) else match fe fR picks picks.length (some (gZ m)) with
  | none=>(vV,2)
  | some s=>(yz s,0):=by
 unfold fX zS vX;rw[au (fun g=>g (abt h))];by_cases c:2000<picks.length
 · rw[aB c,aB c];rfl
 · rw[au c,au c];cases fe fR picks picks.length (some (gZ m)) with
   | none=>rfl
   | some s=>rfl
theorem Lh {m:iM} (h:dK dO (gZ m)) (picks:List Int):fX m picks=(vV,2)∨∃s,picks.length<=2000/\fe fR picks picks.length (some (gZ m))=some s/\dK dO s/\fX m picks=(yz s,0):=by
 rw[zo h];by_cases c:2000<picks.length
 · rw[aB c];exact .inl rfl
 · rw[au c];cases e:fe fR picks picks.length (some (gZ m)) with
   | none=>exact .inl rfl
   | some s=>exact .inr ⟨s,by omega,rfl,yl ic h picks _ s e,rfl⟩
theorem Zi {m:iM} (h:dK dO (gZ m)) {hs:List bG} (g:cE m.iZ.aM hs) (picks:List Int):∃hs',cE (fX m picks).1.iZ.aM hs'/\fX (mJ m hs) picks=(mJ (fX m picks).1 hs',(fX m picks).2):=by
 have h':dK dO (gZ (mJ m hs)):=Nz h g;have e:=zg (Zh hs) (QV hs) (Zl h g) picks picks.length;have e':fe fR picks picks.length (some (gZ (mJ m hs)))=(fe fR picks picks.length (some (gZ m))).map (gj (fun k=>aU k hs)):=e;rw[zo h,zo h',e'];by_cases c:2000<picks.length
 · rw[aB c,aB c];exact⟨[],rfl,rfl⟩
 · rw[au c,au c];cases f:fe fR picks picks.length (some (gZ m)) with
   | none=>exact⟨[],rfl,rfl⟩
   | some s=>exact⟨hs,(afQ (yl (QV hs) (Zl h g) picks _ s f)).2,rfl⟩
open Go.RowKit
def tK (w:World) (r:iM×Int) (e:Ending) (w':World):Prop:=∃hs a ar cr ao co,cE r.1.iZ.aM hs/\e=.returned (.tuple #[.agg (ia (mJ r.1 hs) a ar ao cr co),I r.2])/\(∀V,aC (fun b=>b<w.heap.size) w' V->uH V a ar ao (mJ r.1 hs))/\Below w.heap.size w w'
def YZ:ja:=⟨none,0,none,0,none,0,none,0⟩
theorem adG (w:World):uH w YZ none none (mJ vV []):=⟨⟨fun h=>absurd h (kr _),fun h=>absurd h (kr _),fun h=>absurd h (kr _),fun h=>absurd h (kr _)⟩,fun h=>absurd h (kr _),fun h=>absurd h (kr _)⟩
theorem Ml {w w':World} (er:Int) (hb:Below w.heap.size w w'):tK w (vV,er) (.returned (.tuple #[.agg #[Nl,Nl,Nl,Nl,I 0,Nl,Nl],I er])) w':=⟨[],YZ,none,0,none,0,rfl,rfl,fun V _=>adG V,hb⟩
theorem sQ (W:World) (b:Nat) (v0 v1 v2 v3 v4 v5 v6:Value):aC (fun x=>x=b) W (((((((W.setCell (Ad b 0) v0).setCell (Ad b 1) v1).setCell (Ad b 2) v2).setCell (Ad b 3) v3).setCell (Ad b 4) v4).setCell (Ad b 5) v5).setCell (Ad b 6) v6):=by
 have k:∀(A:World) (i:Nat) (v:Value),aC (fun x=>x=b) A (A.setCell (Ad b i) v):=fun A i v=>aC.set _ A (Ad b i) v rfl
 exact((QQ W b v0 v1 v2 v3 v4).trans (k _ _ _) (fun _ _ g=>g)).trans (k _ _ _) (fun _ _ g=>g)
theorem abg {V w2:World} {k:aR} {hs:List bG} {a:ja} (s:cE k.aM hs) (hK:∀U,aC (fun b=>b<V.heap.size) w2 U->jo U a (aU k hs)) (hb:Below V.heap.size V w2) :
  gz V.heap.size w2.heap.size (w2.alloc (.cells (bc a (aU k hs)) 185)) (fun b=>b=w2.heap.size∨(V.heap.size<=b/\b<w2.heap.size)) k:=by
 have hz:=hb.size;refine⟨⟨hs,a,V.heap.size,w2.heap.size,s,bD w2 _ _,fun U hU=>hK U ?_,aH _,by simp,by omega,fun b=>Iff.rfl⟩,hz⟩;exact(aC.alloc (fun b=>b<V.heap.size) w2 _).trans hU (fun b hb g=>by omega)
theorem YY {lo mb:Nat} {w2 w3 w4:World} {D:Nat->Prop} {m:iM} {vr vo:Value} (hm:gz lo mb w2 D m.iZ) (h23:Below w2.heap.size w2 w3) (hr:w3.ownsRow w2.heap.size 77 13 vr m.procs.length (m.procs.flatMap bQ)) (h34:Below w3.heap.size w3 w4) (ho:w4.ownsRow w3.heap.size 91 2 vo m.out.length (m.out.flatMap jz)) :
  fQ (gz lo mb) lo mb w4.heap.size (w4.alloc (.cells #[.iface 183 (.pointer (some (Ad mb 0))),vr,vo] 191)) D vr vo (gZ m):=by
 have hlo:lo<=w2.heap.size:=by have:=hm.dom mb hm.inD;omega
 have s23:=h23.size;have s34:=h34.size;have hA:Below w4.heap.size w4 (w4.alloc (.cells #[.iface 183 (.pointer (some (Ad mb 0))),vr,vo] 191)):=(aJ _ _).alloc (aH _) _;have h2A:Below w2.heap.size w2 (w4.alloc (.cells #[.iface 183 (.pointer (some (Ad mb 0))),vr,vo] 191)):=(h23.trans (h34.mono s23)).trans (hA.mono (by omega));have hr4:=aC.row (aC.bY (D:=fun _=>False) h34) hr (fun _ _ g=>g);have lr:∀b,pI vr b->w2.heap.size<=b/\b<w3.heap.size:=fun b hb=>hr.lt b hb
 have lw:∀b,pI vo b->w3.heap.size<=b/\b<w4.heap.size:=fun b hb=>ho.lt b hb
 have ld:∀b,D b->b<w2.heap.size:=fun b hb=>(hm.dom b hb).2
 refine⟨bD w4 _ _,hm.kp (aC.bY (D:=fun _=>False) h2A) (fun _ _ g=>g),?_,?_,by omega,fun g=>by have:=ld _ g;omega,fun g=>by have:=lr _ g;omega,fun g=>by have:=lw _ g;omega,fun b hb g=>by have:=lr b hb;have:=ld _ g;omega,fun b hb g=>by have:=lw b hb;have:=ld _ g;omega,fun b hb g=>by have:=lr b hb;have:=lw b g;omega⟩
 · exact nX (aC.row (aC.bY (D:=fun _=>False) hA) hr4 (fun _ _ g=>g)) (fun g hg=>by have:=lr g hg;omega)
 · exact nX (aC.row (aC.bY (D:=fun _=>False) hA) ho (fun _ _ g=>g)) (fun g hg=>by have:=lw g hg;omega)
theorem YX {lo mb gb z:Nat} {w':World} {D':Nat->Prop} {NU NV:Value} {s:dA aR} (hg:fQ (gz lo mb) lo mb gb w' D' NU NV s) (hz:z<lo) :
  ∃s0 n0 q0 s1 n1 q1 s2 n2 q2 s3 n3 q3 hd a5 c5 a6 c6,(w'.cell? (Ad mb 0)=some (.slice s0 n0 q0)/\w'.cell? (Ad mb 1)=some (.slice s1 n1 q1)/\w'.cell? (Ad mb 2)=some (.slice s2 n2 q2)/\w'.cell? (Ad mb 3)=some (.slice s3 n3 q3)/\w'.cell? (Ad mb 4)=some (I hd)/\w'.cell? (Ad gb 1)=some (.slice a5 s.ps.length c5)/\w'.cell? (Ad gb 2)=some (.slice a6 s.out.length c6))/\(¬mb=z/\¬gb=z)/\∃hs a,cE s.mem.aM hs/\ia (mJ (yz s) hs) a a5 a6 c5 c6=#[.slice s0 n0 q0,.slice s1 n1 q1,.slice s2 n2 q2,.slice s3 n3 q3,I hd,.slice a5 s.ps.length c5,.slice a6 s.out.length c6]/\∀V,aC (fun b=>b<=z) w' V->uH V a a5 a6 (mJ (yz s) hs):=by
 obtain⟨a5,c5,rfl,_,_⟩:=bh hg.procs;obtain⟨a6,c6,rfl,_,_⟩:=bh hg.outs;obtain⟨⟨hs,a,n,sz,h1,h2,h3,h4,h5,h6,h7⟩,hb⟩:=hg.mem;have hgl:=fQ.lt (Pn lo mb) hg;obtain⟨e0,e1,e2,e3,e4⟩:=iI h2;refine⟨_,_,_,_,_,_,_,_,_,_,_,_,_,a5,c5,a6,c6,⟨e0,e1,e2,e3,e4,aq hg.head 1 rfl,aq hg.head 2 rfl⟩,⟨by omega,fun e=>by have:=hg.base;omega⟩,hs,a,h1,rfl,fun V hV=>⟨h3 V (hV.mono (fun b _ g=>by omega)),adF (hV.row hg.procs (fun b hb e=>by have:=(hgl b (.inr (.inr (.inl hb)))).1;omega)),adD (hV.row hg.outs (fun b hb e=>by have:=(hgl b (.inr (.inr (.inr hb)))).1;omega))⟩⟩
open Go.RowKit
open Go.RowKit
end Go.Proofs.YtlgoihmkgaaemaaGreat
