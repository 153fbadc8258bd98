import Derived.Test.YtlgoihmkgaaemaaGreatGN33
set_option maxHeartbeats 20000000
set_option linter.unusedVariables false
set_option maxRecDepth 100000
set_option linter.unusedSimpArgs false
namespace Go.Proofs.YtlgoihmkgaaemaaGreat
open Go.RowKit
structure uk where
 live:Bool
 aU:List aX
 pg:Int->ByteArray
structure yE where
 slots:Int
 CJ:List uk
def Gq:uk:=⟨false,[],fun _=>⟨#[]⟩⟩
def ik (l:List uk) (j:Nat):uk:=l.getD j Gq
def mJ (ar:List aX) (f:Int->ByteArray) (p:Int):ByteArray:=if (aY ar p).2=true then f p else ⟨#[]⟩
def Ai (old new:List aX) (f:Int->ByteArray) (p:Int):ByteArray:=if (aY new p).2=true then (if (aY old p).2=true then f p else vq) else ⟨#[]⟩
def pF:List uk->Int
 | []=>0
 | s::r=>bh s.aU+pF r
def ye (A:yE) (j:Nat) (s:uk):yE:=⟨A.slots,A.CJ.set j s⟩
def Gn (A:yE) (j:Nat) (a n way:Int):(ByteArray×(Int×Int))×yE :=
 if (bR (ik A.CJ j).aU a n way).1=0 then ((uy (ik A.CJ j).pg a n,(0,0)),A) else ((⟨#[]⟩,bR (ik A.CJ j).aU a n way),A)
def CZ (A:yE) (j:Nat) (a:Int) (d:ByteArray):(Int×Int)×yE :=
 if (bR (ik A.CJ j).aU a d.size 1).1=0 then ((0,0),ye A j ⟨(ik A.CJ j).live,(ik A.CJ j).aU,nA (ik A.CJ j).pg a d⟩) else (bR (ik A.CJ j).aU a d.size 1,A)
def pE (A:yE) (j:Nat) (r:List aX×Int) (n:Int):Int×yE :=
 if ¬r.2=0 then (r.2,A) else if A.slots<pF A.CJ+n then (8,A) else (0,ye A j ⟨(ik A.CJ j).live,r.1,Ai (ik A.CJ j).aU r.1 (ik A.CJ j).pg⟩)
def Gp (A:yE) (j:Nat):Int×yE :=
 if 4<=A.CJ.length then (2,A) else if A.slots<pF A.CJ+bh (ik A.CJ j).aU then (8,A) else (0,⟨A.slots,A.CJ++[ik A.CJ j]⟩)
def Z5:gH yE:=⟨Gn,CZ,fun A j p n q=>pE A j (dK (ik A.CJ j).aU p n q) n,fun A j p n=>pE A j (cR (ik A.CJ j).aU p n) 0,fun A j p n q=>pE A j (bV (ik A.CJ j).aU p n q) 0,Gp,fun A j=>ye A j Gq⟩
theorem NV {f g:Int->ByteArray} {a n:Int} (h1:f (a/16)=g (a/16)) (h2:f (cD a n)=g (cD a n)):nQ f a n=nQ g a n:=by grind [nQ]
theorem NU {f g:Int->ByteArray} {a n:Int} (h1:f (a/16)=g (a/16)) (h2:f (cD a n)=g (cD a n)):uy f a n=uy g a n:=by unfold uy;rw[NV h1 h2]
theorem IU {ar:List aX} {f:Int->ByteArray} {a:Int} {d:ByteArray} (h1:(aY ar (a/16)).2=true) (h2:(aY ar (cD a d.size)).2=true):nA (mJ ar f) a d=mJ ar (nA f a d):=by
 funext p;have e:wA (mJ ar f) a d=wA f a d:=by
  unfold wA;rw[NV (g:=f) (by grind [mJ]) (by grind [mJ])]
 grind [nA,mJ]
def lj (k:aT) (j:Nat):uk:=⟨(ak k.aj j).live,df k j,mJ (df k j) (cI k j)⟩
def eD (k:aT):yE:=⟨k.slots.length,(List.range k.aj.length).map (lj k)⟩
variable {k k':aT} {fl:List Bool} {j:Nat}
theorem qY (k:aT):(eD k).CJ.length=k.aj.length:=by simp[eD]
theorem qy (hj:j<k.aj.length):ik (eD k).CJ j=lj k j:=by
 unfold ik eD;simp[List.getD,hj]
theorem Ux {l r:List uk} (hn:l.length=r.length) (h:∀m,m<r.length->ik l m=ik r m):l=r:=by
 apply UK hn;intro i h1 h2;have:=h i h2;unfold ik at this
 grind
theorem aet (l:List uk) (j m:Nat) (s:uk) (hj:j<l.length):ik (l.set j s) m=if m=j then s else ik l m:=by unfold ik;grind
theorem ab7 (l:List uk) (m:Nat) (s:uk):ik (l++[s]) m=if m<l.length then ik l m else if m=l.length then s else Gq:=by unfold ik;grind
theorem IV (l:List uk) (s:uk):pF (l++[s])=pF l+bh s.aU:=by
 induction l with
 | nil=>simp[pF]
 | cons a r ih=>simp only[Dn,pF,ih];omega
theorem Rh (k:aT):∀n,pF ((List.range n).map (lj k))=jC k.aj n
 | 0=>rfl
 | n+1=>by
  rw[Pn,AE,UR,IV,Rh k n];rfl
theorem NT (k:aT):pF (eD k).CJ=eB k.aj:=Rh k _
theorem Z1 (hs:k'.slots.length=k.slots.length) (hn:k'.aj.length=k.aj.length) (h:∀m,m<k.aj.length->lj k' m=lj k m):eD k'=eD k:=by
 unfold eD;rw[hs,hn];congr 1;exact U3 (fun m hm=>h m (uJ.1 hm))
theorem Gr (hj:j<k.aj.length) (hs:k'.slots.length=k.slots.length) (hn:k'.aj.length=k.aj.length) (s:uk) (h:∀m,m<k.aj.length->lj k' m=if m=j then s else lj k m):eD k'=ye (eD k) j s:=by
 have e:(eD k').CJ=((eD k).CJ.set j s):=Ux (by rw[fJ,qY,qY,hn]) (fun m hm=>by
  rw[fJ,qY] at hm;rw[qy (by omega),aet _ _ _ _ (by rw[qY];exact hj),h m hm];split
  · rfl
  · rw[qy hm])
 show(⟨(eD k').slots,(eD k').CJ⟩:yE)=_;rw[e,show(eD k').slots=(eD k).slots by show(k'.slots.length:Int)=k.slots.length;rw[hs]];rfl
theorem C0 {m m':Nat} (h1:(ak k'.aj m').live=(ak k.aj m).live) (h2:(ak k'.aj m').aU=(ak k.aj m).aU) (h3:∀p,ez k m p->cI k' m' p=cI k m p):lj k' m'=lj k m:=by
 unfold lj df;rw[h1,h2];congr 1;funext p;unfold mJ;split
 · exact h3 p (by assumption)
 · rfl
theorem Z2 (h:dn k fl) (hk:fl.getD j false=true) {a n way:Int} (h1:1<=n) (h8:n<=8):Gn (eD k) j a n way=((gP k j a n way).1,eD (gP k j a n way).2):=by
 obtain⟨hj,hl⟩:=h.at_ hk;unfold Gn;rw[qy hj];by_cases g:(bR (df k j) a n way).1=0
 · rw[qK h1 h8 g,aC (show(bR (lj k j).aU a n way).1=0 from g)];obtain⟨m1,m2,_⟩:=mi h1 h8 g;have R:=nZ h.right hj a n way m1 m2;have e1:uy (lj k j).pg a n=ma k j a n way:=by
    rw[xo h.right hj a n way m1 m2];exact NU (aC m1) (aC m2)
   have e2:eD (bf k j a n way).2=eD k:=Z1 R.kept.ns R.kept.np (fun m hm=>C0 (R.kept.live m hm) (R.kept.aU m hm) (fun p _=>R.kept.Si m hm p));rw[e1,e2]
 · rw[tB h1 h8 g,aA (show ¬(bR (lj k j).aU a n way).1=0 from g)];rfl
theorem WV (h:dn k fl) (hk:fl.getD j false=true) {a:Int} {d:ByteArray} (h1:1<=d.size) (h8:d.size<=8):CZ (eD k) j a d=((jb k j a d).1,eD (jb k j a d).2):=by
 obtain⟨hj,hl⟩:=h.at_ hk;unfold CZ;rw[qy hj];by_cases g:(bR (df k j) a d.size 1).1=0
 · rw[qX g,aC (show(bR (lj k j).aU a d.size 1).1=0 from g)];obtain⟨m1,m2,_⟩:=mi (by omega) (by omega) g;have R:=wh h.right hj a d (by omega) (by omega) m1 m2;rw[Gr (k':=lC k j a d) hj R.ns R.np ⟨(lj k j).live,(lj k j).aU,nA (lj k j).pg a d⟩ (fun m hm=>?_)];by_cases c:m=j
   · subst c;rw[aC rfl];show(⟨_,_,_⟩:uk)=⟨_,_,nA (mJ (df k m) (cI k m)) a d⟩;rw[IU (ar:=df k m) m1 m2];have ea:df (lC k m a d) m=df k m:=R.aU m hm;have ep:cI (lC k m a d) m=nA (cI k m) a d:=funext fun p=>by rw[R.Si m hm,aC rfl]
     rw[R.live m hm,ea,ep];rfl
   · rw[aA c];exact C0 (R.live m hm) (R.aU m hm) (fun p _=>by rw[R.Si m hm,aA c])
 · rw[tA g,aA (show ¬(bR (lj k j).aU a d.size 1).1=0 from g)];rfl
theorem Ek (h:dn k fl) (hk:fl.getD j false=true) {r:List aX×Int} (n:Int) (hr:r.2=0->xp (df k j) r.1) (hn:r.2=0->(eB k.aj-bh (df k j)+bh r.1>(k.slots.length:Int)↔(k.slots.length:Int)<eB k.aj+n)):pE (eD k) j r n=((eH k j r).1,eD (eH k j r).2):=by
 obtain⟨hj,hl⟩:=h.at_ hk;unfold pE;rw[qy hj,NT];by_cases c:r.2=0
 · rw[aA (fun x=>x c)];have e:=hn c;by_cases c2:eB k.aj-bh (df k j)+bh r.1>(k.slots.length:Int)
   · rw[show eH k j r=(8,k) by grind [eH],aC (show(eD k).slots<_ from e.1 c2)]
   · rw[show eH k j r=(0,gF k j r.1) by grind [eH],aA (show ¬(eD k).slots<_ from fun x=>c2 (e.2 x))];obtain⟨p1,p2,p3,p4,p5,p6⟩:=qx k hj r.1;rw[Gr (k':=gF k j r.1) hj p4 p5 ⟨(lj k j).live,r.1,Ai (lj k j).aU r.1 (lj k j).pg⟩ (fun m hm=>?_)];have q:=p6 m hm;by_cases cm:m=j
     · subst cm;rw[aC rfl] at q ⊢;unfold lj df;rw[q];show(⟨_,_,mJ r.1 (cI (gF k m r.1) m)⟩:uk)=⟨_,_,Ai (df k m) r.1 (mJ (df k m) (cI k m))⟩;congr 1;funext p;unfold mJ Ai;by_cases f:(aY r.1 p).2=true
       · rw[aC f,aC f,IL h.right hm (hr c) hm (.inr f)];unfold df;by_cases f2:(aY (ak k.aj m).aU p).2=true
         · simp[f2]
         · simp[f2]
       · rw[aA f,aA f]
     · rw[aA cm];rw[aA (fun e=>cm e.symm)] at q;exact C0 (by rw[q]) (by rw[q]) (fun p _=>by rw[IL h.right hj (hr c) hm (.inl cm),aA (fun x=>cm x.1)])
 · rw[aC c,show eH k j r=(r.2,k) by grind [eH]]
theorem Z3 (h:dn k fl) (hk:fl.getD j false=true):Gp (eD k) j=((gu k j).1,eD (gu k j).2):=by
 obtain⟨hj,hl⟩:=h.at_ hk;have hc:=h.right.c.2.2.1;unfold Gp;rw[qy hj,NT,qY];by_cases c:k.aj.length=4
 · rw[show gu k j=(2,k) by grind [gu],aC (by omega)]
 rw[aA (by omega)];by_cases c2:eB k.aj+bh (df k j)>(k.slots.length:Int)
 · rw[show gu k j=(8,k) by grind [gu],aC (show(eD k).slots<_+bh (lj k j).aU from c2)]
 · rw[show gu k j=(0,gJ k j) by grind [gu],aA (show ¬(eD k).slots<_+bh (lj k j).aU from c2)];have F:=vt h.right hj;have e:(eD (gJ k j)).CJ=(eD k).CJ++[lj k j]:=Ux (by rw[qY,F.aj,fK,fK,qY];rfl) (fun m hm=>by
    rw[fK,qY] at hm;have hm:m<k.aj.length+1:=hm;have hs:ak (gJ k j).aj m=if m<k.aj.length then ak k.aj m else ak k.aj j:=by
     rw[F.aj,KS];by_cases z:m<k.aj.length
     · rw[aC z,aC z]
     · rw[aA z,aA z,aC (by omega)]
    rw[qy (by rw[F.aj,fK];exact hm),ab7,qY];by_cases z:m<k.aj.length
    · rw[aC z] at hs ⊢;rw[qy z];exact C0 (by rw[hs]) (by rw[hs]) (fun p _=>K9 h.right hj m m z hs p)
    · rw[aA z] at hs;rw[aA z,aC (by omega)];exact C0 (by rw[hs]) (by rw[hs]) (fun p _=>K9 h.right hj m j hj hs p))
   show(_,(⟨(eD k).slots,_⟩:yE))=(0,eD (gJ k j));rw[show eD (gJ k j)=⟨(eD (gJ k j)).slots,(eD (gJ k j)).CJ⟩ from rfl,e,show(eD (gJ k j)).slots=(eD k).slots by show((gJ k j).slots.length:Int)=k.slots.length;rw[F.ns]]
theorem Z4 (h:dn k fl) (hk:fl.getD j false=true):ye (eD k) j Gq=eD (jy k j):=by
 obtain⟨hj,hl⟩:=h.at_ hk;have hsp:(jy k j).aj=k.aj.set j qV:=by
  show(dD k j (fun _=>true)).aj.set j qV=_;rw[gL,pY]
 have hn:(jy k j).aj.length=k.aj.length:=by rw[hsp,fJ]
 rw[Gr (k':=jy k j) hj (mY k j (fun _=>true)).2.2.2 hn Gq (fun m hm=>?_)];have hs:ak (jy k j).aj m=if m=j then qV else ak k.aj m:=by rw[hsp];grind [iI]
 by_cases c:m=j
 · rw[aC c] at hs ⊢;unfold lj df;rw[hs];show(⟨false,[],mJ [] _⟩:uk)=Gq;unfold Gq;congr 1
 · rw[aA c] at hs ⊢;exact C0 (by rw[hs]) (by rw[hs]) (fun p _=>Wj h.right hj hm c p)
theorem Cs (h:dn k fl) (hj:j<k.aj.length):bk (df k j)=0:=(h.right.sp hj).aU
theorem ZZ:Ct fX Z5 dn eD where
 load:=fun s fl k a n way h hk h1 h8=>Z2 h hk h1 h8
 store:=fun s fl k a d h hk h1 h8=>WV h hk h1 h8
 map:=fun s fl k p n q h hk=>by
  have hj:=(h.at_ hk).1;show pE (eD s) k (dK (ik (eD s).CJ k).aU p n q) n=_;rw[qy hj];exact Ek h hk n (fun e=>(Ir e).2) (fun e=>by have h1:=VZ e (Cs h hj);have h0:bh (lj s k).aU=bh (df s k):=rfl;omega)
 pd:=fun s fl k p n h hk=>by
  have hj:=(h.at_ hk).1;show pE (eD s) k (cR (ik (eD s).CJ k).aU p n) 0=_;rw[qy hj];refine Ek h hk 0 (fun e=>(yM e).2) (fun e=>?_);have h1:=QL e (Cs h hj);have h0:bh (lj s k).aU=bh (df s k):=rfl;have h2:=h.right.room;exact⟨fun x=>by omega,fun x=>by omega⟩
 jt:=fun s fl k p n q h hk=>by
  have hj:=(h.at_ hk).1;show pE (eD s) k (bV (ik (eD s).CJ k).aU p n q) 0=_;rw[qy hj];refine Ek h hk 0 (fun e=>(Bi e).2) (fun e=>?_);have h1:=Ms e (Cs h hj);have h0:bh (lj s k).aU=bh (df s k):=rfl;have h2:=h.right.room;exact⟨fun x=>by omega,fun x=>by omega⟩
 fork:=fun s fl k h hk=>Z3 h hk
 drop:=fun s fl k h hk=>Z4 h hk
open Go.RowKit
theorem Bt (p q:Int) (d:ByteArray) (ps:List jW):cV q (pG p d ps)=if q=p then (cV p ps).map (fun _=>d) else cV q ps:=by
 induction ps with
 | nil=>simp[pG,cV]
 | cons x r ih=>unfold pG at ih ⊢;simp only[yZ,cV];grind
theorem Gl (q:Int) (a b:List jW):cV q (a++b)=(cV q a).or (cV q b):=by
 induction a with
 | nil=>rfl
 | cons x r ih=>simp only[Dn,cV];grind
theorem IW (q:Int):∀(n:Nat) (p:Int),cV q (xy p n)=if p<=q/\q<p+n then some MJ else none
 | 0,p=>by simp[xy,mn,cV]
 | n+1,p=>by
  have ih:=IW q n (p+1);unfold xy at ih ⊢;simp only[mn,yZ,cV,ih]
  grind
theorem ZV (q p n:Int) (ps:List jW):cV q (tX ps p n)=if p<=q/\q<p+n then none else cV q ps:=by
 induction ps with
 | nil=>simp[tX,cV]
 | cons x r ih=>unfold tX at ih ⊢;simp only[List.filter_cons,cV];grind [cV]
theorem WS (q:Int) (ps:List jW):(cV q ps).isSome=true↔q∈dg ps:=by
 induction ps with
 | nil=>simp[dg,cV]
 | cons x r ih=>unfold dg at ih ⊢;simp only[yZ,cV];grind
theorem ZW (q p:Int) (n:Nat) (ps:List jW) (h:p<=q/\q<p+n->cV q ps=none):cV q (sG ps p n)=if p<=q/\q<p+n then some MJ else cV q ps:=by
 have e:cV q ps=(cV q (ps.take (tY ps p))).or (cV q (ps.drop (tY ps p))):=by rw[<- Gl,U8]
 unfold sG;rw[Gl,Gl,IW];by_cases c:p<=q/\q<p+n
 · rw[aC c,aC c];have:=h c
   grind
 · rw[aA c,aA c,e]
   grind
def xu (s:mZ):uk:=⟨s.live,s.aU,mJ s.aU (oO s.aQ)⟩
def gw (m:rM):yE:=⟨m.slots,m.aj.map xu⟩
variable {m:rM} {fl:List Bool} {j:Nat}
theorem qZ (hj:j<m.aj.length):ik (gw m).CJ j=xu (bB m.aj j):=by
 unfold ik gw bB
 grind
theorem Ri {s:mZ} (h:qC s) (q:Int):(cV q s.aQ).isSome=true↔(aY s.aU q).2=true:=by
 rw[WS,h.nums];exact fu h.check
theorem El (m:rM) (j:Nat) (s:mZ):gw (oN m j s)=ye (gw m) j (xu s):=by
 unfold gw oN ye;rw[OZ]
theorem Gj:∀(n:Nat) (l:List mZ),l.length=n->pF (l.map xu)=jg l
 | 0,l,h=>by rw[jY h];rfl
 | n+1,l,h=>by
  rcases Pm l with rfl | ⟨r,s,rfl⟩
  · cases h
  · rw[Pk] at h ⊢;rw[AE,UR,IV,Gj n r (by simpa using h),LI];rfl
theorem MF.liv (h:qB m fl) (hk:fl.getD j false=true):j<m.aj.length/\qC (bB m.aj j)/\(bB m.aj j).live=true:=by
 obtain⟨hj,hl⟩:=h.live hk;exact⟨hj,xz (h.each j hj) hl,hl⟩
theorem ZR {s:mZ} (hs:qC s) {a:Int} {d:ByteArray} (h1:(aY s.aU (a/16)).2=true) (h2:(aY s.aU (cD a d.size)).2=true) (q:Int):oO (o8 s.aQ a d) q=nA (oO s.aQ) a d q:=by
 have f1:=(Ri hs _).2 h1;have f2:=(Ri hs _).2 h2;have ej:uB s.aQ a d.size=nQ (oO s.aQ) a d.size:=rfl;unfold o8;rw[ej];unfold nA wA;generalize iC (nQ (oO s.aQ) a d.size) (a%16).toNat d=L;have el:nT a d.size=cD a d.size:=rfl;rw[el];unfold oO;obtain⟨x1,e1⟩:=Pr.1 f1;obtain⟨x2,e2⟩:=Pr.1 f2;by_cases c:cD a d.size=a/16
 · rw[aC c,Bt,e1];by_cases q1:q=a/16
   · simp[q1]
   · simp[q1,c]
 · rw[aA c,Bt,Bt,Bt,e1,e2];by_cases q1:q=a/16
   · have:¬a/16=cD a d.size:=fun e=>c e.symm
     simp[q1,this]
   · by_cases q2:q=cD a d.size
     · simp[q2,c]
     · simp[q1,q2]
theorem TA (h:qB m fl) (hk:fl.getD j false=true) {a:Int} {d:ByteArray} (h1:1<=d.size) (h8:d.size<=8):CZ (gw m) j a d=((nD m j a d).1,gw (nD m j a d).2):=by
 obtain⟨hj,hs,hl⟩:=MF.liv h hk;unfold CZ;rw[qZ hj];by_cases g:(bR (bB m.aj j).aU a d.size 1).1=0
 · rw[aC (show(bR (xu (bB m.aj j)).aU a d.size 1).1=0 from g),show nD m j a d=((0,0),oN m j { bB m.aj j with aQ:=o8 (bB m.aj j).aQ a d }) by grind [nD]];obtain⟨_,hal,hau,hmap⟩:=rR (show 1<=(d.size:Int) by omega) (by omega) g;have m1:(aY (bB m.aj j).aU (a/16)).2=true:=by have:=hmap 0 (by omega) (by omega);rw[Dj] at this;exact this
   have m2:(aY (bB m.aj j).aU (cD a d.size)).2=true:=by
    have:=hmap ((d.size:Int)-1) (by omega) (by omega);unfold cD;rw[show a+(d.size:Int)-1=a+((d.size:Int)-1) by omega];exact this
   show(_,ye (gw m) j _)=(_,gw (oN m j _));rw[El];congr 2;show(⟨_,_,nA (mJ (bB m.aj j).aU (oO (bB m.aj j).aQ)) a d⟩:uk)=⟨_,_,mJ (bB m.aj j).aU (oO (o8 (bB m.aj j).aQ a d))⟩;rw[IU m1 m2,show oO (o8 (bB m.aj j).aQ a d)=nA (oO (bB m.aj j).aQ) a d from funext (ZR hs m1 m2)];rfl
 · rw[aA (show ¬(bR (xu (bB m.aj j)).aU a d.size 1).1=0 from g),show nD m j a d=(bR (bB m.aj j).aU a d.size 1,m) by grind [nD]];rfl
theorem WT (h:qB m fl) (hk:fl.getD j false=true) {a n way:Int} (h1:1<=n) (h8:n<=8):Gn (gw m) j a n way=((lJ m j a n way).1,gw (lJ m j a n way).2):=by
 obtain⟨hj,hs,hl⟩:=MF.liv h hk;unfold Gn;rw[qZ hj];by_cases g:(bR (bB m.aj j).aU a n way).1=0
 · rw[aC (show(bR (xu (bB m.aj j)).aU a n way).1=0 from g),show lJ m j a n way=((Gv (bB m.aj j).aQ a n,(0,0)),m) by grind [lJ]];obtain⟨_,hal,hau,hmap⟩:=rR h1 h8 g;have m1:(aY (bB m.aj j).aU (a/16)).2=true:=by have:=hmap 0 (by omega) (by omega);rw[Dj] at this;exact this
   have m2:(aY (bB m.aj j).aU (cD a n)).2=true:=by
    have:=hmap (n-1) (by omega) (by omega);unfold cD;rw[show a+n-1=a+(n-1) by omega];exact this
   rw[show uy (xu (bB m.aj j)).pg a n=Gv (bB m.aj j).aQ a n from NU (aC m1) (aC m2)]
 · rw[aA (show ¬(bR (xu (bB m.aj j)).aU a n way).1=0 from g),show lJ m j a n way=((⟨#[]⟩,bR (bB m.aj j).aU a n way),m) by grind [lJ]];rfl
theorem Ej (h:qB m fl) (hk:fl.getD j false=true) {r:List aX×Int} {ps:List jW} (hp:∀q,(aY r.1 q).2=true->oO ps q=if (aY (bB m.aj j).aU q).2=true then oO (bB m.aj j).aQ q else vq):ye (gw m) j ⟨(xu (bB m.aj j)).live,r.1,Ai (xu (bB m.aj j)).aU r.1 (xu (bB m.aj j)).pg⟩=gw (oN m j { bB m.aj j with aU:=r.1,aQ:=ps }):=by
 rw[El];congr 1;show(⟨_,_,Ai (bB m.aj j).aU r.1 (mJ (bB m.aj j).aU (oO (bB m.aj j).aQ))⟩:uk)=⟨_,_,mJ r.1 (oO ps)⟩;congr 1;funext q;unfold Ai mJ;by_cases c:(aY r.1 q).2=true
 · rw[aC c,aC c,hp q c];by_cases c2:(aY (bB m.aj j).aU q).2=true
   · simp[c2]
   · simp[c2]
 · rw[aA c,aA c]
theorem ab4 {s:mZ} (hs:qC s) {q:Int} (h:¬(aY s.aU q).2=true):cV q s.aQ=none:=by
 have:=Ri hs q;cases e:cV q s.aQ with
 | none=>rfl
 | some x=>rw[e] at this;exact absurd (this.1 rfl) h
theorem Z0:Ct Eu Z5 qB gw where
 load:=fun s fl k a n way h hk h1 h8=>WT h hk h1 h8
 store:=fun s fl k a d h hk h1 h8=>TA h hk h1 h8
 map:=fun s fl k p n q h hk=>by
  obtain⟨hj,hs,hl⟩:=MF.liv h hk;show pE (gw s) k (dK (ik (gw s).CJ k).aU p n q) n=((zB s k p n q).1,gw (zB s k p n q).2);rw[qZ hj];unfold pE zB;rw[qZ hj,show pF (gw s).CJ=jg s.aj from Gj _ _ rfl];show(if ¬(dK (bB s.aj k).aU p n q).2=0 then _ else _)=_;by_cases c:(dK (bB s.aj k).aU p n q).2=0
  · simp only[c,Dq,tI];by_cases c2:s.slots<jg s.aj+n
    · rw[aC (show(gw s).slots<_ from c2),aC c2]
    · rw[aA (show ¬(gw s).slots<_ from c2),aA c2];obtain⟨g1,g2,g3,g4⟩:=Es hs.check c;have:=Ej h hk (r:=dK (bB s.aj k).aU p n q) (ps:=sG (bB s.aj k).aQ p n.toNat) (fun x hx=>by
       have hn:((n.toNat:Nat):Int)=n:=by omega
       have e:=ZW x p n.toNat (bB s.aj k).aQ (fun y=>ab4 hs (fun z=>g4 x y.1 (by omega) ((fu hs.check).2 z)));unfold oO;rw[e,hn];have hx:=(g3 x).1 ((fu g1).2 hx);by_cases z:p<=x/\x<p+n
       · rw[aC z,aA (fun y=>g4 x z.1 z.2 ((fu hs.check).2 y))];rfl
       · rw[aA z,aC ((fu hs.check).1 (hx.resolve_right z))])
      rw[<- this];rfl
  · simp only[c,Dp,tH];rfl
 pd:=fun s fl k p n h hk=>by
  obtain⟨hj,hs,hl⟩:=MF.liv h hk;show pE (gw s) k (cR (ik (gw s).CJ k).aU p n) 0=((tW s k p n).1,gw (tW s k p n).2);rw[qZ hj];unfold pE tW;rw[qZ hj,show pF (gw s).CJ=jg s.aj from Gj _ _ rfl];show(if ¬(cR (bB s.aj k).aU p n).2=0 then _ else _)=_;have hr:=h.room;by_cases c:(cR (bB s.aj k).aU p n).2=0
  · simp only[c,Dq,tI];rw[aA (show ¬(gw s).slots<jg s.aj+0 from fun x=>by have x:s.slots<jg s.aj+0:=x;omega)];obtain⟨g1,g2,g3⟩:=Gu hs.check c;have:=Ej h hk (r:=cR (bB s.aj k).aU p n) (ps:=tX (bB s.aj k).aQ p n) (fun x hx=>by
     have hx:=(g3 x).1 ((fu g1).2 hx);unfold oO;rw[ZV,aA hx.2,aC ((fu hs.check).1 hx.1)])
    rw[<- this];rfl
  · simp only[c,Dp,tH];rfl
 jt:=fun s fl k p n q h hk=>by
  obtain⟨hj,hs,hl⟩:=MF.liv h hk;show pE (gw s) k (bV (ik (gw s).CJ k).aU p n q) 0=((pH s k p n q).1,gw (pH s k p n q).2);rw[qZ hj];unfold pE pH;rw[qZ hj,show pF (gw s).CJ=jg s.aj from Gj _ _ rfl];show(if ¬(bV (bB s.aj k).aU p n q).2=0 then _ else _)=_;have hr:=h.room;by_cases c:(bV (bB s.aj k).aU p n q).2=0
  · simp only[c,Dq,tI];rw[aA (show ¬(gw s).slots<jg s.aj+0 from fun x=>by have x:s.slots<jg s.aj+0:=x;omega)];obtain⟨g1,g2⟩:=C5 hs.check c;have:=Ej h hk (r:=bV (bB s.aj k).aU p n q) (ps:=(bB s.aj k).aQ) (fun x hx=>by
     have hx:=(fu g1).2 hx;rw[g2] at hx;rw[aC ((fu hs.check).1 hx)])
    rw[show oN s k { live:=(bB s.aj k).live,aU:=(bV (bB s.aj k).aU p n q).1,aQ:=(bB s.aj k).aQ }=oN s k { bB s.aj k with aU:=(bV (bB s.aj k).aU p n q).1,aQ:=(bB s.aj k).aQ } from rfl,<- this];rfl
  · simp only[c,Dp,tH];rfl
 fork:=fun s fl k h hk=>by
  obtain⟨hj,hs,hl⟩:=MF.liv h hk;show Gp (gw s) k=((uC s k).1,gw (uC s k).2);unfold Gp uC;rw[qZ hj,show pF (gw s).CJ=jg s.aj from Gj _ _ rfl,show(gw s).CJ.length=s.aj.length by simp[gw]];show(if 4<=s.aj.length then _ else if s.slots<jg s.aj+bh (bB s.aj k).aU then _ else _)=_;by_cases c:4<=s.aj.length
  · simp only[c,tH]
  · by_cases c2:s.slots<jg s.aj+bh (bB s.aj k).aU
    · simp only[c,c2,tH,tI]
    · simp only[c,c2,tI];simp[gw]
 drop:=fun s fl k h hk=>by
  show ye (gw s) k Gq=gw (oN s k Jz);rw[El];rfl
open Go.RowKit
variable {σ τ υ:Type}
theorem WO {o:gH σ} {o':gH τ} {b:gH υ} {Ok:σ->List Bool->Prop} {Ok':τ->List Bool->Prop} {f:σ->υ} {g:τ->υ} (S:Ct o b Ok f) (S':Ct o' b Ok' g) (ho:qE o Ok) (ho':qE o' Ok') {s:dE σ} {s':dE τ} (h:dh Ok s) (h':dh Ok' s') (e:jf f s=jf g s') (picks:List Int) (n:Nat):(dG o picks n (some s)).map (jf f)=(dG o' picks n (some s')).map (jf g):=by
 rw[<- zy S ho h,<- zy S' ho' h',e]
theorem NR (o:gH σ) (picks:List Int):∀n,dG o picks n none=none
 | 0=>rfl
 | n+1=>by show(match dG o picks n none with | none=>none | some s=>_)=none;rw[NR o picks n]
theorem Rf (o:gH σ) (picks:List Int) (k:Nat) (st:Option (dE σ)):∀m,dG o picks (k+m) st=dG o (picks.drop k) m (dG o picks k st)
 | 0=>rfl
 | m+1=>by
  show(match dG o picks (k+m) st with | none=>none | some s=>_)=(match dG o (picks.drop k) m (dG o picks k st) with | none=>none | some s=>_);rw[Rf o picks k st m,show(picks.drop k).getD m 0=picks.getD (k+m) 0 by simp[List.getD]];rfl
theorem NQ (o:gH σ) (picks:List Int) (k:Nat) (st:Option (dE σ)):∀m,m<=k->dG o (picks.take k) m st=dG o picks m st
 | 0,_=>rfl
 | m+1,h=>by
  show(match dG o (picks.take k) m st with | none=>none | some s=>_)=(match dG o picks m st with | none=>none | some s=>_);rw[NQ o picks k st m (by omega),show(picks.take k).getD m 0=picks.getD m 0 by simp[List.getD,UQ,show m<k by omega]]
open Go.RowKit
structure Z6 (l:List aX) (hs:List bJ):Prop where
 check:bk l=0
 plain:∀p,(aY l p).2=true->(aY l p).1.zero=false
 aQ:hs.map (·.page)=dH l
 mr:gX hs=true
 fine:∀s∈hs,di s=true
 few:hs.length<=255
variable {l:List aX} {hs:List bJ} {nf ns:Int}
theorem Tz (p:Int) (hs:List bJ):(iJ hs p).isSome=true↔p∈hs.map (·.page):=by
 unfold iJ;rw[List.find?_isSome];simp
theorem Z6.aiO (h:Z6 l hs) {p:Int} (hp:(aY l p).2=true):(iJ hs p).isSome=true:=by
 rw[Tz,h.aQ];exact(fu h.check).2 hp
theorem LA (l:List aX) (kd a:Int):bW [⟨true,l,[]⟩] kd a=[]:=rfl
theorem IY (h:Z6 l hs) (h3:3<=nf) (h64:nf<=64) (h0:0<=ns) (h5:ns<=512) (ht:bh l<=ns):aZ (ni l hs nf ns):=by
 have ef:(ni l hs nf ns).frames.length=nf.toNat:=uK;have es:(ni l hs nf ns).slots.length=ns.toNat:=uK;refine⟨?_,h.mr,⟨by show(0:Int)<=0;omega,by rw[ef];show(0:Int)<_;omega⟩,fun s hs'=>?_,?_,fun i hi=>?_,fun i hi=>?_⟩
 · unfold nB;rw[ef,es];exact gZ ⟨by omega,by omega,⟨aI 1,by show 1<=4;omega⟩,h.few⟩
 · have e:s=⟨true,l,[]⟩:=by simpa [ni] using hs'
   subst e;exact⟨fun x=>(by cases x),h.check,List.Pairwise.nil,fun e he=>(by cases he),fun p hp _=>h.aiO hp⟩
 · rw[es];show(0:Int)+bh l<=_;omega
 · show lN _ (bW [⟨true,l,[]⟩] 1 i) (aH (List.replicate nf.toNat gM) i);rw[LA,show aH (List.replicate nf.toNat gM) i=gM by unfold aH;grind];exact⟨rfl,fun _=>rfl,fun x hx=>(by cases hx),fun x=>absurd rfl x,fun _ x hx=>(by cases hx)⟩
 · show oM (bW [⟨true,l,[]⟩] 2 i) (bH (List.replicate ns.toNat nK) i);rw[LA,show bH (List.replicate ns.toNat nK) i=nK by unfold bH;grind];exact⟨rfl,fun _=>rfl,fun x hx=>(by cases hx),fun x=>absurd rfl x⟩
theorem Gk (p:Int):∀hs:List bJ,(∀s∈hs,di s=true)->cV p (hs.map fun s=>⟨s.page,(mK s).1⟩)=(iJ hs p).map rA
 | [],_=>rfl
 | s::r,h=>by
  have ih:=Gk p r (fun x hx=>h x (G6 _ hx));have e:(mK s).1=rA s:=by unfold mK;rw[aC (h s Dt)]
  unfold iJ at ih ⊢;simp only[yZ,cV,List.find?_cons,e];by_cases c:s.page=p
  · simp[c]
  · simp[c,ih]
theorem ab5 (h:Z6 l hs) (h0:0<=ns):eD (ni l hs nf ns)=gw ⟨ns,[⟨true,l,hs.map fun s=>⟨s.page,(mK s).1⟩⟩]⟩:=by
 have es:((ni l hs nf ns).slots.length:Int)=ns:=by show((List.replicate ns.toNat nK).length:Int)=ns;rw[uK];omega
 have ea:lj (ni l hs nf ns) 0=xu ⟨true,l,hs.map fun s=>⟨s.page,(mK s).1⟩⟩:=by
  show(⟨true,l,mJ l (cI (ni l hs nf ns) 0)⟩:uk)=⟨true,l,mJ l (oO (hs.map fun s=>⟨s.page,(mK s).1⟩))⟩;congr 1;funext p;unfold mJ;by_cases c:(aY l p).2=true
  · rw[aC c,aC c];unfold oO;rw[Gk p hs h.fine];show gm hs p (aY l p).1.zero=_;unfold gm fq;rw[h.plain p c];obtain⟨s,e⟩:=Pr.1 (h.aiO c);rw[e];rfl
  · rw[aA c,aA c]
 unfold eD gw;rw[es];show(⟨ns,[lj (ni l hs nf ns) 0]⟩:yE)=_;rw[ea];rfl
open Go.RowKit
theorem WN (p:Int):∀n,mn p n=(List.range n).map (fun m:Nat=>p+(m:Int)):=fun n=>by
 induction n with
 | zero=>rfl
 | succ n ih=>rw[N2,ih,Pn,AE];rfl
theorem ZX (l:List aX):mM l=dH l:=by
 have:∀n,n<=l.length->fC l n=xC l n:=fun n=>by
  induction n with
  | zero=>intro _;unfold xC;rfl
  | succ n ih =>
   intro h;rw[OM l n (by omega),<- ih (by omega),WN];rfl
 unfold mM;rw[this l.length (aI _)];unfold xC;rw[vK]
theorem ZY {l:List aX} {hs:List bJ} {en:Int} (h:lu l hs en=0):Z6 l hs:=by
 obtain⟨r1,r2,r3⟩:=Ii h;have hp:hs.map (·.page)=dH l:=by
  unfold lu at h;rw[aC r1] at h;rw[<- ZX];have:jK l hs=true:=by grind
  exact oP this
 have hin:zi l hs hs.length=true:=by
  rw[Ih] at h;unfold Hg at h;rw[aC r1] at h
  grind
 refine⟨r1,fun p c=>?_,hp,r2,fun s hs'=>?_,?_⟩
 · have hm:p∈hs.map (·.page):=by rw[hp];exact(fu r1).2 c
   obtain⟨k,hk,e⟩:=Mm hs p hm;have hi:=DA l hs hs.length hin k hk;unfold DB at hi;rw[e] at hi;have:aY l p=bY l p:=by
    unfold aY at c ⊢
    grind
   rw[this]
   grind
 · obtain⟨k,hk,e⟩:=List.getElem_of_mem hs';have:=(qR hs hs.length r2 k hk).1;rw[show bl hs k=s by rw[<- e];unfold bl;grind] at this;exact this
 · have e:hs.length=(dH l).length:=by rw[<- hp,ia]
   have s1:=yQ.sorted (oC r1);have:=mU (mn 1 255) (dH l) s1 (uD _ _) (fun x hx=>(pS _ _ _).2 (by have:=TJ r1 hx;omega));rw[Cx] at this;omega
open Go.RowKit
open Go.RowKit
variable {k:aT} {fl:List Bool} {j:Nat} {hs:List bJ}
structure WJ (hs:List bJ) (k:aT) (fl:List Bool):Prop where
 ok:dn k fl
 same:cC k.aM hs
theorem WG (h:dn k fl) (hk:fl.getD j false=true) (a n way:Int):(gP k j a n way).2.aM=k.aM:=by
 obtain⟨hj,hl⟩:=h.at_ hk;by_cases c:1<=n/\n<=8
 · by_cases g:(bR (df k j) a n way).1=0
   · rw[qK c.1 c.2 g];obtain⟨m1,m2,_⟩:=mi c.1 c.2 g;exact(nZ h.right hj a n way m1 m2).kept.aM
   · rw[tB c.1 c.2 g]
 · rw[Gm c]
theorem WE (h:dn k fl) (hk:fl.getD j false=true) (s:cC k.aM hs) (a n way:Int) (h1:1<=n) (h8:n<=8):gP (aV k hs) j a n way=((gP k j a n way).1,aV (gP k j a n way).2 hs):=by
 obtain⟨hj,hl⟩:=h.at_ hk;by_cases g:(bR (df k j) a n way).1=0
 · obtain⟨m1,m2,_⟩:=mi h1 h8 g;have e:ma (aV k hs) j a n way=ma k j a n way:=by
    rw[xo h.right hj a n way m1 m2,xo (h.right.wT s) hj a n way m1 m2];congr 1;funext p;exact Iw s j p
   rw[qK h1 h8 g,qK (k:=aV k hs) h1 h8 g,e,sY h.right hj m1 s]
 · rw[tB h1 h8 g,tB (k:=aV k hs) h1 h8 g];rfl
theorem Tw (h:dn k fl) (hk:fl.getD j false=true) (a:Int) (d:ByteArray) (h1:1<=d.size) (h8:d.size<=8):(jb k j a d).2.aM=k.aM:=by
 obtain⟨hj,hl⟩:=h.at_ hk;by_cases g:(bR (df k j) a d.size 1).1=0
 · rw[qX g];obtain⟨m1,m2,_⟩:=mi (by omega) (by omega) g;exact(wh h.right hj a d (by omega) (by omega) m1 m2).aM
 · rw[tA g]
theorem Tv (h:dn k fl) (hk:fl.getD j false=true) (s:cC k.aM hs) (a:Int) (d:ByteArray) (h1:1<=d.size) (h8:d.size<=8):jb (aV k hs) j a d=((jb k j a d).1,aV (jb k j a d).2 hs):=by
 obtain⟨hj,hl⟩:=h.at_ hk;by_cases g:(bR (df k j) a d.size 1).1=0
 · obtain⟨m1,m2,_⟩:=mi (by omega) (by omega) g;rw[qX g,qX (k:=aV k hs) g,FO h.right hj m1 s]
 · rw[tA g,tA (k:=aV k hs) g];rfl
theorem Eh (h:dn k fl) (hk:fl.getD j false=true) (r:List aX×Int):(eH k j r).2.aM=k.aM:=by
 obtain⟨hj,hl⟩:=h.at_ hk;unfold eH
 repeat' split
 · rfl
 · rfl
 · exact(qx k hj r.1).1
theorem Eg (k:aT) (hs:List bJ) (j:Nat) (r:List aX×Int):eH (aV k hs) j r=((eH k j r).1,aV (eH k j r).2 hs):=by
 unfold eH;show(if ¬r.2=0 then (r.2,aV k hs) else if eB k.aj-bh (df k j)+bh r.1>(k.slots.length:Int) then (8,aV k hs) else (0,gF (aV k hs) j r.1))=_;rw[Gc]
 repeat' split
 all_goals rfl
theorem Lz (h:dn k fl) (hk:fl.getD j false=true):(gu k j).2.aM=k.aM:=by
 obtain⟨hj,hl⟩:=h.at_ hk;unfold gu
 repeat' split
 · rfl
 · rfl
 · exact(vt h.right hj).aM
theorem WH (k:aT) (hs:List bJ) (j:Nat):gu (aV k hs) j=((gu k j).1,aV (gu k j).2 hs):=by
 unfold gu;show(if k.aj.length=4 then (2,aV k hs) else if eB k.aj+bh (df k j)>(k.slots.length:Int) then (8,aV k hs) else (0,gJ (aV k hs) j))=_;rw[IG]
 repeat' split
 all_goals rfl
theorem ZL (hs:List bJ):Ct fX fX (WJ hs) (fun k=>aV k hs) where
 load:=fun s fl k a n way h hk h1 h8=>WE h.ok hk h.same a n way h1 h8
 store:=fun s fl k a d h hk h1 h8=>Tv h.ok hk h.same a d h1 h8
 map:=fun s fl k p n q h hk=>Eg s hs k _
 pd:=fun s fl k p n h hk=>Eg s hs k _
 jt:=fun s fl k p n q h hk=>Eg s hs k _
 fork:=fun s fl k h hk=>WH s hs k
 drop:=fun s fl k h hk=>II s hs k
theorem tv {k k':aT} (h:k'.aM=k.aM) (s:cC k.aM hs):cC k'.aM hs:=by rw[h];exact s
theorem Rc (hs:List bJ):qE fX (WJ hs) where
 load:=fun s fl k a n way h hk=>⟨iq.load s fl k a n way h.ok hk,tv (WG h.ok hk a n way) h.same⟩
 size:=fun s fl k a n way h hk=>iq.size s fl k a n way h.ok hk
 fault:=fun s fl k a n way h hk=>iq.fault s fl k a n way h.ok hk
 none:=fun s fl k a n way h hk=>iq.none s fl k a n way h.ok hk
 store:=fun s fl k a d h hk h1 h8=>⟨iq.store s fl k a d h.ok hk h1 h8,tv (Tw h.ok hk a d h1 h8) h.same⟩
 P5:=fun s fl k a d h hk=>iq.P5 s fl k a d h.ok hk
 map:=fun s fl k p n q h hk=>⟨iq.map s fl k p n q h.ok hk,tv (Eh h.ok hk _) h.same⟩
 pd:=fun s fl k p n h hk=>⟨iq.pd s fl k p n h.ok hk,tv (Eh h.ok hk _) h.same⟩
 jt:=fun s fl k p n q h hk=>⟨iq.jt s fl k p n q h.ok hk,tv (Eh h.ok hk _) h.same⟩
 P4:=fun s fl k h hk g=>⟨iq.P4 s fl k h.ok hk g,tv (Lz h.ok hk) h.same⟩
 JW:=fun s fl k h hk g=>⟨iq.JW s fl k h.ok hk g,tv (Lz h.ok hk) h.same⟩
 afj:=fun s fl k p n q h hk=>iq.afj s fl k p n q h.ok hk
 PL:=fun s fl k p n h hk=>iq.PL s fl k p n h.ok hk
 Fa:=fun s fl k p n q h hk=>iq.Fa s fl k p n q h.ok hk
 few:=fun s fl h=>iq.few s fl h.ok
 drop:=fun s fl k h hk=>⟨iq.drop s fl k h.ok hk,tv ((mY s k (fun _=>true)).1) h.same⟩
theorem ZO {s:dE aT} (h:dh dn s) (g:cC s.mem.aM hs):dh (WJ hs) s:=⟨⟨h.mem,g⟩,h.fit,h.right,h.words,h.out⟩
theorem agB {s:dE aT} (h:dh (WJ hs) s):dh dn s/\cC s.mem.aM hs:=⟨⟨h.mem.ok,h.fit,h.right,h.words,h.out⟩,h.mem.same⟩
theorem Gh {s:dE aT} (h:dh dn s) (g:cC s.mem.aM hs):dh dn (jf (fun k=>aV k hs) s):=⟨⟨h.mem.right.wT g,h.mem.flags⟩,h.fit,h.right,h.words,h.out⟩
theorem Re {m:iF} (h:dh dn (gG m)):jD m=0:=Oz h
theorem xt {m:iF} (h:dh dn (gG m)) (picks:List Int):dU m picks=if 2000<picks.length then ((wE,2):iF×Int) else match dG fX picks picks.length (some (gG m)) with
  | none=>(wE,2)
  | some s=>(wD s,0):=by
 unfold dU Ag wF;rw[aA (fun g=>g (Re h))];by_cases c:2000<picks.length
 · rw[aC c,aC c];rfl
 · rw[aA c,aA c];cases dG fX picks picks.length (some (gG m)) with
   | none=>rfl
   | some s=>rfl
theorem Lv {m:iF} (h:dh dn (gG m)) (picks:List Int):dU m picks=(wE,2)∨∃s,picks.length<=2000/\dG fX picks picks.length (some (gG m))=some s/\dh dn s/\dU m picks=(wD s,0):=by
 rw[xt h];by_cases c:2000<picks.length
 · rw[aC c];exact .inl rfl
 · rw[aA c];cases e:dG fX picks picks.length (some (gG m)) with
   | none=>exact .inl rfl
   | some s=>exact .inr ⟨s,by omega,rfl,vw iq h picks _ s e,rfl⟩
theorem ZM {m:iF} (h:dh dn (gG m)) {hs:List bJ} (g:cC m.il.aM hs) (picks:List Int):∃hs',cC (dU m picks).1.il.aM hs'/\dU (lI m hs) picks=(lI (dU m picks).1 hs',(dU m picks).2):=by
 have h':dh dn (gG (lI m hs)):=Gh h g;have e:=zy (ZL hs) (Rc hs) (ZO h g) picks picks.length;have e':dG fX picks picks.length (some (gG (lI m hs)))=(dG fX picks picks.length (some (gG m))).map (jf (fun k=>aV k hs)):=e;rw[xt h,xt h',e'];by_cases c:2000<picks.length
 · rw[aC c,aC c];exact⟨[],rfl,rfl⟩
 · rw[aA c,aA c];cases f:dG fX picks picks.length (some (gG m)) with
   | none=>exact⟨[],rfl,rfl⟩
   | some s=>exact⟨hs,(agB (vw (Rc hs) (ZO h g) picks _ s f)).2,rfl⟩
open Go.RowKit
def tU (w:World) (r:iF×Int) (e:Ending) (w':World):Prop:=∃hs a ar cr ao co,cC r.1.il.aM hs/\e=.returned (.tuple #[.agg (ig (lI r.1 hs) a ar ao cr co),I r.2])/\(∀V,aD (fun b=>b<w.heap.size) w' V->uR V a ar ao (lI r.1 hs))/\Below w.heap.size w w'
def Us:jc:=⟨none,0,none,0,none,0,none,0⟩
theorem aeh (w:World):uR w Us none none (lI wE []):=⟨⟨fun h=>absurd h (ky _),fun h=>absurd h (ky _),fun h=>absurd h (ky _),fun h=>absurd h (ky _)⟩,fun h=>absurd h (ky _),fun h=>absurd h (ky _)⟩
theorem My {w w':World} (er:Int) (hb:Below w.heap.size w w'):tU w (wE,er) (.returned (.tuple #[.agg #[Nl,Nl,Nl,Nl,I 0,Nl,Nl],I er])) w':=⟨[],Us,none,0,none,0,rfl,rfl,fun V _=>aeh V,hb⟩
theorem pO (W:World) (b:Nat) (v0 v1 v2 v3 v4 v5 v6:Value):aD (fun x=>x=b) W (((((((W.setCell (Ad b 0) v0).setCell (Ad b 1) v1).setCell (Ad b 2) v2).setCell (Ad b 3) v3).setCell (Ad b 4) v4).setCell (Ad b 5) v5).setCell (Ad b 6) v6):=by
 have k:∀(A:World) (i:Nat) (v:Value),aD (fun x=>x=b) A (A.setCell (Ad b i) v):=fun A i v=>aD.set _ A (Ad b i) v rfl
 exact((Q7 W b v0 v1 v2 v3 v4).trans (k _ _ _) (fun _ _ g=>g)).trans (k _ _ _) (fun _ _ g=>g)
theorem abS {V w2:World} {k:aT} {hs:List bJ} {a:jc} (s:cC k.aM hs) (hK:∀U,aD (fun b=>b<V.heap.size) w2 U->jd U a (aV k hs)) (hb:Below V.heap.size V w2) :
  gB V.heap.size w2.heap.size (w2.alloc (.cells (bg a (aV k hs)) 185)) (fun b=>b=w2.heap.size∨(V.heap.size<=b/\b<w2.heap.size)) k:=by
 have hz:=hb.size;refine⟨⟨hs,a,V.heap.size,w2.heap.size,s,bE w2 _ _,fun U hU=>hK U ?_,aI _,by simp,by omega,fun b=>Iff.rfl⟩,hz⟩;exact(aD.alloc (fun b=>b<V.heap.size) w2 _).trans hU (fun b hb g=>by omega)
theorem Zr {lo mb:Nat} {w2 w3 w4:World} {D:Nat->Prop} {m:iF} {vr vo:Value} (hm:gB lo mb w2 D m.il) (h23:Below w2.heap.size w2 w3) (hr:w3.ownsRow w2.heap.size 77 13 vr m.procs.length (m.procs.flatMap bU)) (h34:Below w3.heap.size w3 w4) (ho:w4.ownsRow w3.heap.size 91 2 vo m.out.length (m.out.flatMap jE)) :
  fW (gB lo mb) lo mb w4.heap.size (w4.alloc (.cells #[.iface 183 (.pointer (some (Ad mb 0))),vr,vo] 191)) D vr vo (gG m):=by
 have hlo:lo<=w2.heap.size:=by have:=hm.dom mb hm.inD;omega
 have s23:=h23.size;have s34:=h34.size;have hA:Below w4.heap.size w4 (w4.alloc (.cells #[.iface 183 (.pointer (some (Ad mb 0))),vr,vo] 191)):=(aK _ _).alloc (aI _) _;have h2A:Below w2.heap.size w2 (w4.alloc (.cells #[.iface 183 (.pointer (some (Ad mb 0))),vr,vo] 191)):=(h23.trans (h34.mono s23)).trans (hA.mono (by omega));have hr4:=aD.row (aD.b9 (D:=fun _=>False) h34) hr (fun _ _ g=>g);have lr:∀b,pQ vr b->w2.heap.size<=b/\b<w3.heap.size:=fun b hb=>hr.lt b hb
 have lw:∀b,pQ vo b->w3.heap.size<=b/\b<w4.heap.size:=fun b hb=>ho.lt b hb
 have ld:∀b,D b->b<w2.heap.size:=fun b hb=>(hm.dom b hb).2
 refine⟨bE w4 _ _,hm.kp (aD.b9 (D:=fun _=>False) h2A) (fun _ _ g=>g),?_,?_,by omega,fun g=>by have:=ld _ g;omega,fun g=>by have:=lr _ g;omega,fun g=>by have:=lw _ g;omega,fun b hb g=>by have:=lr b hb;have:=ld _ g;omega,fun b hb g=>by have:=lw b hb;have:=ld _ g;omega,fun b hb g=>by have:=lr b hb;have:=lw b g;omega⟩
 · exact oh (aD.row (aD.b9 (D:=fun _=>False) hA) hr4 (fun _ _ g=>g)) (fun g hg=>by have:=lr g hg;omega)
 · exact oh (aD.row (aD.b9 (D:=fun _=>False) hA) ho (fun _ _ g=>g)) (fun g hg=>by have:=lw g hg;omega)
theorem Zq {lo mb gb z:Nat} {w':World} {D':Nat->Prop} {Ob Oc:Value} {s:dE aT} (hg:fW (gB lo mb) lo mb gb w' D' Ob Oc s) (hz:z<lo) :
  ∃s0 n0 q0 s1 n1 q1 s2 n2 q2 s3 n3 q3 hd a5 c5 a6 c6,(w'.cell? (Ad mb 0)=some (.slice s0 n0 q0)/\w'.cell? (Ad mb 1)=some (.slice s1 n1 q1)/\w'.cell? (Ad mb 2)=some (.slice s2 n2 q2)/\w'.cell? (Ad mb 3)=some (.slice s3 n3 q3)/\w'.cell? (Ad mb 4)=some (I hd)/\w'.cell? (Ad gb 1)=some (.slice a5 s.ps.length c5)/\w'.cell? (Ad gb 2)=some (.slice a6 s.out.length c6))/\(¬mb=z/\¬gb=z)/\∃hs a,cC s.mem.aM hs/\ig (lI (wD s) hs) a a5 a6 c5 c6=#[.slice s0 n0 q0,.slice s1 n1 q1,.slice s2 n2 q2,.slice s3 n3 q3,I hd,.slice a5 s.ps.length c5,.slice a6 s.out.length c6]/\∀V,aD (fun b=>b<=z) w' V->uR V a a5 a6 (lI (wD s) hs):=by
 obtain⟨a5,c5,rfl,_,_⟩:=bj hg.procs;obtain⟨a6,c6,rfl,_,_⟩:=bj hg.outs;obtain⟨⟨hs,a,n,sz,h1,h2,h3,h4,h5,h6,h7⟩,hb⟩:=hg.mem;have hgl:=fW.lt (PE lo mb) hg;obtain⟨e0,e1,e2,e3,e4⟩:=iH h2;refine⟨_,_,_,_,_,_,_,_,_,_,_,_,_,a5,c5,a6,c6,⟨e0,e1,e2,e3,e4,au hg.head 1 rfl,au hg.head 2 rfl⟩,⟨by omega,fun e=>by have:=hg.base;omega⟩,hs,a,h1,rfl,fun V hV=>⟨h3 V (hV.mono (fun b _ g=>by omega)),aeg (hV.row hg.procs (fun b hb e=>by have:=(hgl b (.inr (.inr (.inl hb)))).1;omega)),aee (hV.row hg.outs (fun b hb e=>by have:=(hgl b (.inr (.inr (.inr hb)))).1;omega))⟩⟩
open Go.RowKit
open Go.RowKit
end Go.Proofs.YtlgoihmkgaaemaaGreat
