import Derived.Test.YtlgoihmkgaaemaaGreatGO34
set_option maxHeartbeats 20000000
set_option linter.unusedVariables false
set_option maxRecDepth 100000
set_option linter.unusedSimpArgs false
namespace Go.Proofs.YtlgoihmkgaaemaaGreat
open Go.RowKit
structure sM where
 live:Bool
 aT:List aY
 pg:Int->ByteArray
structure pj where
 slots:Int
 yN:List sM
def Ep:sM:=⟨false,[],fun _=>⟨#[]⟩⟩
def fO (l:List sM) (j:Nat):sM:=l.getD j Ep
def lR (ar:List aY) (f:Int->ByteArray) (p:Int):ByteArray:=if (aV ar p).2=true then f p else ⟨#[]⟩
def Am (old new:List aY) (f:Int->ByteArray) (p:Int):ByteArray:=if (aV new p).2=true then (if (aV old p).2=true then f p else vC) else ⟨#[]⟩
def pK:List sM->Int
 | []=>0
 | s::r=>bh s.aT+pK r
def ua (A:pj) (j:Nat) (s:sM):pj:=⟨A.slots,A.yN.set j s⟩
def yE (A:pj) (j:Nat) (a n way:Int):(ByteArray×(Int×Int))×pj :=
 if (bR (fO A.yN j).aT a n way).1=0 then ((uF (fO A.yN j).pg a n,(0,0)),A) else ((⟨#[]⟩,bR (fO A.yN j).aT a n way),A)
def xw (A:pj) (j:Nat) (a:Int) (d:ByteArray):(Int×Int)×pj :=
 if (bR (fO A.yN j).aT a d.size 1).1=0 then ((0,0),ua A j ⟨(fO A.yN j).live,(fO A.yN j).aT,nu (fO A.yN j).pg a d⟩) else (bR (fO A.yN j).aT a d.size 1,A)
def nQ (A:pj) (j:Nat) (r:List aY×Int) (n:Int):Int×pj :=
 if ¬r.2=0 then (r.2,A) else if A.slots<pK A.yN+n then (8,A) else (0,ua A j ⟨(fO A.yN j).live,r.1,Am (fO A.yN j).aT r.1 (fO A.yN j).pg⟩)
def Ao (A:pj) (j:Nat):Int×pj :=
 if 4<=A.yN.length then (2,A) else if A.slots<pK A.yN+bh (fO A.yN j).aT then (8,A) else (0,⟨A.slots,A.yN++[fO A.yN j]⟩)
def wH:gH pj:=⟨yE,xw,fun A j p n q=>nQ A j (dK (fO A.yN j).aT p n q) n,fun A j p n=>nQ A j (cQ (fO A.yN j).aT p n) 0,fun A j p n q=>nQ A j (bT (fO A.yN j).aT p n q) 0,Ao,fun A j=>ua A j Ep⟩
theorem Oa {f g:Int->ByteArray} {a n:Int} (h1:f (a/16)=g (a/16)) (h2:f (cB a n)=g (cB a n)):nO f a n=nO g a n:=by grind [nO]
theorem N8 {f g:Int->ByteArray} {a n:Int} (h1:f (a/16)=g (a/16)) (h2:f (cB a n)=g (cB a n)):uF f a n=uF g a n:=by unfold uF;rw[Oa h1 h2]
theorem IY {ar:List aY} {f:Int->ByteArray} {a:Int} {d:ByteArray} (h1:(aV ar (a/16)).2=true) (h2:(aV ar (cB a d.size)).2=true):nu (lR ar f) a d=lR ar (nu f a d):=by
 funext p;have e:wE (lR ar f) a d=wE f a d:=by
  unfold wE;rw[Oa (g:=f) (by grind [lR]) (by grind [lR])]
 grind [nu,lR]
def lB (k:aR) (j:Nat):sM:=⟨(ak k.aj j).live,cX k j,lR (cX k j) (bY k j)⟩
def cO (k:aR):pj:=⟨k.slots.length,(List.range k.aj.length).map (lB k)⟩
variable {k k':aR} {fl:List Bool} {j:Nat}
theorem oX (k:aR):(cO k).yN.length=k.aj.length:=by simp[cO]
theorem pA (hj:j<k.aj.length):fO (cO k).yN j=lB k j:=by
 unfold fO cO;simp[List.getD,hj]
theorem UW {l r:List sM} (hn:l.length=r.length) (h:∀m,m<r.length->fO l m=fO r m):l=r:=by
 apply Vf hn;intro i h1 h2;have:=h i h2;unfold fO at this
 grind
theorem aet (l:List sM) (j m:Nat) (s:sM) (hj:j<l.length):fO (l.set j s) m=if m=j then s else fO l m:=by unfold fO;grind
theorem RA (l:List sM) (m:Nat) (s:sM):fO (l++[s]) m=if m<l.length then fO l m else if m=l.length then s else Ep:=by unfold fO;grind
theorem I0 (l:List sM) (s:sM):pK (l++[s])=pK l+bh s.aT:=by
 induction l with
 | nil=>simp[pK]
 | cons a r ih=>simp only[Dt,pK,ih];omega
theorem Rx (k:aR):∀n,pK ((List.range n).map (lB k))=jH k.aj n
 | 0=>rfl
 | n+1=>by
  rw[Py,AO,Vk,I0,Rx k n];rfl
theorem N7 (k:aR):pK (cO k).yN=eD k.aj:=Rx k _
theorem Z9 (hs:k'.slots.length=k.slots.length) (hn:k'.aj.length=k.aj.length) (h:∀m,m<k.aj.length->lB k' m=lB k m):cO k'=cO k:=by
 unfold cO;rw[hs,hn];congr 1;exact Vs (fun m hm=>h m (uR.1 hm))
theorem Gw (hj:j<k.aj.length) (hs:k'.slots.length=k.slots.length) (hn:k'.aj.length=k.aj.length) (s:sM) (h:∀m,m<k.aj.length->lB k' m=if m=j then s else lB k m):cO k'=ua (cO k) j s:=by
 have e:(cO k').yN=((cO k).yN.set j s):=UW (by rw[fC,oX,oX,hn]) (fun m hm=>by
  rw[fC,oX] at hm;rw[pA (by omega),aet _ _ _ _ (by rw[oX];exact hj),h m hm];split
  · rfl
  · rw[pA hm])
 show(⟨(cO k').slots,(cO k').yN⟩:pj)=_;rw[e,show(cO k').slots=(cO k).slots by show(k'.slots.length:Int)=k.slots.length;rw[hs]];rfl
theorem C4 {m m':Nat} (h1:(ak k'.aj m').live=(ak k.aj m).live) (h2:(ak k'.aj m').aT=(ak k.aj m).aT) (h3:∀p,dV k m p->bY k' m' p=bY k m p):lB k' m'=lB k m:=by
 unfold lB cX;rw[h1,h2];congr 1;funext p;unfold lR;split
 · exact h3 p (by assumption)
 · rfl
theorem aaa (h:dn k fl) (hk:fl.getD j false=true) {a n way:Int} (h1:1<=n) (h8:n<=8):yE (cO k) j a n way=((gT k j a n way).1,cO (gT k j a n way).2):=by
 obtain⟨hj,hl⟩:=h.at_ hk;unfold yE;rw[pA hj];by_cases g:(bR (cX k j) a n way).1=0
 · rw[qR h1 h8 g,aB (show(bR (lB k j).aT a n way).1=0 from g)];obtain⟨m1,m2,_⟩:=mn h1 h8 g;have R:=od h.right hj a n way m1 m2;have e1:uF (lB k j).pg a n=mi k j a n way:=by
    rw[xq h.right hj a n way m1 m2];exact N8 (aB m1) (aB m2)
   have e2:cO (aZ k j a n way).2=cO k:=Z9 R.kept.ns R.kept.np (fun m hm=>C4 (R.kept.live m hm) (R.kept.aT m hm) (fun p _=>R.kept.Ou m hm p));rw[e1,e2]
 · rw[tE h1 h8 g,au (show ¬(bR (lB k j).aT a n way).1=0 from g)];rfl
theorem Xp (h:dn k fl) (hk:fl.getD j false=true) {a:Int} {d:ByteArray} (h1:1<=d.size) (h8:d.size<=8):xw (cO k) j a d=((je k j a d).1,cO (je k j a d).2):=by
 obtain⟨hj,hl⟩:=h.at_ hk;unfold xw;rw[pA hj];by_cases g:(bR (cX k j) a d.size 1).1=0
 · rw[rz g,aB (show(bR (lB k j).aT a d.size 1).1=0 from g)];obtain⟨m1,m2,_⟩:=mn (by omega) (by omega) g;have R:=wy h.right hj a d (by omega) (by omega) m1 m2;rw[Gw (k':=lJ k j a d) hj R.ns R.np ⟨(lB k j).live,(lB k j).aT,nu (lB k j).pg a d⟩ (fun m hm=>?_)];by_cases c:m=j
   · subst c;rw[aB rfl];show(⟨_,_,_⟩:sM)=⟨_,_,nu (lR (cX k m) (bY k m)) a d⟩;rw[IY (ar:=cX k m) m1 m2];have ea:cX (lJ k m a d) m=cX k m:=R.aT m hm;have ep:bY (lJ k m a d) m=nu (bY k m) a d:=funext fun p=>by rw[R.Ou m hm,aB rfl]
     rw[R.live m hm,ea,ep];rfl
   · rw[au c];exact C4 (R.live m hm) (R.aT m hm) (fun p _=>by rw[R.Ou m hm,au c])
 · rw[tD g,au (show ¬(bR (lB k j).aT a d.size 1).1=0 from g)];rfl
theorem Es (h:dn k fl) (hk:fl.getD j false=true) {r:List aY×Int} (n:Int) (hr:r.2=0->xt (cX k j) r.1) (hn:r.2=0->(eD k.aj-bh (cX k j)+bh r.1>(k.slots.length:Int)↔(k.slots.length:Int)<eD k.aj+n)):nQ (cO k) j r n=((eG k j r).1,cO (eG k j r).2):=by
 obtain⟨hj,hl⟩:=h.at_ hk;unfold nQ;rw[pA hj,N7];by_cases c:r.2=0
 · rw[au (fun x=>x c)];have e:=hn c;by_cases c2:eD k.aj-bh (cX k j)+bh r.1>(k.slots.length:Int)
   · rw[show eG k j r=(8,k) by grind [eG],aB (show(cO k).slots<_ from e.1 c2)]
   · rw[show eG k j r=(0,gI k j r.1) by grind [eG],au (show ¬(cO k).slots<_ from fun x=>c2 (e.2 x))];obtain⟨p1,p2,p3,p4,p5,p6⟩:=qE k hj r.1;rw[Gw (k':=gI k j r.1) hj p4 p5 ⟨(lB k j).live,r.1,Am (lB k j).aT r.1 (lB k j).pg⟩ (fun m hm=>?_)];have q:=p6 m hm;by_cases cm:m=j
     · subst cm;rw[aB rfl] at q ⊢;unfold lB cX;rw[q];show(⟨_,_,lR r.1 (bY (gI k m r.1) m)⟩:sM)=⟨_,_,Am (cX k m) r.1 (lR (cX k m) (bY k m))⟩;congr 1;funext p;unfold lR Am;by_cases f:(aV r.1 p).2=true
       · rw[aB f,aB f,IU h.right hm (hr c) hm (.inr f)];unfold cX;by_cases f2:(aV (ak k.aj m).aT p).2=true
         · simp[f2]
         · simp[f2]
       · rw[au f,au f]
     · rw[au cm];rw[au (fun e=>cm e.symm)] at q;exact C4 (by rw[q]) (by rw[q]) (fun p _=>by rw[IU h.right hj (hr c) hm (.inl cm),au (fun x=>cm x.1)])
 · rw[aB c,show eG k j r=(r.2,k) by grind [eG]]
theorem aab (h:dn k fl) (hk:fl.getD j false=true):Ao (cO k) j=((gz k j).1,cO (gz k j).2):=by
 obtain⟨hj,hl⟩:=h.at_ hk;have hc:=h.right.c.2.2.1;unfold Ao;rw[pA hj,N7,oX];by_cases c:k.aj.length=4
 · rw[show gz k j=(2,k) by grind [gz],aB (by omega)]
 rw[au (by omega)];by_cases c2:eD k.aj+bh (cX k j)>(k.slots.length:Int)
 · rw[show gz k j=(8,k) by grind [gz],aB (show(cO k).slots<_+bh (lB k j).aT from c2)]
 · rw[show gz k j=(0,gM k j) by grind [gz],au (show ¬(cO k).slots<_+bh (lB k j).aT from c2)];have F:=vD h.right hj;have e:(cO (gM k j)).yN=(cO k).yN++[lB k j]:=UW (by rw[oX,F.aj,fM,fM,oX];rfl) (fun m hm=>by
    rw[fM,oX] at hm;have hm:m<k.aj.length+1:=hm;have hs:ak (gM k j).aj m=if m<k.aj.length then ak k.aj m else ak k.aj j:=by
     rw[F.aj,K7];by_cases z:m<k.aj.length
     · rw[aB z,aB z]
     · rw[au z,au z,aB (by omega)]
    rw[pA (by rw[F.aj,fM];exact hm),RA,oX];by_cases z:m<k.aj.length
    · rw[aB z] at hs ⊢;rw[pA z];exact C4 (by rw[hs]) (by rw[hs]) (fun p _=>Lp h.right hj m m z hs p)
    · rw[au z] at hs;rw[au z,aB (by omega)];exact C4 (by rw[hs]) (by rw[hs]) (fun p _=>Lp h.right hj m j hj hs p))
   show(_,(⟨(cO k).slots,_⟩:pj))=(0,cO (gM k j));rw[show cO (gM k j)=⟨(cO (gM k j)).slots,(cO (gM k j)).yN⟩ from rfl,e,show(cO (gM k j)).slots=(cO k).slots by show((gM k j).slots.length:Int)=k.slots.length;rw[F.ns]]
theorem aac (h:dn k fl) (hk:fl.getD j false=true):ua (cO k) j Ep=cO (jE k j):=by
 obtain⟨hj,hl⟩:=h.at_ hk;have hsp:(jE k j).aj=k.aj.set j rp:=by
  show(dH k j (fun _=>true)).aj.set j rp=_;rw[gN,qi]
 have hn:(jE k j).aj.length=k.aj.length:=by rw[hsp,fC]
 rw[Gw (k':=jE k j) hj (mY k j (fun _=>true)).2.2.2 hn Ep (fun m hm=>?_)];have hs:ak (jE k j).aj m=if m=j then rp else ak k.aj m:=by rw[hsp];grind [iI]
 by_cases c:m=j
 · rw[aB c] at hs ⊢;unfold lB cX;rw[hs];show(⟨false,[],lR [] _⟩:sM)=Ep;unfold Ep;congr 1
 · rw[au c] at hs ⊢;exact C4 (by rw[hs]) (by rw[hs]) (fun p _=>WK h.right hj hm c p)
theorem Ct (h:dn k fl) (hj:j<k.aj.length):bj (cX k j)=0:=(h.right.sp hj).aT
theorem N9:Cu cI wH dn cO where
 load:=fun s fl k a n way h hk h1 h8=>aaa h hk h1 h8
 store:=fun s fl k a d h hk h1 h8=>Xp h hk h1 h8
 map:=fun s fl k p n q h hk=>by
  have hj:=(h.at_ hk).1;show nQ (cO s) k (dK (fO (cO s).yN k).aT p n q) n=_;rw[pA hj];exact Es h hk n (fun e=>(Iz e).2) (fun e=>by have h1:=Wv e (Ct h hj);have h0:bh (lB s k).aT=bh (cX s k):=rfl;omega)
 pC:=fun s fl k p n h hk=>by
  have hj:=(h.at_ hk).1;show nQ (cO s) k (cQ (fO (cO s).yN k).aT p n) 0=_;rw[pA hj];refine Es h hk 0 (fun e=>(yP e).2) (fun e=>?_);have h1:=QX e (Ct h hj);have h0:bh (lB s k).aT=bh (cX s k):=rfl;have h2:=h.right.room;exact⟨fun x=>by omega,fun x=>by omega⟩
 jx:=fun s fl k p n q h hk=>by
  have hj:=(h.at_ hk).1;show nQ (cO s) k (bT (fO (cO s).yN k).aT p n q) 0=_;rw[pA hj];refine Es h hk 0 (fun e=>(Bk e).2) (fun e=>?_);have h1:=MH e (Ct h hj);have h0:bh (lB s k).aT=bh (cX s k):=rfl;have h2:=h.right.room;exact⟨fun x=>by omega,fun x=>by omega⟩
 fork:=fun s fl k h hk=>aab h hk
 drop:=fun s fl k h hk=>aac h hk
open Go.RowKit
theorem Bx (p q:Int) (d:ByteArray) (ps:List kg):cV q (pL p d ps)=if q=p then (cV p ps).map (fun _=>d) else cV q ps:=by
 induction ps with
 | nil=>simp[pL,cV]
 | cons x r ih=>unfold pL at ih ⊢;simp only[y9,cV];grind
theorem Gu (q:Int) (a b:List kg):cV q (a++b)=(cV q a).or (cV q b):=by
 induction a with
 | nil=>rfl
 | cons x r ih=>simp only[Dt,cV];grind
theorem I1 (q:Int):∀(n:Nat) (p:Int),cV q (xB p n)=if p<=q/\q<p+n then some M0 else none
 | 0,p=>by simp[xB,mr,cV]
 | n+1,p=>by
  have ih:=I1 q n (p+1);unfold xB at ih ⊢;simp only[mr,y9,cV,ih]
  grind
theorem Z3 (q p n:Int) (ps:List kg):cV q (ue ps p n)=if p<=q/\q<p+n then none else cV q ps:=by
 induction ps with
 | nil=>simp[ue,cV]
 | cons x r ih=>unfold ue at ih ⊢;simp only[List.filter_cons,cV];grind [cV]
theorem Xl (q:Int) (ps:List kg):(cV q ps).isSome=true↔q∈di ps:=by
 induction ps with
 | nil=>simp[di,cV]
 | cons x r ih=>unfold di at ih ⊢;simp only[y9,cV];grind
theorem Z4 (q p:Int) (n:Nat) (ps:List kg) (h:p<=q/\q<p+n->cV q ps=none):cV q (sN ps p n)=if p<=q/\q<p+n then some M0 else cV q ps:=by
 have e:cV q ps=(cV q (ps.take (ug ps p))).or (cV q (ps.drop (ug ps p))):=by rw[<- Gu,Vw]
 unfold sN;rw[Gu,Gu,I1];by_cases c:p<=q/\q<p+n
 · rw[aB c,aB c];have:=h c
   grind
 · rw[au c,au c,e]
   grind
def xx (s:m6):sM:=⟨s.live,s.aT,lR s.aT (oZ s.aQ)⟩
def gA (m:rV):pj:=⟨m.slots,m.aj.map xx⟩
variable {m:rV} {fl:List Bool} {j:Nat}
theorem rA (hj:j<m.aj.length):fO (gA m).yN j=xx (bq m.aj j):=by
 unfold fO gA bq
 grind
theorem Rz {s:m6} (h:qJ s) (q:Int):(cV q s.aQ).isSome=true↔(aV s.aT q).2=true:=by
 rw[Xl,h.nums];exact fu h.check
theorem Et (m:rV) (j:Nat) (s:m6):gA (oY m j s)=ua (gA m) j (xx s):=by
 unfold gA oY ua;rw[Pe]
theorem Gs:∀(n:Nat) (l:List m6),l.length=n->pK (l.map xx)=ji l
 | 0,l,h=>by rw[lj h];rfl
 | n+1,l,h=>by
  rcases Px l with rfl | ⟨r,s,rfl⟩
  · cases h
  · rw[Pw] at h ⊢;rw[AO,Vk,I0,Gs n r (by simpa using h),LU];rfl
theorem MU.liv (h:qI m fl) (hk:fl.getD j false=true):j<m.aj.length/\qJ (bq m.aj j)/\(bq m.aj j).live=true:=by
 obtain⟨hj,hl⟩:=h.live hk;exact⟨hj,xC (h.each j hj) hl,hl⟩
theorem Z1 {s:m6} (hs:qJ s) {a:Int} {d:ByteArray} (h1:(aV s.aT (a/16)).2=true) (h2:(aV s.aT (cB a d.size)).2=true) (q:Int):oZ (pB s.aQ a d) q=nu (oZ s.aQ) a d q:=by
 have f1:=(Rz hs _).2 h1;have f2:=(Rz hs _).2 h2;have ej:uK s.aQ a d.size=nO (oZ s.aQ) a d.size:=rfl;unfold pB;rw[ej];unfold nu wE;generalize iD (nO (oZ s.aQ) a d.size) (a%16).toNat d=L;have el:nR a d.size=cB a d.size:=rfl;rw[el];unfold oZ;obtain⟨x1,e1⟩:=PC.1 f1;obtain⟨x2,e2⟩:=PC.1 f2;by_cases c:cB a d.size=a/16
 · rw[aB c,Bx,e1];by_cases q1:q=a/16
   · simp[q1]
   · simp[q1,c]
 · rw[au c,Bx,Bx,Bx,e1,e2];by_cases q1:q=a/16
   · have:¬a/16=cB a d.size:=fun e=>c e.symm
     simp[q1,this]
   · by_cases q2:q=cB a d.size
     · simp[q2,c]
     · simp[q1,q2]
theorem TU (h:qI m fl) (hk:fl.getD j false=true) {a:Int} {d:ByteArray} (h1:1<=d.size) (h8:d.size<=8):xw (gA m) j a d=((nC m j a d).1,gA (nC m j a d).2):=by
 obtain⟨hj,hs,hl⟩:=MU.liv h hk;unfold xw;rw[rA hj];by_cases g:(bR (bq m.aj j).aT a d.size 1).1=0
 · rw[aB (show(bR (xx (bq m.aj j)).aT a d.size 1).1=0 from g),show nC m j a d=((0,0),oY m j { bq m.aj j with aQ:=pB (bq m.aj j).aQ a d }) by grind [nC]];obtain⟨_,hal,hau,hmap⟩:=rZ (show 1<=(d.size:Int) by omega) (by omega) g;have m1:(aV (bq m.aj j).aT (a/16)).2=true:=by have:=hmap 0 (by omega) (by omega);rw[Dn] at this;exact this
   have m2:(aV (bq m.aj j).aT (cB a d.size)).2=true:=by
    have:=hmap ((d.size:Int)-1) (by omega) (by omega);unfold cB;rw[show a+(d.size:Int)-1=a+((d.size:Int)-1) by omega];exact this
   show(_,ua (gA m) j _)=(_,gA (oY m j _));rw[Et];congr 2;show(⟨_,_,nu (lR (bq m.aj j).aT (oZ (bq m.aj j).aQ)) a d⟩:sM)=⟨_,_,lR (bq m.aj j).aT (oZ (pB (bq m.aj j).aQ a d))⟩;rw[IY m1 m2,show oZ (pB (bq m.aj j).aQ a d)=nu (oZ (bq m.aj j).aQ) a d from funext (Z1 hs m1 m2)];rfl
 · rw[au (show ¬(bR (xx (bq m.aj j)).aT a d.size 1).1=0 from g),show nC m j a d=(bR (bq m.aj j).aT a d.size 1,m) by grind [nC]];rfl
theorem Xn (h:qI m fl) (hk:fl.getD j false=true) {a n way:Int} (h1:1<=n) (h8:n<=8):yE (gA m) j a n way=((lN m j a n way).1,gA (lN m j a n way).2):=by
 obtain⟨hj,hs,hl⟩:=MU.liv h hk;unfold yE;rw[rA hj];by_cases g:(bR (bq m.aj j).aT a n way).1=0
 · rw[aB (show(bR (xx (bq m.aj j)).aT a n way).1=0 from g),show lN m j a n way=((GC (bq m.aj j).aQ a n,(0,0)),m) by grind [lN]];obtain⟨_,hal,hau,hmap⟩:=rZ h1 h8 g;have m1:(aV (bq m.aj j).aT (a/16)).2=true:=by have:=hmap 0 (by omega) (by omega);rw[Dn] at this;exact this
   have m2:(aV (bq m.aj j).aT (cB a n)).2=true:=by
    have:=hmap (n-1) (by omega) (by omega);unfold cB;rw[show a+n-1=a+(n-1) by omega];exact this
   rw[show uF (xx (bq m.aj j)).pg a n=GC (bq m.aj j).aQ a n from N8 (aB m1) (aB m2)]
 · rw[au (show ¬(bR (xx (bq m.aj j)).aT a n way).1=0 from g),show lN m j a n way=((⟨#[]⟩,bR (bq m.aj j).aT a n way),m) by grind [lN]];rfl
theorem Eo (h:qI m fl) (hk:fl.getD j false=true) {r:List aY×Int} {ps:List kg} (hp:∀q,(aV r.1 q).2=true->oZ ps q=if (aV (bq m.aj j).aT q).2=true then oZ (bq m.aj j).aQ q else vC):ua (gA m) j ⟨(xx (bq m.aj j)).live,r.1,Am (xx (bq m.aj j)).aT r.1 (xx (bq m.aj j)).pg⟩=gA (oY m j { bq m.aj j with aT:=r.1,aQ:=ps }):=by
 rw[Et];congr 1;show(⟨_,_,Am (bq m.aj j).aT r.1 (lR (bq m.aj j).aT (oZ (bq m.aj j).aQ))⟩:sM)=⟨_,_,lR r.1 (oZ ps)⟩;congr 1;funext q;unfold Am lR;by_cases c:(aV r.1 q).2=true
 · rw[aB c,aB c,hp q c];by_cases c2:(aV (bq m.aj j).aT q).2=true
   · simp[c2]
   · simp[c2]
 · rw[au c,au c]
theorem ace {s:m6} (hs:qJ s) {q:Int} (h:¬(aV s.aT q).2=true):cV q s.aQ=none:=by
 have:=Rz hs q;cases e:cV q s.aQ with
 | none=>rfl
 | some x=>rw[e] at this;exact absurd (this.1 rfl) h
theorem Z7:Cu Ez wH qI gA where
 load:=fun s fl k a n way h hk h1 h8=>Xn h hk h1 h8
 store:=fun s fl k a d h hk h1 h8=>TU h hk h1 h8
 map:=fun s fl k p n q h hk=>by
  obtain⟨hj,hs,hl⟩:=MU.liv h hk;show nQ (gA s) k (dK (fO (gA s).yN k).aT p n q) n=((zJ s k p n q).1,gA (zJ s k p n q).2);rw[rA hj];unfold nQ zJ;rw[rA hj,show pK (gA s).yN=ji s.aj from Gs _ _ rfl];show(if ¬(dK (bq s.aj k).aT p n q).2=0 then _ else _)=_;by_cases c:(dK (bq s.aj k).aT p n q).2=0
  · simp only[c,Dv,tL];by_cases c2:s.slots<ji s.aj+n
    · rw[aB (show(gA s).slots<_ from c2),aB c2]
    · rw[au (show ¬(gA s).slots<_ from c2),au c2];obtain⟨g1,g2,g3,g4⟩:=Ex hs.check c;have:=Eo h hk (r:=dK (bq s.aj k).aT p n q) (ps:=sN (bq s.aj k).aQ p n.toNat) (fun x hx=>by
       have hn:((n.toNat:Nat):Int)=n:=by omega
       have e:=Z4 x p n.toNat (bq s.aj k).aQ (fun y=>ace hs (fun z=>g4 x y.1 (by omega) ((fu hs.check).2 z)));unfold oZ;rw[e,hn];have hx:=(g3 x).1 ((fu g1).2 hx);by_cases z:p<=x/\x<p+n
       · rw[aB z,au (fun y=>g4 x z.1 z.2 ((fu hs.check).2 y))];rfl
       · rw[au z,aB ((fu hs.check).1 (hx.resolve_right z))])
      rw[<- this];rfl
  · simp only[c,Du,tK];rfl
 pC:=fun s fl k p n h hk=>by
  obtain⟨hj,hs,hl⟩:=MU.liv h hk;show nQ (gA s) k (cQ (fO (gA s).yN k).aT p n) 0=((ud s k p n).1,gA (ud s k p n).2);rw[rA hj];unfold nQ ud;rw[rA hj,show pK (gA s).yN=ji s.aj from Gs _ _ rfl];show(if ¬(cQ (bq s.aj k).aT p n).2=0 then _ else _)=_;have hr:=h.room;by_cases c:(cQ (bq s.aj k).aT p n).2=0
  · simp only[c,Dv,tL];rw[au (show ¬(gA s).slots<ji s.aj+0 from fun x=>by have x:s.slots<ji s.aj+0:=x;omega)];obtain⟨g1,g2,g3⟩:=GA hs.check c;have:=Eo h hk (r:=cQ (bq s.aj k).aT p n) (ps:=ue (bq s.aj k).aQ p n) (fun x hx=>by
     have hx:=(g3 x).1 ((fu g1).2 hx);unfold oZ;rw[Z3,au hx.2,aB ((fu hs.check).1 hx.1)])
    rw[<- this];rfl
  · simp only[c,Du,tK];rfl
 jx:=fun s fl k p n q h hk=>by
  obtain⟨hj,hs,hl⟩:=MU.liv h hk;show nQ (gA s) k (bT (fO (gA s).yN k).aT p n q) 0=((pM s k p n q).1,gA (pM s k p n q).2);rw[rA hj];unfold nQ pM;rw[rA hj,show pK (gA s).yN=ji s.aj from Gs _ _ rfl];show(if ¬(bT (bq s.aj k).aT p n q).2=0 then _ else _)=_;have hr:=h.room;by_cases c:(bT (bq s.aj k).aT p n q).2=0
  · simp only[c,Dv,tL];rw[au (show ¬(gA s).slots<ji s.aj+0 from fun x=>by have x:s.slots<ji s.aj+0:=x;omega)];obtain⟨g1,g2⟩:=C8 hs.check c;have:=Eo h hk (r:=bT (bq s.aj k).aT p n q) (ps:=(bq s.aj k).aQ) (fun x hx=>by
     have hx:=(fu g1).2 hx;rw[g2] at hx;rw[aB ((fu hs.check).1 hx)])
    rw[show oY s k { live:=(bq s.aj k).live,aT:=(bT (bq s.aj k).aT p n q).1,aQ:=(bq s.aj k).aQ }=oY s k { bq s.aj k with aT:=(bT (bq s.aj k).aT p n q).1,aQ:=(bq s.aj k).aQ } from rfl,<- this];rfl
  · simp only[c,Du,tK];rfl
 fork:=fun s fl k h hk=>by
  obtain⟨hj,hs,hl⟩:=MU.liv h hk;show Ao (gA s) k=((uL s k).1,gA (uL s k).2);unfold Ao uL;rw[rA hj,show pK (gA s).yN=ji s.aj from Gs _ _ rfl,show(gA s).yN.length=s.aj.length by simp[gA]];show(if 4<=s.aj.length then _ else if s.slots<ji s.aj+bh (bq s.aj k).aT then _ else _)=_;by_cases c:4<=s.aj.length
  · simp only[c,tK]
  · by_cases c2:s.slots<ji s.aj+bh (bq s.aj k).aT
    · simp only[c,c2,tK,tL]
    · simp only[c,c2,tL];simp[gA]
 drop:=fun s fl k h hk=>by
  show ua (gA s) k Ep=gA (oY s k JK);rw[Et];rfl
open Go.RowKit
variable {σ τ υ:Type}
theorem Xk {o:gH σ} {o':gH τ} {b:gH υ} {Ok:σ->List Bool->Prop} {Ok':τ->List Bool->Prop} {f:σ->υ} {g:τ->υ} (S:Cu o b Ok f) (S':Cu o' b Ok' g) (ho:qL o Ok) (ho':qL o' Ok') {s:df σ} {s':df τ} (h:dh Ok s) (h':dh Ok' s') (e:iN f s=iN g s') (picks:List Int) (n:Nat):(fZ o picks n (some s)).map (iN f)=(fZ o' picks n (some s')).map (iN g):=by
 rw[<- zE S ho h,<- zE S' ho' h',e]
structure aae (st s:df σ) (k:Nat):Prop where
 len:st.ps.length<=s.ps.length
 ps:∀i,i≠k->i<st.ps.length->aI s.ps i=aI st.ps i
theorem ach (o:gH σ) (st:df σ) (k:Nat) (c:Int):(eu o st k c).2.ps=st.ps∨(eu o st k c).2.ps=st.ps++[aI st.ps k]:=by
 unfold eu
 repeat' split
 all_goals first | exact .inl rfl | exact .inr rfl
theorem Er (o:gH σ) (st:df σ) (k:Nat) (i:dU):(eX o st k i).2.ps=st.ps∨(eX o st k i).2.ps=st.ps++[aI st.ps k]:=by
 have:=ach o st k i.m;unfold eX
 repeat' split
 all_goals first | exact .inl rfl | exact this
theorem TW (i:dU) (n:Nat) (ps:List bO) (m:Nat) (h:m<n):aI (kQ i n ps) m=aI ps m:=by
 unfold kQ aI
 grind
theorem TV (i:dU) (n:Nat) (ps:List bO):(kQ i n ps).length=ps.length:=by unfold kQ;grind
theorem agF (o:gH σ) (st:df σ) (k:Nat):aae st (kX o st k).2 k:=by
 unfold kX;simp only[];split
 · exact⟨aD _,fun _ _ _=>rfl⟩
 split
 · rcases Er o { st with mem:=(o.load st.mem k (aI st.ps k).pc 8 2).2 } k (ik (o.load st.mem k (aI st.ps k).pc 8 2).1.1) with e | e
   · exact⟨by rw[e];exact aD _,fun i _ _=>by rw[e]⟩
   · exact⟨by rw[e];simp,fun i _ hi=>by rw[e,wK,aB hi]⟩
 · refine⟨?_,fun i hk hi=>?_⟩
   · show _<=(kQ _ _ _).length;rw[TV,fC];rcases Er o { st with mem:=(o.load st.mem k (aI st.ps k).pc 8 2).2 } k (ik (o.load st.mem k (aI st.ps k).pc 8 2).1.1) with e | e
     · rw[e];exact aD _
     · rw[e];simp
   · show aI (kQ _ _ _) i=_;rw[TW _ _ _ _ hi];have es:∀(l:List bO) (p:bO),aI (l.set k p) i=aI l i:=fun l p=>by unfold aI;grind
     rw[es];rcases Er o { st with mem:=(o.load st.mem k (aI st.ps k).pc 8 2).2 } k (ik (o.load st.mem k (aI st.ps k).pc 8 2).1.1) with e | e
     · rw[e]
     · rw[e,wK,aB hi]
theorem acd (o:gH σ) (st:df σ) (pick:Int):aae st (dm o st pick).2 pick.toNat:=by
 have D:=agF o st pick.toNat
 unfold dm
 repeat' split
 · exact⟨aD _,fun _ _ _=>rfl⟩
 · exact⟨aD _,fun _ _ _=>rfl⟩
 · exact⟨aD _,fun _ _ _=>rfl⟩
 · simp only[];split
   · exact D
   · refine⟨by show _<=(List.set _ _ _).length;rw[fC];exact D.len,fun i hk hi=>?_⟩;have es:∀(l:List bO) (p:bO),aI (l.set pick.toNat p) i=aI l i:=fun l p=>by unfold aI;grind
     exact(es _ _).trans (D.ps i hk hi)
structure mZ (A B:pj) (k:Nat):Prop where
 len:A.yN.length<=B.yN.length
 sp:∀i,i≠k->i<A.yN.length->fO B.yN i=fO A.yN i
theorem mZ.refl (A:pj) (k:Nat):mZ A A k:=⟨aD _,fun _ _ _=>rfl⟩
theorem mZ.trans {A B C:pj} {k:Nat} (h:mZ A B k) (g:mZ B C k):mZ A C k:=⟨gu h.len g.len,fun i hk hi=>(g.sp i hk (fD hi h.len)).trans (h.sp i hk hi)⟩
theorem zF (A:pj) (k:Nat) (s:sM):mZ A (ua A k s) k:=⟨by simp[ua],fun i hk hi=>by unfold ua fO;grind⟩
theorem I3 (A:pj) (k:Nat) (a n way:Int):mZ A (yE A k a n way).2 k:=by
 have:(yE A k a n way).2=A:=by grind [yE]
 rw[this];exact .refl _ _
theorem RD (A:pj) (k:Nat) (a:Int) (d:ByteArray):mZ A (xw A k a d).2 k:=by
 unfold xw;split
 · exact zF _ _ _
 · exact .refl _ _
theorem TX (A:pj) (k:Nat) (r:List aY×Int) (n:Int):mZ A (nQ A k r n).2 k:=by
 unfold nQ;repeat' split
 · exact .refl _ _
 · exact .refl _ _
 · exact zF _ _ _
theorem TZ (A:pj) (k:Nat):mZ A (Ao A k).2 k:=by
 unfold Ao;repeat' split
 · exact .refl _ _
 · exact .refl _ _
 · exact⟨by simp,fun i hk hi=>by show fO (A.yN++[_]) i=_;rw[RA,aB hi]⟩
theorem T3 (st:df pj) (k:Nat) (c:Int):mZ st.mem (eu wH st k c).2.mem k:=by
 unfold eu
 repeat' split
 all_goals first | exact .refl _ _ | exact TX _ _ _ _ | exact TZ _ _ | exact zF _ _ _
theorem EZ (st:df pj) (k:Nat) (i:dU):mZ st.mem (eX wH st k i).2.mem k:=by
 unfold eX
 repeat' split
 all_goals first | exact .refl _ _ | exact I3 _ _ _ _ _ | exact RD _ _ _ _ | exact T3 _ _ _
theorem Z8 (st:df pj) (k:Nat):mZ st.mem (kX wH st k).2.mem k:=by
 have L:mZ st.mem (wH.load st.mem k (aI st.ps k).pc 8 2).2 k:=I3 _ _ _ _ _;unfold kX;simp only[]
 repeat' split
 · exact L
 · exact L.trans (EZ { st with mem:=(wH.load st.mem k (aI st.ps k).pc 8 2).2 } _ _)
 · exact L.trans (EZ { st with mem:=(wH.load st.mem k (aI st.ps k).pc 8 2).2 } _ _)
theorem TY (st:df pj) (pick:Int):mZ st.mem (dm wH st pick).2.mem pick.toNat:=by
 have D:=Z8 st pick.toNat
 unfold dm
 repeat' split
 · exact .refl _ _
 · exact .refl _ _
 · exact .refl _ _
 · simp only[];split
   · exact D
   · exact D.trans (zF _ _ _)
open Go.RowKit
structure aad (l:List aY) (hs:List bG):Prop where
 check:bj l=0
 plain:∀p,(aV l p).2=true->(aV l p).1.zero=false
 aQ:hs.map (·.page)=dI l
 lT:ia hs=true
 fine:∀s∈hs,dw s=true
 few:hs.length<=255
variable {l:List aY} {hs:List bG} {nf ns:Int}
theorem TT (p:Int) (hs:List bG):(iJ hs p).isSome=true↔p∈hs.map (·.page):=by
 unfold iJ;rw[List.find?_isSome];simp
theorem aad.aiR (h:aad l hs) {p:Int} (hp:(aV l p).2=true):(iJ hs p).isSome=true:=by
 rw[TT,h.aQ];exact(fu h.check).2 hp
theorem LN (l:List aY) (kd a:Int):bU [⟨true,l,[]⟩] kd a=[]:=rfl
theorem I2 (h:aad l hs) (h3:3<=nf) (h64:nf<=64) (h0:0<=ns) (h5:ns<=512) (ht:bh l<=ns):aW (nj l hs nf ns):=by
 have ef:(nj l hs nf ns).frames.length=nf.toNat:=uS;have es:(nj l hs nf ns).slots.length=ns.toNat:=uS;refine⟨?_,h.lT,⟨by show(0:Int)<=0;omega,by rw[ef];show(0:Int)<_;omega⟩,fun s hs'=>?_,?_,fun i hi=>?_,fun i hi=>?_⟩
 · unfold nz;rw[ef,es];exact ic ⟨by omega,by omega,⟨aD 1,by show 1<=4;omega⟩,h.few⟩
 · have e:s=⟨true,l,[]⟩:=by simpa [nj] using hs'
   subst e;exact⟨fun x=>(by cases x),h.check,List.Pairwise.nil,fun e he=>(by cases he),fun p hp _=>h.aiR hp⟩
 · rw[es];show(0:Int)+bh l<=_;omega
 · show lU _ (bU [⟨true,l,[]⟩] 1 i) (aH (List.replicate nf.toNat gX) i);rw[LN,show aH (List.replicate nf.toNat gX) i=gX by unfold aH;grind];exact⟨rfl,fun _=>rfl,fun x hx=>(by cases hx),fun x=>absurd rfl x,fun _ x hx=>(by cases hx)⟩
 · show oV (bU [⟨true,l,[]⟩] 2 i) (bE (List.replicate ns.toNat oc) i);rw[LN,show bE (List.replicate ns.toNat oc) i=oc by unfold bE;grind];exact⟨rfl,fun _=>rfl,fun x hx=>(by cases hx),fun x=>absurd rfl x⟩
theorem Gt (p:Int):∀hs:List bG,(∀s∈hs,dw s=true)->cV p (hs.map fun s=>⟨s.page,(mK s).1⟩)=(iJ hs p).map rI
 | [],_=>rfl
 | s::r,h=>by
  have ih:=Gt p r (fun x hx=>h x (Hb _ hx));have e:(mK s).1=rI s:=by unfold mK;rw[aB (h s Dy)]
  unfold iJ at ih ⊢;simp only[y9,cV,List.find?_cons,e];by_cases c:s.page=p
  · simp[c]
  · simp[c,ih]
theorem acf (h:aad l hs) (h0:0<=ns):cO (nj l hs nf ns)=gA ⟨ns,[⟨true,l,hs.map fun s=>⟨s.page,(mK s).1⟩⟩]⟩:=by
 have es:((nj l hs nf ns).slots.length:Int)=ns:=by show((List.replicate ns.toNat oc).length:Int)=ns;rw[uS];omega
 have ea:lB (nj l hs nf ns) 0=xx ⟨true,l,hs.map fun s=>⟨s.page,(mK s).1⟩⟩:=by
  show(⟨true,l,lR l (bY (nj l hs nf ns) 0)⟩:sM)=⟨true,l,lR l (oZ (hs.map fun s=>⟨s.page,(mK s).1⟩))⟩;congr 1;funext p;unfold lR;by_cases c:(aV l p).2=true
  · rw[aB c,aB c];unfold oZ;rw[Gt p hs h.fine];show fY hs p (aV l p).1.zero=_;unfold fY fq;rw[h.plain p c];obtain⟨s,e⟩:=PC.1 (h.aiR c);rw[e];rfl
  · rw[au c,au c]
 unfold cO gA;rw[es];show(⟨ns,[lB (nj l hs nf ns) 0]⟩:pj)=_;rw[ea];rfl
open Go.RowKit
theorem Xj (p:Int):∀n,mr p n=(List.range n).map (fun m:Nat=>p+(m:Int)):=fun n=>by
 induction n with
 | zero=>rfl
 | succ n ih=>rw[Oh,ih,Py,AO];rfl
theorem Z5 (l:List aY):mM l=dI l:=by
 have:∀n,n<=l.length->fG l n=xE l n:=fun n=>by
  induction n with
  | zero=>intro _;unfold xE;rfl
  | succ n ih =>
   intro h;rw[O4 l n (by omega),<- ih (by omega),Xj];rfl
 unfold mM;rw[this l.length (aD _)];unfold xE;rw[vQ]
theorem Z6 {l:List aY} {hs:List bG} {en:Int} (h:lG l hs en=0):aad l hs:=by
 obtain⟨r1,r2,r3⟩:=Io h;have hp:hs.map (·.page)=dI l:=by
  unfold lG at h;rw[aB r1] at h;rw[<- Z5];have:jN l hs=true:=by grind
  exact o5 this
 have hin:zm l hs hs.length=true:=by
  rw[Im] at h;unfold Hm at h;rw[aB r1] at h
  grind
 refine⟨r1,fun p c=>?_,hp,r2,fun s hs'=>?_,?_⟩
 · have hm:p∈hs.map (·.page):=by rw[hp];exact(fu r1).2 c
   obtain⟨k,hk,e⟩:=MB hs p hm;have hi:=DG l hs hs.length hin k hk;unfold DI at hi;rw[e] at hi;have:aV l p=bW l p:=by
    unfold aV at c ⊢
    grind
   rw[this]
   grind
 · obtain⟨k,hk,e⟩:=List.getElem_of_mem hs';have:=(qY hs hs.length r2 k hk).1;rw[show bu hs k=s by rw[<- e];unfold bu;grind] at this;exact this
 · have e:hs.length=(dI l).length:=by rw[<- hp,ie]
   have s1:=yS.sorted (oI r1);have:=mU (mr 1 255) (dI l) s1 (uM _ _) (fun x hx=>(qa _ _ _).2 (by have:=Ua r1 hx;omega));rw[Cz] at this;omega
open Go.RowKit
def oW (A:pj) (i:Nat) (p:Int):ByteArray×Int:=if (aV (fO A.yN i).aT p).2=true then ((fO A.yN i).pg p,0) else (⟨#[]⟩,6)
theorem aes {l:List sM} {i:Nat} (h:¬i<l.length):fO l i=Ep:=by unfold fO;grind
theorem Ry (p:Int):(aV ([]:List aY) p).2=false:=NQ p
theorem Xm {k:aR} (h:aW k) (i:Nat) (p:Int):oN k (i:Int) p=oW (cO k) i p:=by
 have hc:fV k=0:=(oh k).2 h;unfold oN oW;by_cases c:i<k.aj.length
 · rw[pA c];by_cases l:(ak k.aj i).live=true
   · have e:cT k (i:Int)=0:=by
      unfold cT;rw[aB hc,aB ⟨by omega,by omega,by rw[jz];exact l⟩]
     rw[aB e,jz];show _=if (aV (cX k i) p).2=true then (lR (cX k i) (bY k i) p,0) else _
     unfold cX lR;by_cases z:(aV (ak k.aj i).aT p).2=true
     · rw[aB z,aB z,aB z]
     · rw[au z,au z]
   · have e:cT k (i:Int)=6:=by
      unfold cT;rw[aB hc,au (fun x=>l (by have:=x.2.2;rw[jz] at this;exact this))]
     have ha:(ak k.aj i).aT=[]:=((h.sp c).dead (by simpa using l)).1;rw[e,au (by decide)];show _=if (aV (ak k.aj i).aT p).2=true then _ else _
     rw[ha,Ry,au (by simp)]
 · have e:cT k (i:Int)=6:=by
    unfold cT;rw[aB hc,au (fun x=>c (by omega))]
   rw[e,au (by decide),aes (by rw[oX];exact c)];show _=if (aV ([]:List aY) p).2=true then _ else _
   rw[Ry,au (by simp)]
open Go.RowKit
variable {k:aR} {fl:List Bool} {j:Nat} {hs:List bG}
structure Xh (hs:List bG) (k:aR) (fl:List Bool):Prop where
 ok:dn k fl
 same:cA k.aM hs
theorem Xf (h:dn k fl) (hk:fl.getD j false=true) (a n way:Int):(gT k j a n way).2.aM=k.aM:=by
 obtain⟨hj,hl⟩:=h.at_ hk;by_cases c:1<=n/\n<=8
 · by_cases g:(bR (cX k j) a n way).1=0
   · rw[qR c.1 c.2 g];obtain⟨m1,m2,_⟩:=mn c.1 c.2 g;exact(od h.right hj a n way m1 m2).kept.aM
   · rw[tE c.1 c.2 g]
 · rw[Gv c]
theorem Xe (h:dn k fl) (hk:fl.getD j false=true) (s:cA k.aM hs) (a n way:Int) (h1:1<=n) (h8:n<=8):gT (aU k hs) j a n way=((gT k j a n way).1,aU (gT k j a n way).2 hs):=by
 obtain⟨hj,hl⟩:=h.at_ hk;by_cases g:(bR (cX k j) a n way).1=0
 · obtain⟨m1,m2,_⟩:=mn h1 h8 g;have e:mi (aU k hs) j a n way=mi k j a n way:=by
    rw[xq h.right hj a n way m1 m2,xq (h.right.vJ s) hj a n way m1 m2];congr 1;funext p;exact Cn s j p
   rw[qR h1 h8 g,qR (k:=aU k hs) h1 h8 g,e,s8 h.right hj m1 s]
 · rw[tE h1 h8 g,tE (k:=aU k hs) h1 h8 g];rfl
theorem TP (h:dn k fl) (hk:fl.getD j false=true) (a:Int) (d:ByteArray) (h1:1<=d.size) (h8:d.size<=8):(je k j a d).2.aM=k.aM:=by
 obtain⟨hj,hl⟩:=h.at_ hk;by_cases g:(bR (cX k j) a d.size 1).1=0
 · rw[rz g];obtain⟨m1,m2,_⟩:=mn (by omega) (by omega) g;exact(wy h.right hj a d (by omega) (by omega) m1 m2).aM
 · rw[tD g]
theorem TN (h:dn k fl) (hk:fl.getD j false=true) (s:cA k.aM hs) (a:Int) (d:ByteArray) (h1:1<=d.size) (h8:d.size<=8):je (aU k hs) j a d=((je k j a d).1,aU (je k j a d).2 hs):=by
 obtain⟨hj,hl⟩:=h.at_ hk;by_cases g:(bR (cX k j) a d.size 1).1=0
 · obtain⟨m1,m2,_⟩:=mn (by omega) (by omega) g;rw[rz g,rz (k:=aU k hs) g,FY h.right hj m1 s]
 · rw[tD g,tD (k:=aU k hs) g];rfl
theorem Em (h:dn k fl) (hk:fl.getD j false=true) (r:List aY×Int):(eG k j r).2.aM=k.aM:=by
 obtain⟨hj,hl⟩:=h.at_ hk;unfold eG
 repeat' split
 · rfl
 · rfl
 · exact(qE k hj r.1).1
theorem El (k:aR) (hs:List bG) (j:Nat) (r:List aY×Int):eG (aU k hs) j r=((eG k j r).1,aU (eG k j r).2 hs):=by
 unfold eG;show(if ¬r.2=0 then (r.2,aU k hs) else if eD k.aj-bh (cX k j)+bh r.1>(k.slots.length:Int) then (8,aU k hs) else (0,gI (aU k hs) j r.1))=_;rw[Gj]
 repeat' split
 all_goals rfl
theorem LL (h:dn k fl) (hk:fl.getD j false=true):(gz k j).2.aM=k.aM:=by
 obtain⟨hj,hl⟩:=h.at_ hk;unfold gz
 repeat' split
 · rfl
 · rfl
 · exact(vD h.right hj).aM
theorem Xg (k:aR) (hs:List bG) (j:Nat):gz (aU k hs) j=((gz k j).1,aU (gz k j).2 hs):=by
 unfold gz;show(if k.aj.length=4 then (2,aU k hs) else if eD k.aj+bh (cX k j)>(k.slots.length:Int) then (8,aU k hs) else (0,gM (aU k hs) j))=_;rw[IK]
 repeat' split
 all_goals rfl
theorem N2 (hs:List bG):Cu cI cI (Xh hs) (fun k=>aU k hs) where
 load:=fun s fl k a n way h hk h1 h8=>Xe h.ok hk h.same a n way h1 h8
 store:=fun s fl k a d h hk h1 h8=>TN h.ok hk h.same a d h1 h8
 map:=fun s fl k p n q h hk=>El s hs k _
 pC:=fun s fl k p n h hk=>El s hs k _
 jx:=fun s fl k p n q h hk=>El s hs k _
 fork:=fun s fl k h hk=>Xg s hs k
 drop:=fun s fl k h hk=>IM s hs k
theorem tC {k k':aR} (h:k'.aM=k.aM) (s:cA k.aM hs):cA k'.aM hs:=by rw[h];exact s
theorem Ek (hs:List bG):qL cI (Xh hs) where
 load:=fun s fl k a n way h hk=>⟨il.load s fl k a n way h.ok hk,tC (Xf h.ok hk a n way) h.same⟩
 size:=fun s fl k a n way h hk=>il.size s fl k a n way h.ok hk
 fault:=fun s fl k a n way h hk=>il.fault s fl k a n way h.ok hk
 none:=fun s fl k a n way h hk=>il.none s fl k a n way h.ok hk
 store:=fun s fl k a d h hk h1 h8=>⟨il.store s fl k a d h.ok hk h1 h8,tC (TP h.ok hk a d h1 h8) h.same⟩
 Qh:=fun s fl k a d h hk=>il.Qh s fl k a d h.ok hk
 map:=fun s fl k p n q h hk=>⟨il.map s fl k p n q h.ok hk,tC (Em h.ok hk _) h.same⟩
 pC:=fun s fl k p n h hk=>⟨il.pC s fl k p n h.ok hk,tC (Em h.ok hk _) h.same⟩
 jx:=fun s fl k p n q h hk=>⟨il.jx s fl k p n q h.ok hk,tC (Em h.ok hk _) h.same⟩
 Qg:=fun s fl k h hk g=>⟨il.Qg s fl k h.ok hk g,tC (LL h.ok hk) h.same⟩
 J7:=fun s fl k h hk g=>⟨il.J7 s fl k h.ok hk g,tC (LL h.ok hk) h.same⟩
 afe:=fun s fl k p n q h hk=>il.afe s fl k p n q h.ok hk
 P4:=fun s fl k p n h hk=>il.P4 s fl k p n h.ok hk
 Ff:=fun s fl k p n q h hk=>il.Ff s fl k p n q h.ok hk
 few:=fun s fl h=>il.few s fl h.ok
 drop:=fun s fl k h hk=>⟨il.drop s fl k h.ok hk,tC ((mY s k (fun _=>true)).1) h.same⟩
theorem LK {s:df aR} (h:dh dn s) (g:cA s.mem.aM hs):dh (Xh hs) s:=⟨⟨h.mem,g⟩,h.fit,h.right,h.words,h.out⟩
theorem ZY {s:df aR} (h:dh (Xh hs) s):dh dn s/\cA s.mem.aM hs:=⟨⟨h.mem.ok,h.fit,h.right,h.words,h.out⟩,h.mem.same⟩
theorem Bw {s:df aR} (h:dh dn s) (g:cA s.mem.aM hs):dh dn (iN (fun k=>aU k hs) s):=⟨⟨h.mem.right.vJ g,h.mem.flags⟩,h.fit,h.right,h.words,h.out⟩
theorem Rw {m:gQ} (h:dh dn (dC m)):gP m=0:=OS h
theorem Hv {m:gQ} (h:dh dn (dC m)) (picks:List Int):ij m picks=if 2000<picks.length then ((nB,2):gQ×Int) else match fZ cI picks picks.length (some (dC m)) with
  | none=>(nB,2)
  | some s=>(ru s,0):=by
 unfold ij pV wJ;rw[au (fun g=>g (Rw h))];by_cases c:2000<picks.length
 · rw[aB c,aB c];rfl
 · rw[au c,au c];cases fZ cI picks picks.length (some (dC m)) with
   | none=>rfl
   | some s=>rfl
theorem LH {m:gQ} (h:dh dn (dC m)) (picks:List Int):ij m picks=(nB,2)∨∃s,picks.length<=2000/\fZ cI picks picks.length (some (dC m))=some s/\dh dn s/\ij m picks=(ru s,0):=by
 rw[Hv h];by_cases c:2000<picks.length
 · rw[aB c];exact .inl rfl
 · rw[au c];cases e:fZ cI picks picks.length (some (dC m)) with
   | none=>exact .inl rfl
   | some s=>exact .inr ⟨s,by omega,rfl,yI il h picks _ s e,rfl⟩
theorem ZZ {m:gQ} (h:dh dn (dC m)) {hs:List bG} (g:cA m.fF.aM hs) (picks:List Int):∃hs',cA (ij m picks).1.fF.aM hs'/\ij (ir m hs) picks=(ir (ij m picks).1 hs',(ij m picks).2):=by
 have h':dh dn (dC (ir m hs)):=Bw h g;have e:=zE (N2 hs) (Ek hs) (LK h g) picks picks.length;have e':fZ cI picks picks.length (some (dC (ir m hs)))=(fZ cI picks picks.length (some (dC m))).map (iN (fun k=>aU k hs)):=e;rw[Hv h,Hv h',e'];by_cases c:2000<picks.length
 · rw[aB c,aB c];exact⟨[],rfl,rfl⟩
 · rw[au c,au c];cases f:fZ cI picks picks.length (some (dC m)) with
   | none=>exact⟨[],rfl,rfl⟩
   | some s=>exact⟨hs,(ZY (yI (Ek hs) (LK h g) picks _ s f)).2,rfl⟩
theorem uI {m:gQ} (h:dh dn (dC m)) (pick:Int):((dm cI (dC m) pick).1≠0/\iG m pick=(nB,(dm cI (dC m) pick).1))∨((dm cI (dC m) pick).1=0/\iG m pick=(ru (dm cI (dC m) pick).2,0)):=by
 unfold iG pV;rw[au (fun g=>g (Rw h))];by_cases c:(dm cI (dC m) pick).1=0
 · rw[au (fun g=>g c)];exact .inr ⟨c,rfl⟩
 · rw[aB c];exact .inl ⟨c,rfl⟩
theorem Xc {m:gQ} (h:dh dn (dC m)) {hs:List bG} (g:cA m.fF.aM hs) (pick:Int):∃hs',cA (iG m pick).1.fF.aM hs'/\iG (ir m hs) pick=(ir (iG m pick).1 hs',(iG m pick).2):=by
 have h':dh dn (dC (ir m hs)):=Bw h g;have e:=Gr (N2 hs) (Ek hs) (LK h g) pick;have e':dm cI (dC (ir m hs)) pick=((dm cI (dC m) pick).1,iN (fun k=>aU k hs) (dm cI (dC m) pick).2):=e;have k:=JH (Ek hs) (LK h g) pick;rcases uI h pick with⟨c,f⟩ | ⟨c,f⟩
 · rcases uI h' pick with⟨c',f'⟩ | ⟨c',f'⟩
   · rw[f,f',e'];exact⟨[],rfl,rfl⟩
   · rw[e'] at c';exact absurd c' c
 · rcases uI h' pick with⟨c',f'⟩ | ⟨c',f'⟩
   · rw[e'] at c';exact absurd c c'
   · rw[f,f',e'];exact⟨hs,(ZY k).2,rfl⟩
open Go.RowKit
def oo (w:World) (r:gQ×Int) (e:Ending) (w':World):Prop:=∃hs a ar cr ao co,cA r.1.fF.aM hs/\e=.returned (.tuple #[.agg (eW (ir r.1 hs) a ar ao cr co),I r.2])/\(∀V,aC (fun b=>b<w.heap.size) w' V->ry V a ar ao (ir r.1 hs))/\Below w.heap.size w w'
def ZG:iH:=⟨none,0,none,0,none,0,none,0⟩
theorem aei (w:World):ry w ZG none none (ir nB []):=⟨⟨fun h=>absurd h (jf _),fun h=>absurd h (jf _),fun h=>absurd h (jf _),fun h=>absurd h (jf _)⟩,fun h=>absurd h (jf _),fun h=>absurd h (jf _)⟩
theorem C2 {w w':World} (er:Int) (hb:Below w.heap.size w w'):oo w (nB,er) (.returned (.tuple #[.agg #[Nl,Nl,Nl,Nl,I 0,Nl,Nl],I er])) w':=⟨[],ZG,none,0,none,0,rfl,rfl,fun V _=>aei V,hb⟩
theorem nI (W:World) (b:Nat) (v0 v1 v2 v3 v4 v5 v6:Value):aC (fun x=>x=b) W (((((((W.setCell (Ad b 0) v0).setCell (Ad b 1) v1).setCell (Ad b 2) v2).setCell (Ad b 3) v3).setCell (Ad b 4) v4).setCell (Ad b 5) v5).setCell (Ad b 6) v6):=by
 have k:∀(A:World) (i:Nat) (v:Value),aC (fun x=>x=b) A (A.setCell (Ad b i) v):=fun A i v=>aC.set _ A (Ad b i) v rfl
 exact((Ro W b v0 v1 v2 v3 v4).trans (k _ _ _) (fun _ _ g=>g)).trans (k _ _ _) (fun _ _ g=>g)
theorem Rm {V w2:World} {k:aR} {hs:List bG} {a:iH} (s:cA k.aM hs) (hK:∀U,aC (fun b=>b<V.heap.size) w2 U->jg U a (aU k hs)) (hb:Below V.heap.size V w2) :
  fB V.heap.size w2.heap.size (w2.alloc (.cells (bc a (aU k hs)) 185)) (fun b=>b=w2.heap.size∨(V.heap.size<=b/\b<w2.heap.size)) k:=by
 have hz:=hb.size;refine⟨⟨hs,a,V.heap.size,w2.heap.size,s,bB w2 _ _,fun U hU=>hK U ?_,aD _,by simp,by omega,fun b=>Iff.rfl⟩,hz⟩;exact(aC.alloc (fun b=>b<V.heap.size) w2 _).trans hU (fun b hb g=>by omega)
theorem NV {lo mb:Nat} {w2 w3 w4:World} {D:Nat->Prop} {m:gQ} {vr vo:Value} (hm:fB lo mb w2 D m.fF) (h23:Below w2.heap.size w2 w3) (hr:w3.ownsRow w2.heap.size 77 13 vr m.procs.length (m.procs.flatMap bN)) (h34:Below w3.heap.size w3 w4) (ho:w4.ownsRow w3.heap.size 91 2 vo m.out.length (m.out.flatMap iQ)) :
  fH (fB lo mb) lo mb w4.heap.size (w4.alloc (.cells #[.iface 183 (.pointer (some (Ad mb 0))),vr,vo] 191)) D vr vo (dC m):=by
 have hlo:lo<=w2.heap.size:=by have:=hm.dom mb hm.inD;omega
 have s23:=h23.size;have s34:=h34.size;have hA:Below w4.heap.size w4 (w4.alloc (.cells #[.iface 183 (.pointer (some (Ad mb 0))),vr,vo] 191)):=(aK _ _).alloc (aD _) _;have h2A:Below w2.heap.size w2 (w4.alloc (.cells #[.iface 183 (.pointer (some (Ad mb 0))),vr,vo] 191)):=(h23.trans (h34.mono s23)).trans (hA.mono (by omega));have hr4:=aC.row (aC.bZ (D:=fun _=>False) h34) hr (fun _ _ g=>g);have lr:∀b,pY vr b->w2.heap.size<=b/\b<w3.heap.size:=fun b hb=>hr.lt b hb
 have lw:∀b,pY vo b->w3.heap.size<=b/\b<w4.heap.size:=fun b hb=>ho.lt b hb
 have ld:∀b,D b->b<w2.heap.size:=fun b hb=>(hm.dom b hb).2
 refine⟨bB w4 _ _,hm.kp (aC.bZ (D:=fun _=>False) h2A) (fun _ _ g=>g),?_,?_,by omega,fun g=>by have:=ld _ g;omega,fun g=>by have:=lr _ g;omega,fun g=>by have:=lw _ g;omega,fun b hb g=>by have:=lr b hb;have:=ld _ g;omega,fun b hb g=>by have:=lw b hb;have:=ld _ g;omega,fun b hb g=>by have:=lr b hb;have:=lw b g;omega⟩
 · exact ou (aC.row (aC.bZ (D:=fun _=>False) hA) hr4 (fun _ _ g=>g)) (fun g hg=>by have:=lr g hg;omega)
 · exact ou (aC.row (aC.bZ (D:=fun _=>False) hA) ho (fun _ _ g=>g)) (fun g hg=>by have:=lw g hg;omega)
theorem NU {lo mb gb z:Nat} {w':World} {D':Nat->Prop} {Md Me:Value} {s:df aR} (hg:fH (fB lo mb) lo mb gb w' D' Md Me s) (hz:z<lo) :
  ∃s0 n0 q0 s1 n1 q1 s2 n2 q2 s3 n3 q3 hd a5 c5 a6 c6,(w'.cell? (Ad mb 0)=some (.slice s0 n0 q0)/\w'.cell? (Ad mb 1)=some (.slice s1 n1 q1)/\w'.cell? (Ad mb 2)=some (.slice s2 n2 q2)/\w'.cell? (Ad mb 3)=some (.slice s3 n3 q3)/\w'.cell? (Ad mb 4)=some (I hd)/\w'.cell? (Ad gb 1)=some (.slice a5 s.ps.length c5)/\w'.cell? (Ad gb 2)=some (.slice a6 s.out.length c6))/\(¬mb=z/\¬gb=z)/\∃hs a,cA s.mem.aM hs/\eW (ir (ru s) hs) a a5 a6 c5 c6=#[.slice s0 n0 q0,.slice s1 n1 q1,.slice s2 n2 q2,.slice s3 n3 q3,I hd,.slice a5 s.ps.length c5,.slice a6 s.out.length c6]/\∀V,aC (fun b=>b<=z) w' V->ry V a a5 a6 (ir (ru s) hs):=by
 obtain⟨a5,c5,rfl,_,_⟩:=bg hg.procs;obtain⟨a6,c6,rfl,_,_⟩:=bg hg.outs;obtain⟨⟨hs,a,n,sz,h1,h2,h3,h4,h5,h6,h7⟩,hb⟩:=hg.mem;have hgl:=fH.lt (Ht lo mb) hg;obtain⟨e0,e1,e2,e3,e4⟩:=iT h2;refine⟨_,_,_,_,_,_,_,_,_,_,_,_,_,a5,c5,a6,c6,⟨e0,e1,e2,e3,e4,aq hg.head 1 rfl,aq hg.head 2 rfl⟩,⟨by omega,fun e=>by have:=hg.base;omega⟩,hs,a,h1,rfl,fun V hV=>⟨h3 V (hV.mono (fun b _ g=>by omega)),aeh (hV.row hg.procs (fun b hb e=>by have:=(hgl b (.inr (.inr (.inl hb)))).1;omega)),aeg (hV.row hg.outs (fun b hb e=>by have:=(hgl b (.inr (.inr (.inr hb)))).1;omega))⟩⟩
end Go.Proofs.YtlgoihmkgaaemaaGreat
