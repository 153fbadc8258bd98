import Derived.Test.YtlgoihmkgaaemaaGreatGP07
set_option maxHeartbeats 20000000
set_option linter.unusedVariables false
set_option maxRecDepth 100000
set_option linter.unusedSimpArgs false
namespace Go.Proofs.YtlgoihmkgaaemaaGreat
open Go.RowKit Tryz
variable {k:aT} {j j0:Nat} {p q:Int} {b:Nat} {held:List Int} {f:Int->ByteArray} (l:List qw) (ao:Option Addr) (cap:Nat)
theorem uY (h:bg k) (hj:j<k.aj.length) (hj0:j0<k.aj.length) {a:Nat} (h1:bH (ak k.aj j).bl p=some ⟨p,1,a⟩) (h2:bH (ak k.aj j0).bl q=some ⟨q,1,b⟩) (hpq:q≠p):a≠b:=λe=>by
 subst e;have m1:=j5 hj (oq h1);have m2:=j5 hj0 (oq h2);have hb:=jO h hj (oq h1);have hlt:a<k.frames.length:=by
  grind
 have:=(h.Bt a hlt).one _ m1 _ m2
 grind
theorem EC (h:bg k) (hj0:j0<k.aj.length) (h2:bH (ak k.aj j0).bl q=some ⟨q,1,b⟩):b<k.frames.length/\(aK k.frames b).refs≠0:=by
 have m2:=j5 hj0 (oq h2);have hb:=jO h hj0 (oq h2);have r:b<k.frames.length:=by
  grind
 refine⟨r,λz=>?_⟩;have:=(h.Bt b r).nil z
 grind
theorem Pt (h:bg k) (hj:j<k.aj.length) (hp:eZ k j p) (hl:held.length<=2) (hj0:j0<k.aj.length) (h2:bH (ak k.aj j0).bl q=some ⟨q,1,b⟩) (hin:(b:Int)∈held) (hpq:q≠p):aK (dI k j p held).2.frames b=aK k.frames b:=by
 have B:=h.sp hj;have G:=tI h hl;have hH:=G.QM b hin (EC h hj0 h2).2;unfold dI;cases g:bH (ak k.aj j).bl p with
 | none =>
  dsimp only;have A:bH (ak (bT k held).2.aj j).bl p=none:=by grind [ux.MQ]
  have r:j<(bT k held).2.aj.length:=by rw[G.kept.np];exact hj
  have m:ki (bT k held).2 j p (bT k held).1 (fM (bT k held).2.aD p (sI (bT k held).2 j p)) false:=⟨G.right,r,G.mapped hj hp,by rw[G.kept.nf];exact G.lt,G.free,ED G.right r (G.mapped hj hp),λ_=>rfl⟩
  grind [py]
 | some e =>
  have he:=(iY B.m9).1 g;dsimp only;by_cases c:e.kind=1
  . grind
  rw[aH c];have hb:=(jO h hj he.1).resolve_left (λy=>c y.1);have A:bH (ak (bT k held).2.aj j).bl p=some e:=by grind [ux.MQ]
  have r:j<(bT k held).2.aj.length:=by rw[G.kept.np];exact hj
  have J:=(iY (G.right.sp r).m9).1 A;have F:(bI (bT k held).2.slots e.loc.toNat).data.size=16:=(G.right.slt e.loc.toNat (by grind [ux.kept,fT.ns])).size (λz=>by
   grind [j5])
  have m:ki (bT k held).2 j p (bT k held).1 (bI (bT k held).2.slots e.loc.toNat).data true:=⟨G.right,r,G.mapped hj hp,by rw[G.kept.nf];exact G.lt,G.free,F,λy=>by cases y⟩
  grind [py]
theorem Ug (h:bg k) (hj:j<k.aj.length) (hp:eZ k j p) {a:Nat} (ha:bH (ak k.aj j).bl p=some ⟨p,1,a⟩) (hl:held.length<=1) (hj0:j0<k.aj.length) (h2:bH (ak k.aj j0).bl q=some ⟨q,1,b⟩) (hin:(b:Int)∈held) (hpq:q≠p):aK (ll k j p a held).2.frames b=aK k.frames b:=by
 have K:=uY h hj hj0 ha h2 hpq;have B:=(EC h hj ha).1;unfold ll;by_cases c:(aK k.frames a).refs=1
 . grind
 rw[aH c];have G:=tI h (held:=held++[(a:Int)]) Γ;have hH:=G.QM b (mj.2 (.inl hin)) (EC h hj0 h2).2;generalize bT k (held++[(a:Int)])=g at G hH ⊢;have A:bH (ak g.2.aj j).bl p=some ⟨p,1,a⟩:=G.stay h hj ha (λ_=>mj.2 (.inr ξ));have r:j<g.2.aj.length:=by rw[G.kept.np];exact hj
 have F:=(iY (G.right.sp r).m9).1 A;have J:(aK g.2.frames a).data.size=16:=(G.right.Bt a (by rw[G.kept.nf];exact B)).size (λz=>by
  have:=j5 r F.1
  grind)
 have m:ki g.2 j p g.1 (aK g.2.frames a).data true:=⟨G.right,r,G.mapped hj hp,by rw[G.kept.nf];exact G.lt,G.free,J,λy=>by cases y⟩
 grind [py]
theorem Uc (h:bg k) (hj:j<k.aj.length) (hp:eZ k j p) (way:Int) (hl:held.length<=1) (hj0:j0<k.aj.length) (h2:bH (ak k.aj j0).bl q=some ⟨q,1,b⟩) (hin:(b:Int)∈held) (hpq:q≠p):aK (dU k j p way held).2.frames b=aK k.frames b:=by
 have P:=AU h hj hp (held:=held) ω;have PH:=Pt h hj hp (held:=held) ω hj0 h2 hin hpq;have hT:fY k j p held (iJ k j p way held)/\aK (iJ k j p way held).2.frames b=aK k.frames b:=by
  unfold iJ;by_cases c:way=1
  . rw[aQ c];have A:=LW P.right (by rw[P.kept.np];exact hj) (P.kept.mapped hj hp) P.here hl;refine⟨P.trans A.1,?_⟩;rw[Ug P.right (by rw[P.kept.np];exact hj) (P.kept.mapped hj hp) P.here hl (by rw[P.kept.np];exact hj0) (P.stay j0 hj0 q _ h2 rfl hin (λx=>hpq x.2)) hin hpq];exact PH
  grind
 have T:=hT.1;have r:=uY T.right (by rw[T.kept.np];exact hj) (by rw[T.kept.np];exact hj0) T.here (T.stay j0 hj0 q _ h2 rfl hin (λx=>hpq x.2)) hpq;show aK ((iJ k j p way held).2.frames.set _ _) b=_
 grind [j6,fY.kept,fT.nf,fY.lt]
structure tL (k:aT) (j:Nat) (p:Int) (i:Nat):Prop where
 here:bH (ak k.aj j).bl p=some ⟨p,1,i⟩
 lt:i<k.frames.length
 refs:(aK k.frames i).refs=1
 ja:(aK k.frames i).ja=true
theorem RP (h:bg k) (hj:j<k.aj.length) (a n:Int) (h1:eZ k j (a/16)) (h2:eZ k j (dH a n)):tL (bk k j a n 1).2 j (a/16) (fD k j a 1).1/\(dH a n≠a/16->tL (bk k j a n 1).2 j (dH a n) (kO k j a n 1).1):=by
 have R:=qd h hj a n 1 h1 h2;obtain⟨A,A2⟩:=rQ h hj h1 1 (held:=[]) ξ;have A2:=A2 rfl;by_cases c:dH a n=a/16
 . have e:bk k j a n 1=([(fD k j a 1).1],(fD k j a 1).2):=by grind [bk]
   refine⟨?_,λx=>absurd c x⟩;rw[e];exact⟨A.here,by have:=A.kept.nf;have:=A.lt;show(dU k j (a/16) 1 []).1<(dU k j (a/16) 1 []).2.frames.length;omega,A2.1,A2.2⟩
 have q:j<(fD k j a 1).2.aj.length:=by grind [fD,fY.kept,fT.np]
 have r:=A.kept.mapped hj h2;obtain⟨B,B2⟩:=rQ (k:=(fD k j a 1).2) A.right q r 1 (held:=[((fD k j a 1).1:Int)]) ξ;have B2:=B2 rfl;have hh:=Uc (k:=(fD k j a 1).2) A.right q r 1 (held:=[((fD k j a 1).1:Int)]) ξ q A.here (by simp[fD]) (λx=>c x.symm);have e:bk k j a n 1=([(fD k j a 1).1,(kO k j a n 1).1],(kO k j a n 1).2):=by grind [bk]
 have hB:kO k j a n 1=dU (fD k j a 1).2 j (dH a n) 1 [((fD k j a 1).1:Int)]:=rfl;have b:(kO k j a n 1).2.frames.length=k.frames.length:=by rw[hB,B.kept.nf];exact A.kept.nf
 rw[e];refine⟨⟨?_,?_,?_,?_⟩,λ_=>⟨?_,?_,?_,?_⟩⟩
 . grind [fD,fY.stay,fY.here]
 . show(fD k j a 1).1<(kO k j a n 1).2.frames.length;rw[b];exact A.lt
 . grind [fD]
 . grind [fD]
 . exact B.here
 . show(kO k j a n 1).1<(kO k j a n 1).2.frames.length;rw[b];have:=B.lt
   grind [fY.kept,fT.nf]
 . grind
 grind
def wT (k:aT) (i:Nat) (d:ByteArray):aT:={ k with frames:=k.frames.set i ⟨d,(aK k.frames i).refs,(aK k.frames i).ja,(aK k.frames i).seen⟩ }
theorem CX (h:bg k) (hj:j<k.aj.length) {i:Nat} (a:tL k j p i) {d:ByteArray} (hd:d.size=16):bg (wT k i d):=by
 have hf:=h.Bt i a.lt;refine h.frame ⟨hf.refs,λe=>?_,hf.one,λ_=>hd,λx=>?_⟩
 . have:=hf.refs
   grind [tL.refs]
 grind [tL.ja]
theorem EA (h:bg k) (hj:j<k.aj.length) {i:Nat} (a:tL k j p i) (d:ByteArray) {m:Nat} (hm:m<k.aj.length) (q:Int):fq (wT k i d) m q=if m=j/\q=p then d else fq k m q:=by
 have at_:∀n,aK (wT k i d).frames n=if i=n then ⟨d,(aK k.frames i).refs,(aK k.frames i).ja,(aK k.frames i).seen⟩ else aK k.frames n:=λn=>j6 _ _ _ _ a.lt
 by_cases c:m=j/\q=p
 . grind [fq,aK,wT,tL.here]
 rw[aH c];refine adu rfl (λx hx=>⟨λhk=>?_,λ_=>rfl⟩) (λ_=>rfl);have hx:bH (ak k.aj m).bl q=some x:=hx;rw[at_];by_cases e:i=x.loc.toNat
 . exfalso;have m1:x∈(ak k.aj m).bl:=oq hx;have hb:=(jO h hm m1).resolve_right (λy=>ω);have L:x.loc=(i:Int):=by omega
   have e2:x=⟨q,1,i⟩:=by
    have:=aaQ hx;obtain⟨a1,a2,a3⟩:=x
    grind
   rw[e2] at hx;have A:q=p:=by
    by_cases z:q=p
    . exact z
    exact absurd rfl (uY h hj hm a.here hx z)
   have F:m≠j:=λz=>c ⟨z,A⟩
   have hr:=(h.Bt i a.lt).refs;rw[a.refs] at hr;have two:2<=(bY k.aj 1 i).length:=by
    have J:∀(l:List cZ) (a b:Nat),a<b->b<l.length->(fO (ak l a) 1 i)≠[]->(fO (ak l b) 1 i)≠[]->2<=(bY l 1 i).length:=λl=>by
     induction l with
     | nil=>grind
     | cons s r ih =>
      intro a b K hb h1 h2;rw[lu,gM];cases a with
      | zero =>
       have G:1<=(fO s 1 i).length:=Qk.2 h1;obtain⟨b',rfl⟩:∃b',b=b'+1:=⟨b-1,ω⟩;have B:fO (ak r b') 1 i≠[]:=h2;have:1<=(bY r 1 i).length:=by
        obtain⟨y,hy⟩:=Ky _ B;refine Qk.2 λz=>?_
        have:y∈bY r 1 i:=uP.2 ⟨_,Ck Γ,hy⟩
        grind
       omega
      | succ a =>
       obtain⟨b',rfl⟩:∃b',b=b'+1:=⟨b-1,ω⟩;have:=ih a b' ω Γ h1 h2;omega
    have n1:fO (ak k.aj j) 1 i≠[]:=λz=>by
     have:(_:Int×Bool)∈fO (ak k.aj j) 1 i:=uI.2 ⟨_,oq a.here,rfl,rfl,rfl⟩
     grind
    have n2:fO (ak k.aj m) 1 i≠[]:=λz=>by
     have:(_:Int×Bool)∈fO (ak k.aj m) 1 i:=uI.2 ⟨_,oq hx,rfl,rfl,rfl⟩
     grind
    grind
   omega
 grind
def tH (f:Int->ByteArray) (a n:Int):ByteArray:=if dH a n=a/16 then f (a/16) else f (a/16)++f (dH a n)
def LQ (f:Int->ByteArray) (a n:Int):ByteArray:=(tH f a n).extract (a%16).toNat ((a%16).toNat+n.toNat)
def Gw (f:Int->ByteArray) (a:Int) (d:ByteArray):ByteArray:=iT (tH f a d.size) (a%16).toNat d
def Nf (f:Int->ByteArray) (a:Int) (d:ByteArray) (p:Int):ByteArray:=if p=a/16 then (Gw f a d).extract 0 16 else if p=dH a d.size then (Gw f a d).extract 16 32 else f p
def iV (fs:List ko) (ids:List Nat):Nat->ByteArray
 | 0=>⟨#[]⟩
 | n+1=>iV fs ids n++(aK fs (ids.getD n 0)).data
def lZ (k:aT) (ids:List Nat) (s:ByteArray):Nat->aT
 | 0=>k
 | n+1=>wT (lZ k ids s n) (ids.getD n 0) (s.extract (n*16) (n*16+16))
def m7 (k:aT) (j:Nat) (a n way:Int):ByteArray:=(iV (bk k j a n way).2.frames (bk k j a n way).1 (bk k j a n way).1.length).extract (a%16).toNat ((a%16).toNat+n.toNat)
def nY (k:aT) (j:Nat) (a:Int) (d:ByteArray):aT:=lZ (bk k j a d.size 1).2 (bk k j a d.size 1).1 (iT (iV (bk k j a d.size 1).2.frames (bk k j a d.size 1).1 (bk k j a d.size 1).1.length) (a%16).toNat d) (bk k j a d.size 1).1.length
theorem LR {i:Nat} (h:bH (ak k.aj j).bl p=some ⟨p,1,i⟩):fq k j p=(aK k.frames i).data:=by
 grind [fq]
theorem yt (h:bg k) (hj:j<k.aj.length) (a n way:Int) (h1:eZ k j (a/16)) (h2:eZ k j (dH a n)):iV (bk k j a n way).2.frames (bk k j a n way).1 (bk k j a n way).1.length=tH (fq k j) a n:=by
 have R:=qd h hj a n way h1 h2;have p1:=R.kept.acv j hj (a/16);have p2:=R.kept.acv j hj (dH a n);rw[LR R.one.1] at p1;unfold tH;rw[<- p1,<- p2];by_cases c:dH a n=a/16
 . rw[aQ c];have e:(bk k j a n way).1=[(fD k j a way).1]:=by grind [bk]
   rw[e];rfl
 rw[aH c,LR (R.two c).1];have e:(bk k j a n way).1=[(fD k j a way).1,(kO k j a n way).1]:=by grind [bk]
 rw[e];rfl
theorem AY (h:bg k) (hj:j<k.aj.length) (a n way:Int) (h1:eZ k j (a/16)) (h2:eZ k j (dH a n)):m7 k j a n way=LQ (fq k j) a n:=by
 grind [m7,LQ,yt]
theorem qg (h:bg k) (hj:j<k.aj.length) (hp:eZ k j p):(fq k j p).size=16:=by
 unfold fq;cases g:bH (ak k.aj j).bl p with
 | none=>exact ED h hj hp
 | some e =>
  have hb:=jO h hj (oq g);have hn:=j5 hj (oq g);dsimp only;rcases hb with b | b
  . rw[aQ b.1];exact(h.Bt _ b.2.2).size (λz=>Γ)
  grind [bg.slt,mN.size]
theorem LN (s:ByteArray) (q:Nat) (t:ByteArray) (h:q+t.size<=s.size):(iT s q t).size=s.size:=by
 have h1:(iT s q t).size=(iT s q t).data.toList.length:=by simp
 have h2:s.size=s.data.toList.length:=by simp
 have h3:t.size=t.data.toList.length:=by simp
 grind [iT]
theorem Cq (s:ByteArray) (a b:Nat) (h:b<=s.size) (hab:a<=b):(s.extract a b).size=b-a:=by
 simp_all
theorem Ni {a n:Int} (h1:1<=n) (h8:n<=8):(dH a n=a/16/\a%16+n<=16)\/(dH a n=a/16+1/\16<a%16+n):=by
 grind [dH]
structure EF (f:Int->ByteArray) (a n:Int):Prop where
 one:(f (a/16)).size=16
 two:(f (dH a n)).size=16
theorem zW {a n:Int} (h:EF f a n) (h1:1<=n) (h8:n<=8):((tH f a n).size:Int)=if dH a n=a/16 then 16 else 32:=by
 grind [tH,EF.one,EF.two]
theorem Cm {a n:Int} (h:EF f a n) (h1:1<=n) (h8:n<=8):(a%16).toNat+n.toNat<=(tH f a n).size:=by
 grind [zW,Ni]
theorem XX {a n:Int} (h:EF f a n) (h1:1<=n) (h8:n<=8):(LQ f a n).size=n.toNat:=by
 grind [LQ,Cq,Cm]
theorem XZ {a:Int} {d:ByteArray} (h:EF f a d.size) (h1:1<=(d.size:Int)) (h8:(d.size:Int)<=8):((Gw f a d).size:Int)=if dH a d.size=a/16 then 16 else 32:=by
 unfold Gw;rw[LN _ _ _ (by have:=Cm h h1 h8;omega)]
 grind [zW]
structure Nk (k:aT) (j:Nat) (a:Int) (d:ByteArray) (r:aT):Prop where
 right:bg r
 aD:r.aD=k.aD
 nf:r.frames.length=k.frames.length
 ns:r.slots.length=k.slots.length
 np:r.aj.length=k.aj.length
 live:∀m,m<k.aj.length->(ak r.aj m).live=(ak k.aj m).live
 bu:∀m,m<k.aj.length->(ak r.aj m).bu=(ak k.aj m).bu
 acv:∀m,m<k.aj.length->∀p,fq r m p=if m=j then Nf (fq k j) a d p else fq k m p
theorem zR (h:bg k) (hj:j<k.aj.length) (a:Int) (d:ByteArray) (hd1:1<=(d.size:Int)) (hd8:(d.size:Int)<=8) (h1:eZ k j (a/16)) (h2:eZ k j (dH a d.size)):Nk k j a d (nY k j a d):=by
 have R:=qd h hj a d.size 1 h1 h2;have A:=RP h hj a d.size h1 h2;have hP:EF (fq k j) a d.size:=⟨qg h hj h1,qg h hj h2⟩;have hL:=XZ hP hd1 hd8;have QG:=Ni (a:=a) hd1 hd8;unfold nY;rw[yt h hj a d.size 1 h1 h2];obtain⟨s,hs⟩:=ex (Gw (fq k j) a d);have hs':iT (tH (fq k j) a d.size) (a%16).toNat d=s:=hs.symm;rw[hs'];rw[<- hs] at hL;obtain⟨K,hK⟩:=ex ((bk k j a d.size 1).2);have hr:=R.right;have FN:=R.kept;rw[<- hK] at hr FN A ⊢;have b:j<K.aj.length:=by grind [fT.np]
 by_cases c:dH a d.size=a/16
 . have e:(bk k j a d.size 1).1=[(fD k j a 1).1]:=by grind [bk]
   rw[e];show Nk k j a d (wT K (fD k j a 1).1 (s.extract (0*16) (0*16+16)));rw[aQ c] at hL;have hz:(s.extract (0*16) (0*16+16)).size=16:=Cq _ _ _ ω ω;refine⟨CX hr b A.1 hz,FN.aD,by show(List.set _ _ _).length=_;grind [fT.nf],FN.ns,FN.np,FN.live,FN.bu,λm hm p=>?_⟩
   grind [EA,Nf,fT.np,fT.acv]
 have e:(bk k j a d.size 1).1=[(fD k j a 1).1,(kO k j a d.size 1).1]:=by grind [bk]
 rw[e];show Nk k j a d (wT (wT K (fD k j a 1).1 (s.extract (0*16) (0*16+16))) (kO k j a d.size 1).1 (s.extract (1*16) (1*16+16)));rw[aH c] at hL;have hz:(s.extract (0*16) (0*16+16)).size=16:=Cq _ _ _ ω ω;have hy:(s.extract (1*16) (1*16+16)).size=16:=Cq _ _ _ ω ω;have A2:=A.2 c;have r:=uY hr b b A.1.here A2.here c;have r1:=CX hr b A.1 hz;have B:tL (wT K (fD k j a 1).1 (s.extract (0*16) (0*16+16))) j (dH a d.size) (kO k j a d.size 1).1:=by
  have at_:aK (wT K (fD k j a 1).1 (s.extract (0*16) (0*16+16))).frames (kO k j a d.size 1).1=aK K.frames (kO k j a d.size 1).1:=by
   show aK (List.set _ _ _) _=_
   grind [j6,tL.lt]
  exact⟨A2.here,by show _<(List.set _ _ _).length;rw[gX];exact A2.lt,by grind [tL.refs],by grind [tL.ja]⟩
 refine⟨CX r1 b B hy,FN.aD,by show(List.set (List.set _ _ _) _ _).length=_;grind [fT.nf],FN.ns,FN.np,FN.live,FN.bu,λm hm p=>?_⟩;have q:m<K.aj.length:=by grind [fT.np]
 rw[EA r1 b B _ (m:=m) q,EA hr b A.1 _ q]
 grind [Nf,fT.acv]
structure kI where
 i:xz
 a:KM
 base:Int
def anA:kI:=⟨⟨⟨#[]⟩,[],[],[],[],0⟩,⟨none,0,none,0,none,0,none,0⟩,0⟩
def dX (l:List kI) (k:Nat):kI:=l.getD k anA
def pS (o:kI):Array Value:=#[.string o.i.name,.slice o.a.an o.i.needs.length o.a.cn,.slice o.a.ag o.i.jT.length o.a.cg,.slice o.a.ay o.i.syms.length o.a.cy,.slice o.a.ar o.i.qH.length o.a.cr,I o.i.entry,I o.base]
def Qy (w:World) (b off:Nat) (l:List kI):Prop:=∀k,k<l.length ->
 (w.cell? (Ad b (off+k*7))=some (.string (dX l k).i.name)/\w.cell? (Ad b (off+k*7+1))=some (.slice (dX l k).a.an (dX l k).i.needs.length (dX l k).a.cn) /\
  w.cell? (Ad b (off+k*7+2))=some (.slice (dX l k).a.ag (dX l k).i.jT.length (dX l k).a.cg)/\w.cell? (Ad b (off+k*7+3))=some (.slice (dX l k).a.ay (dX l k).i.syms.length (dX l k).a.cy) /\
  w.cell? (Ad b (off+k*7+4))=some (.slice (dX l k).a.ar (dX l k).i.qH.length (dX l k).a.cr)/\w.cell? (Ad b (off+k*7+5))=some (I (dX l k).i.entry)/\w.cell? (Ad b (off+k*7+6))=some (I (dX l k).base))/\qM w (dX l k).a (dX l k).i
theorem akG {w w':World} {off:Nat} {l:List kI} (hb:Below w.heap.size w w') (hlt:b<w.heap.size) (h:Qy w b off l):Qy w' b off l:=λk hk=>by
 obtain⟨⟨c0,c1,c2,c3,c4,c5,c6⟩,hi⟩:=h k hk
 grind [cW,qM.below]
def Lg (w:World) (ao:Option Addr) (l:List kI):Prop:=ie Qy w ao l
theorem Lg.below {w w':World} {ao:Option Addr} {l:List kI} (h:Lg w ao l) (hb:Below w.heap.size w w'):Lg w' ao l:=ie.below (lie:=Qy) (λhb hlt h=>akG hb hlt h) h hb
def xJ (i:xz):qw:=fh i.jT (i.jT.length-1)
def yl (o:kI):Int:=o.base+(xJ o.i).page+(xJ o.i).aY
def yN (o:kI) (Zy:Int):Int:=o.base*16+Zy
def wA (s:qw):Int:=if s.wr then (if s.ex then 3 else 1) else (if s.ex then 2 else 0)
theorem yh {i:xz} (hc:mM i=0) (k:Nat) (hk:k<i.jT.length):0<=(fh i.jT k).page/\1<=(fh i.jT k).aY/\(fh i.jT k).page+(fh i.jT k).aY<=255/\((fh i.jT k).data.size:Int)<=(fh i.jT k).aY*16:=by
 unfold mM at hc;split at hc
 . omega
 split at hc
 . omega
 split at hc
 . omega
 rename_i h
 have h':MU i=true:=by grind
 unfold MU at h';have:=QT lU Ir i.jT k hk h';unfold lU at this;exact kr this
theorem wL {i:xz} (hc:mM i=0):1<=i.jT.length/\i.jT.length<=6/\i.needs.length<=4/\i.syms.length<=12/\i.qH.length<=16:=by
 grind [mM,Dp]
theorem FW {i:xz} (hc:mM i=0):0<=(xJ i).page/\1<=(xJ i).aY/\(xJ i).page+(xJ i).aY<=255:=by
 have h1:=wL hc;have h2:=yh hc (i.jT.length-1) ω;exact⟨h2.1,h2.2.1,h2.2.2.1⟩
theorem aB {p:Prop} (h:p):Hid p:=h
theorem ml {a b:Bool} (h:a=b):Ending.returned (.bool a)=.returned (.bool b):=by rw[h]
theorem KE (n:Int) (w:World):Calls prog 220 #[.int .u8 n] w λe w'=>e=.returned (.bool (uQ n))/\w=w':=by
 by_cases h1:97<=n/\n<=122
 . have e:uQ n=true:=by grind [uQ]
   rw[e];obtain⟨a,b⟩:=h1;go_enter func220,ntmps220;go_wp2;go_ret
   simp_all
 by_cases h2:48<=n/\n<=57
 . have e:uQ n=true:=by grind [uQ]
   rw[e];obtain⟨a,b⟩:=h2;have c:decide (97<=n)=false:=by grind
   clear h1;go_enter func220,ntmps220;go_wp2;go_ret
   simp_all
 by_cases h3:n=95
 . subst h3;go_enter func220,ntmps220;go_wp2;go_ret;exact⟨rfl,rfl⟩
 have e:uQ n=false:=by grind [uQ]
 rw[e];have h:(n==95)=false:=by grind
 by_cases a:97<=n
 . have b:decide (n<=122)=false:=by grind
   have c:48<=n:=by omega
   have d:decide (n<=57)=false:=by grind
   clear h1 h2;go_enter func220,ntmps220;go_wp2;go_ret
   simp_all
 by_cases c:48<=n
 . have d:decide (n<=57)=false:=by grind
   clear h1 h2;go_enter func220,ntmps220;go_wp2;go_ret
   simp_all
 clear h1 h2;go_enter func220,ntmps220;go_wp2;go_ret
 simp_all
theorem WH (s:ByteArray) (w:World) (hs:bM s.size):Calls prog 200 #[.string s] w λe w'=>e=.returned (.bool (uR s))/\w=w':=by
 unfold bM at hs;by_cases h1:1<=s.size
 . by_cases h2:s.size<=12
   . have d1:¬(s.size:Int)<1:=by omega
     have d2:¬12<(s.size:Int):=by omega
     go_enter func200,ntmps200;go_wp2
     go_loop [14] (λi=>∃k:Nat,k<=s.size/\i=I k/\∀j (hj:j<s.size),j<k->uQ s[j].toNat=true) (λi=>s.size-(intOf i).toNat)
     case atStart=>exact⟨0,ω,rfl,λj _ h=>ω⟩
     case round =>
      obtain⟨k,hk,rfl,b⟩:=hrel;have HA:=aB b;clear b;by_cases hlt:k<s.size
      . cases hc:uQ s[k].toNat
        . have HR:=aB (af1 s k hlt hc);go_wp2_with (go_at_call 220;refine(KE _ _).mono ?_;rintro e w' ⟨rfl,rfl⟩;rw[hc]);go_ret;exact⟨ml HR.o.symm,rfl⟩
        have HC:=aB hc;go_wp2_with (go_at_call 220;refine(KE _ _).mono ?_;rintro e w' ⟨rfl,rfl⟩;rw[hc])
        grind [intOf,Hid.o]
      obtain rfl:k=s.size:=by omega
      have HR:=aB (acP s h1 h2 (λk hk=>HA.o k hk hk));go_wp2;go_ret;exact⟨ml HR.o.symm,rfl⟩
   have HR:=aB (QS s (λh=>h2 h.2));have d1:¬(s.size:Int)<1:=by omega
   have d2:12<(s.size:Int):=by omega
   go_enter func200,ntmps200;go_wp2;go_ret;exact⟨ml HR.o.symm,rfl⟩
 have HR:=aB (QS s (λh=>h1 h.1));have d1:(s.size:Int)<1:=by omega
 go_enter func200,ntmps200;go_wp2;go_ret;exact⟨ml HR.o.symm,rfl⟩
theorem KD (i:xz) (a:KM) (w:World) (hf:KL i):Calls prog 159 #[.agg (jU a i)] w λe w'=>e=.returned (.bool (Dp i))/\Below w.heap.size w w':=by
 obtain⟨an,cn,ag,cg,ay,cy,ar,cr⟩:=a;obtain⟨nm,ns,gs,ys,rs,en⟩:=i;obtain⟨f1,f2,f3,f4,f5,f6,f7,f8,f9,A⟩:=hf;simp only at f2 f4 f6 f8;unfold bM at f2 f4 f6 f8;simp only[jU,Dp];have eB:∀o,Hid (Below w.heap.size w (w.alloc o)):=λo=>(aN w.heap.size w).alloc (aJ _) o
 obtain⟨r,hr⟩:=ex (decide (1<=gs.length/\gs.length<=6/\ns.length<=4/\ys.length<=12/\rs.length<=16));rw[<- hr];have HR:=aB hr;clear hr f1 f3 f5 f7 f9 A;obtain⟨ln,h⟩:∃n,n=ns.length:=⟨_,rfl⟩;obtain⟨lg,b⟩:∃n,n=gs.length:=⟨_,rfl⟩;obtain⟨ly,y⟩:∃n,n=ys.length:=⟨_,rfl⟩;obtain⟨lr,q⟩:∃n,n=rs.length:=⟨_,rfl⟩;rw[<- h,<- b,<- y,<- q] at HR;rw[<- h,<- b,<- y,<- q];rw[<- h] at f2;rw[<- b] at f4;rw[<- y] at f6;rw[<- q] at f8;clear h b y q;by_cases d1:1<=(lg:Int)
 . by_cases d2:(lg:Int)<=6
   . by_cases d3:(ln:Int)<=4
     . by_cases d4:(ly:Int)<=12
       . by_cases d5:(lr:Int)<=16
         . have e:r=true:=by grind [Hid.o]
           subst e;go_enter func159,ntmps159;go_wp2;go_ret;exact⟨rfl,(eB _).out⟩
         have e:r=false:=by grind [Hid.o]
         subst e;go_enter func159,ntmps159;go_wp2;go_ret;exact⟨rfl,(eB _).out⟩
       have e:r=false:=by grind [Hid.o]
       subst e;go_enter func159,ntmps159;go_wp2;go_ret;exact⟨rfl,(eB _).out⟩
     have e:r=false:=by grind [Hid.o]
     subst e;go_enter func159,ntmps159;go_wp2;go_ret;exact⟨rfl,(eB _).out⟩
   have e:r=false:=by grind [Hid.o]
   subst e;go_enter func159,ntmps159;go_wp2;go_ret;exact⟨rfl,(eB _).out⟩
 have e:r=false:=by grind [Hid.o]
 subst e;have q4:decide ((1:Int)<=(lg:Int))=false:=eH d1;obtain rfl:lg=0:=by omega
 go_enter func159,ntmps159;go_wp2;go_ret;exact⟨rfl,(eB _).out⟩
theorem KC (w:World) (h:ie Ax w ao l) (hn:bM l.length) (hf:∀k,k<l.length->ahS (fh l k)) :
  Calls prog 160 #[.slice ao l.length cap] w λe w'=>e=.returned (.bool (l.all lU))/\Below w.heap.size w w':=by
 unfold bM at hn;have H:=aB h;have F:=aB hf;clear h hf;go_enter func160,ntmps160;go_wp2;go_loopw [7] (λi wr=>∃k:Nat,k<=l.length/\i=I k/\(∀j,j<k->lU (fh l j)=true)/\Below w.heap.size w wr) (λi _=>l.length-(intOf i).toNat)
 case atStart=>grind [Below.refl]
 case round =>
  obtain⟨k,hk,rfl,r,hb⟩:=hrel;have HA:=aB r;have HB:=aB hb;clear r;by_cases hlt:k<l.length
  . obtain⟨b,off,K,L,hl⟩:=H.o ω;subst K;obtain⟨c0,c1,c2,c3,c4⟩:=Aw hb L hl k hlt;obtain⟨g1,g2,g3⟩:=F.o k hlt;obtain⟨s,hs⟩:=ex (fh l k);rw[<- hs] at c0 c1 c2 c3 c4 g1 g2 g3;have HS:=aB hs;clear hs hb hl;obtain⟨p,n,d,x,y⟩:=s;simp only at c0 c1 c2 c3 c4 g1 g2 g3;unfold cR at g1 g2;unfold bM at g3;have Td:(k:Int)<(l.length:Int):=by omega
    have q:Hid (¬(0<=p/\1<=n/\p+n<=255/\(d.size:Int)<=n*16)->l.all lU=false):=λhx =>
     NZ lU Ir l k hlt (by show lU (fh l k)=false;rw[<- HS.o];exact eH hx)
    by_cases d1:0<=p
    . have G:¬p<0:=by omega
      by_cases d2:1<=n
      . have B:¬n<1:=by omega
        by_cases d3:p+n<=255
        . have A:¬255-p<n:=by omega
          by_cases d4:(d.size:Int)<=n*16
          . have J:¬n*16<(d.size:Int):=by omega
            have NU:Hid (lU ⟨p,n,d,x,y⟩=true):=dW ⟨d1,d2,d3,d4⟩;go_wp2;go_roundw
            case rel=>exact⟨k+1,ω,by go_num,λj h=>if e:j=k then by rw[e,<- HS.o];exact NU.out else HA.o j ω,HB.o.alloc HB.o.size _⟩
            case measure=>simp[intOf];omega
          have J:n*16<(d.size:Int):=by omega
          have HR:=aB (q.out ω);go_wp2;go_ret;exact⟨ml HR.o.symm,HB.o.alloc HB.o.size _⟩
        have A:255-p<n:=by omega
        have HR:=aB (q.out ω);go_wp2;go_ret;exact⟨ml HR.o.symm,HB.o.alloc HB.o.size _⟩
      have B:n<1:=by omega
      have HR:=aB (q.out ω);go_wp2;go_ret;exact⟨ml HR.o.symm,HB.o.alloc HB.o.size _⟩
    have G:p<0:=by omega
    have HR:=aB (q.out ω);go_wp2;go_ret;exact⟨ml HR.o.symm,HB.o.alloc HB.o.size _⟩
  obtain rfl:k=l.length:=by omega
  have HR:=aB (Jy lU Ir l (λj hj=>HA.o j hj));clear hb;go_wp2;go_ret;exact⟨ml HR.o.symm,HB.o⟩
theorem Z1 (k n:Nat) (h:tq l k=false) (hk:k<=n):tq l n=false:=by
 induction n with
 | zero=>grind
 | succ n ih =>
  grind [tq]
theorem acE (k:Nat) (hk:k<l.length) (h:tq l (k+1)=false):Dq l=false:=Z1 l (k+1) l.length h hk
theorem Tt (w:World) (h:ie Ax w ao l) (hn:bM l.length) (hr:l.all lU=true) :
  Calls prog 161 #[.slice ao l.length cap] w λe w'=>e=.returned (.bool (!Dq l))/\Below w.heap.size w w':=by
 unfold bM at hn;have H:=aB h;have F:=aB hr;clear h hr;go_enter func161,ntmps161;go_wp2;go_loopw [3] (λi wr=>∃k:Nat,1<=k/\(k<=l.length\/k=1)/\i=I k/\tq l k=true/\Below w.heap.size w wr) (λi _=>l.length-(intOf i).toNat)
 case atStart=>exact⟨1,ω,.inr rfl,rfl,rfl,aN _ _⟩
 case round =>
  obtain⟨k,O,hk,rfl,A,hb⟩:=hrel;have HA:=aB A;have HB:=aB hb;clear A;by_cases hlt:k<l.length
  . obtain⟨b,off,L,G,hl⟩:=H.o ω;subst L;obtain⟨c0,c1,c2,c3,c4⟩:=Aw hb G hl k hlt;obtain⟨e0,e1,e2,e3,e4⟩:=Aw hb G hl (k-1) ω;have g1:0<=(fh l (k-1)).page/\1<=(fh l (k-1)).aY/\(fh l (k-1)).page+(fh l (k-1)).aY<=255/\_:=kr (QT lU Ir l (k-1) ω F.o);have r:Hid (tq l (k+1)=decide ((fh l (k-1)).page+(fh l (k-1)).aY<=(fh l k).page)):=by
     show _=_;simp only[tq,HA.o,ju,aaa]
     grind
    obtain⟨t,ht⟩:=ex (fh l (k-1));generalize fh l k=s at c0 c1 c2 c3 c4 r;rw[<- ht] at e0 e1 e2 e3 e4 g1 r;clear ht hb hl;obtain⟨sp,sn,sd,sx,sy⟩:=s;obtain⟨tp,tn,td,tx,ty⟩:=t;simp only at c0 c1 c2 c3 c4 e0 e1 e2 e3 e4 g1 r;obtain⟨g1,g2,g3,g4⟩:=g1;clear c1 c2 c3 c4 e2 e3 e4 g4;have Td:(k:Int)<(l.length:Int):=by omega
    have yL:=iH wr;have y:=@fG wr;have B:b<wr.heap.size:=gm G HB.o.size;have k0:∀x:cM wr.heap.size wr,x.world.cell? (Ad b (off+k*5))=some (I sp):=λx=>by rw[y x _ _ B,c0]
    have k1:∀x:cM wr.heap.size wr,x.world.cell? ⟨b,off+(k-1)*5,none⟩=some (I tp):=λx=>by rw[y x _ _ B,e0]
    have k2:∀x:cM wr.heap.size wr,x.world.cell? ⟨b,off+(k-1)*5+1,none⟩=some (I tn):=λx=>by rw[y x _ _ B,e1]
    clear y c0 e0 e1;by_cases d:sp<tp+tn
    . have K:Hid (tq l (k+1)=false):=by show _=_;rw[r.out];exact eH ω
      go_wp2;refine cB κ κ ?_
      repeat (first | go_big_quiet_step (fail) | quiet_step (fail))
      refine fL ?_;intro _ J;obtain⟨x,q⟩:=J;subst q;go_wp2;go_ret;exact⟨ml (by rw[acE l k hlt K.out];rfl),HB.o.trans (x.keeps.mono HB.o.size)⟩
    have M:Hid (tq l (k+1)=true):=by show _=_;rw[r.out];exact dW ω
    go_wp2;refine cB κ κ ?_
    repeat (first | go_big_quiet_step (fail) | quiet_step (fail))
    refine fL ?_;intro _ J;obtain⟨x,q⟩:=J;subst q;go_wp2;go_roundw
    case rel=>exact⟨k+1,ω,.inl ω,by go_num,M.out,HB.o.trans (x.keeps.mono HB.o.size)⟩
    case measure=>simp[intOf];omega
  have HR:Hid (Dq l=true):=by
   show _=_;unfold Dq;rcases hk with hk | hk
   . rw[show l.length=k by omega];exact HA.o
   rcases Nat.lt_or_ge l.length 1 with h0 | h0
   . rw[show l.length=0 by omega];rfl
   rw[show l.length=k by omega];exact HA.o
  have N:¬(k:Int)<(l.length:Int):=by omega
  clear hb;go_wp2;go_ret;exact⟨ml (by rw[HR.o];rfl),HB.o⟩
def Aq (s:qw):Array Value:=#[I s.page,I s.aY,.string s.data,.bool s.wr,.bool s.ex]
def Ed (l:List qw) (a:Int):qw:=(tT l a).getD Ir
theorem Ef:∀(l:List qw) (a:Int),(∀j,j<l.length->sX (fh l j) a=false)->tT l a=none
 | [],_,_=>rfl
 | s::r,a,h=>by
  have h0:sX s a=false:=h 0 ξ;unfold tT;rw[h0,aH ξ];exact Ef r a (λj hj=>h (j+1) Γ)
theorem Ee:∀(l:List qw) (a:Int) (k:Nat),k<l.length->(∀j,j<k->sX (fh l j) a=false)->sX (fh l k) a=true->tT l a=some (fh l k)
 | s::r,a,0,_,_,h=>by
  have h0:sX s a=true:=h;unfold tT;rw[h0,aQ rfl];rfl
 | s::r,a,k+1,hk,hj,h=>by
  have h0:sX s a=false:=hj 0 ω;unfold tT;rw[h0,aH ξ];exact Ee r a k Γ (λj h=>hj (j+1) ω) h
theorem QO {l:List qw} (h:l.all lU=true) (k:Nat) (hk:k<l.length):0<=(fh l k).page/\1<=(fh l k).aY/\(fh l k).page+(fh l k).aY<=255/\((fh l k).data.size:Int)<=(fh l k).aY*16 :=
 kr (QT lU Ir l k hk h)
theorem Z0 {l:List qw} (h:l.all lU=true) (a:Int) (ha:a<0):tT l a=none :=
 Ef l a (λj hj=>by
  have:=QO h j hj;exact eH ω)
theorem MR {a b:qw} {x y:Bool} (h:a=b) (g:x=y):Ending.returned (.tuple #[.agg (Aq a),.bool x])=.returned (.tuple #[.agg (Aq b),.bool y]):=by rw[h,g]
theorem BJ (a:Int) (w:World) (h:ie Ax w ao l) (hn:bM l.length) (hr:l.all lU=true) (ha:cR a) :
  Calls prog 201 #[.slice ao l.length cap,I a] w λe w'=>e=.returned (.tuple #[.agg (Aq (Ed l a)),.bool (jh l a)])/\Below w.heap.size w w':=by
 unfold bM at hn;unfold cR at ha;have H:=aB h;have F:=aB hr;clear h hr;by_cases h0:a<0
 . have HN:=aB (Z0 F.o a h0);have HZ:=aB ((aN w.heap.size w).alloc (aJ _) (.cells #[I 0,I 0,.string ⟨#[]⟩,.bool false,.bool false] 166));go_enter func201,ntmps201;go_wp2;exact bW (v:=.tuple #[.agg #[I 0,I 0,.string ⟨#[]⟩,.bool false,.bool false],.bool false]) (by simp[results,results201,go_sem]) rfl ⟨MR (a:=Ir) (x:=false) (by grind [Ed,Hid.o]) (by grind [jh,Hid.o]),HZ.o⟩
 have B:Below w.heap.size w (w.alloc (.cells #[I 0,I 0,.string ⟨#[]⟩,.bool false,.bool false] 166)):=(aN _ _).alloc (aJ _) _;have HZ:=aB B;clear B;go_enter func201,ntmps201;go_wp2;go_loopw [16] (λi wr=>∃k:Nat,k<=l.length/\i=I k/\(∀j,j<k->sX (fh l j) a=false)/\Below (w.heap.size+1) (w.alloc (.cells #[I 0,I 0,.string ⟨#[]⟩,.bool false,.bool false] 166)) wr) (λi _=>l.length-(intOf i).toNat)
 case atStart=>grind [Below.refl]
 case round =>
  obtain⟨k,hk,rfl,r,hb⟩:=hrel;have HN:=aB r;have HB:=aB hb;have ov:Hid (Below w.heap.size w wr):=HZ.o.trans (hb.mono (iO _));have K:w.heap.size+1<=wr.heap.size:=by have:=hb.size;simpa using this
  have HR:=aB (aO (bG w #[I 0,I 0,.string ⟨#[]⟩,.bool false,.bool false] 166) hb (Kp _));clear r hb;by_cases hlt:k<l.length
  . obtain⟨b,off,G,J,hl⟩:=H.o ω;subst G;obtain⟨c0,c1,c2,c3,c4⟩:=Aw ov.out J hl k hlt;obtain⟨g1,g2,g3,g4⟩:=QO F.o k hlt;obtain⟨s,hs⟩:=ex (fh l k);rw[<- hs] at c0 c1 c2 c3 c4 g1 g2 g3 g4;have HS:=aB hs;clear hs hl;obtain⟨p,n,d,x,y⟩:=s;simp only at c0 c1 c2 c3 c4 g1 g2 g3 g4;have Td:(k:Int)<(l.length:Int):=by omega
    clear g4;by_cases d1:p<=a/16
    . by_cases d2:a/16<p+n
      . have A:Hid (sX (fh l k) a=true):=by show _=_;rw[<- HS.o];exact dW (ω:p*16<=a/\a<(p+n)*16)
        have t0:=aA (bB HR.o (.cells #[I p,I n,.string d,.bool x,.bool y] 166)) 0 rfl;have t1:=aA (bB HR.o (.cells #[I p,I n,.string d,.bool x,.bool y] 166)) 1 rfl;have t2:=aA (bB HR.o (.cells #[I p,I n,.string d,.bool x,.bool y] 166)) 2 rfl;have t3:=aA (bB HR.o (.cells #[I p,I n,.string d,.bool x,.bool y] 166)) 3 rfl;have t4:=aA (bB HR.o (.cells #[I p,I n,.string d,.bool x,.bool y] 166)) 4 rfl;have u0:=br (bB HR.o (.cells #[I p,I n,.string d,.bool x,.bool y] 166));have ZB:=aB (ov.out.alloc ov.out.size (.cells #[I p,I n,.string d,.bool x,.bool y] 166));go_wp2;exact bW (v:=.tuple #[.agg #[I p,I n,.string d,.bool x,.bool y],.bool true]) (by simp[results,results201,go_sem,t0,t1,t2,t3,t4]) rfl ⟨MR (a:=⟨p,n,d,x,y⟩) (x:=true) (by unfold Ed;rw[Ee l a k hlt HN.o A.out];exact HS.o) (by unfold jh;rw[Ee l a k hlt HN.o A.out];rfl),(((((ZB.o.setCell (aJ _) _).setCell (aJ _) _).setCell (aJ _) _).setCell (aJ _) _).setCell (aJ _) _)⟩
      have E6:Hid (sX (fh l k) a=false):=by show _=_;rw[<- HS.o];exact eH (show ¬(p*16<=a/\a<(p+n)*16) by omega)
      go_wp2;go_roundw
      case rel=>exact⟨k+1,ω,by go_num,λj hj=>if e:j=k then by rw[e];exact E6.out else HN.o j ω,HB.o.alloc ω _⟩
      case measure=>simp[intOf];omega
    have E6:Hid (sX (fh l k) a=false):=by show _=_;rw[<- HS.o];exact eH (show ¬(p*16<=a/\a<(p+n)*16) by omega)
    go_wp2;go_roundw
    case rel=>exact⟨k+1,ω,by go_num,λj hj=>if e:j=k then by rw[e];exact E6.out else HN.o j ω,HB.o.alloc ω _⟩
    case measure=>simp[intOf];omega
  obtain rfl:k=l.length:=by omega
  have q:=aB (Ef l a HN.o);have t0:=aA HR.o 0 rfl;have t1:=aA HR.o 1 rfl;have t2:=aA HR.o 2 rfl;have t3:=aA HR.o 3 rfl;have t4:=aA HR.o 4 rfl;have u0:=br HR.o;go_wp2;exact bW (v:=.tuple #[.agg #[I 0,I 0,.string ⟨#[]⟩,.bool false,.bool false],.bool false]) (by simp[results,results201,go_sem,t0,t1,t2,t3,t4]) rfl ⟨MR (a:=Ir) (x:=false) (by unfold Ed;rw[q.o];rfl) (by unfold jh;rw[q.o];rfl),(((((ov.out.setCell (aJ _) _).setCell (aJ _) _).setCell (aJ _) _).setCell (aJ _) _).setCell (aJ _) _)⟩
theorem Pd {l:List qw} (h:l.all lU=true) (a:Int) (hp:jh l a=true):0<=a/\a<4080:=by
 induction l with
 | nil=>cases hp
 | cons s r ih =>
  grind [lU,jh,tT,sX]
theorem KG (i:xz) (a:KM) (w:World) (h:qM w a i) (hf:KL i) (hr:i.jT.all lU=true):Calls prog 166 #[.agg (jU a i)] w λe w'=>e=.returned (.bool (Dn i))/\Below w.heap.size w w':=by
 obtain⟨an,cn,ag,cg,ay,cy,ar,cr⟩:=a;obtain⟨nm,ns,gs,ys,rs,en⟩:=i;obtain⟨h1,h2,h3,h4⟩:=h;obtain⟨f1,f2,f3,f4,f5,f6,f7,f8,f9,F⟩:=hf;simp only at h1 h2 h3 h4 f1 f2 f3 f4 f5 f6 f7 f8 f9 F;have F4:=aB f4;unfold bM at f2 f4 f6 f8;simp only[jU];have H2:=aB h2;have y:=aB F;have HG:=aB hr;clear h1 h2 h3 h4 f3 f5 f7 f9 F hr;have q:=aB (bG w #[.string nm,.slice an ns.length cn,.slice ag gs.length cg,.slice ay ys.length cy,.slice ar rs.length cr,I en] 56);have eB:=aB ((aN w.heap.size w).alloc (aJ _) (.cells #[.string nm,.slice an ns.length cn,.slice ag gs.length cg,.slice ay ys.length cy,.slice ar rs.length cr,I en] 56));obtain⟨X,hX⟩:∃X:Array Value,X=#[.string nm,.slice an ns.length cn,.slice ag gs.length cg,.slice ay ys.length cy,.slice ar rs.length cr,I en]:=⟨_,rfl⟩;have HX:=aB hX;rw[<- hX] at q eB;clear hX;have J:=y.o;unfold cR at J;have HE:Hid (Dn ⟨nm,ns,gs,ys,rs,en⟩=(jh gs en&&((Ed gs en).ex&&decide (en%8=0)))):=by
  show _=_
  grind [Dn,jh,Ed]
 rw[HE.o];have A:jh gs en=true->0<=en:=λh=>(Pd HG.o en h).1
 obtain⟨sg,B⟩:=ex (Ed gs en);obtain⟨pb,Ib⟩:=ex (jh gs en);have HS:=aB B;have HP:=aB Ib;rw[<- Ib] at A;rw[<- B,<- Ib];obtain⟨sp,sn,sd,sx,sy⟩:=sg;simp only;clear HE B Ib;cases pb
 . clear A;go_enter func166,ntmps166;go_wp2_with fail;rw[<- HX.o];refine(BJ gs ag cg en _ (ie.below (lie:=Ax) (λhb hlt h=>Aw hb hlt h) H2.o eB.o) F4.o HG.o y.o).mono ?_;rintro e w2 ⟨rfl,b⟩;have iI:=aB (eB.o.trans (b.mono eB.o.size));have r:=aB (aO q.o b (aM q.o));clear b;rw[<- HS.o,<- HP.o];simp only[Aq];go_wp2;go_ret;exact⟨rfl,iI.o.alloc iI.o.size _⟩
 have hp:=A rfl;clear A;cases sy
 . go_enter func166,ntmps166;go_wp2_with fail;rw[<- HX.o];refine(BJ gs ag cg en _ (ie.below (lie:=Ax) (λhb hlt h=>Aw hb hlt h) H2.o eB.o) F4.o HG.o y.o).mono ?_;rintro e w2 ⟨rfl,b⟩;have iI:=aB (eB.o.trans (b.mono eB.o.size));have r:=aB (aO q.o b (aM q.o));clear b;rw[<- HS.o,<- HP.o];simp only[Aq];go_wp2;go_ret;exact⟨rfl,iI.o.alloc iI.o.size _⟩
 by_cases d:en%8=0
 . rw[dW d];go_enter func166,ntmps166;go_wp2_with fail;rw[<- HX.o];refine(BJ gs ag cg en _ (ie.below (lie:=Ax) (λhb hlt h=>Aw hb hlt h) H2.o eB.o) F4.o HG.o y.o).mono ?_;rintro e w2 ⟨rfl,b⟩;have iI:=aB (eB.o.trans (b.mono eB.o.size));have r:=aB (aO q.o b (aM q.o));have MM:=aM r.o;have G:=aA r.o 5 (by rw[HX.o];rfl);clear b;rw[<- HS.o,<- HP.o];simp only[Aq];go_wp2;go_ret;exact⟨rfl,iI.o.alloc iI.o.size _⟩
 rw[eH d];go_enter func166,ntmps166;go_wp2_with fail;rw[<- HX.o];refine(BJ gs ag cg en _ (ie.below (lie:=Ax) (λhb hlt h=>Aw hb hlt h) H2.o eB.o) F4.o HG.o y.o).mono ?_;rintro e w2 ⟨rfl,b⟩;have iI:=aB (eB.o.trans (b.mono eB.o.size));have r:=aB (aO q.o b (aM q.o));have MM:=aM r.o;have G:=aA r.o 5 (by rw[HX.o];rfl);clear b;rw[<- HS.o,<- HP.o];simp only[Aq];go_wp2;go_ret;exact⟨ml Γ,iI.o.alloc iI.o.size _⟩
end Go.Proofs.YtlgoihmkgaaemaaGreat
