import Derived.Test.YtpgifpeohlllfaaGreatGV14
set_option maxHeartbeats 20000000
set_option linter.unusedVariables false
set_option maxRecDepth 100000
set_option linter.unusedSimpArgs false
namespace Go.Proofs.YtpgifpeohlllfaaGreat
namespace Go.Proofs.YtpgifpeohlllfaaGreat
open Go.RowKit
theorem qM {k:aN} (h:bg k) {j j0:Nat} (hj:j<k.aj.length) (Uf:j0<k.aj.length) {p q:Int} {a b:Nat} (h1:bD (ak k.aj j).aW p=some ⟨p,1,a⟩) (h2:bD (ak k.aj j0).aW q=some ⟨q,1,b⟩) (hpq:q≠p):a≠b:=fun e=>by
 subst e;have m1:=jZ hj (ma h1);have m2:=jZ Uf (ma h2);have hb:=iQ h hj (ma h1);have hlt:a<k.frames.length:=by
  grind
 have:=(h.zS a hlt).one _ m1 _ m2
 grind
theorem yX {k:aN} (h:bg k) {j0:Nat} (Uf:j0<k.aj.length) {q:Int} {b:Nat} (h2:bD (ak k.aj j0).aW q=some ⟨q,1,b⟩):b<k.frames.length/\(au k.frames b).refs≠0:=by
 have m2:=jZ Uf (ma h2);have hb:=iQ h Uf (ma h2);have hlt:b<k.frames.length:=by
  grind
 refine⟨hlt,fun z=>?_⟩;have:=(h.zS b hlt).nil z
 grind
theorem Nj {k:aN} (h:bg k) {j:Nat} (hj:j<k.aj.length) {p:Int} (hp:cV k j p) {held:List Int} (hl:held.length<=2) {j0:Nat} (Uf:j0<k.aj.length) {q:Int} {b:Nat} (h2:bD (ak k.aj j0).aW q=some ⟨q,1,b⟩) (hin:(b:Int)∈held) (hpq:q≠p):au (di k j p held).2.frames b=au k.frames b:=by
 have hsp:=h.sp hj;have G:=mK h hl;have hH:=G.L5 b hin (yX h Uf h2).2;unfold di;cases g:bD (ak k.aj j).aW p with
 | none =>
  dsimp only;have hent:bD (ak (bH k held).2.aj j).aW p=none:=by grind [pY.FC]
  have hj':j<(bH k held).2.aj.length:=by rw[G.kept.np];exact hj
  have m:j4 (bH k held).2 j p (bH k held).1 (eH (bH k held).2.aA p (kq (bH k held).2 j p)) false:=⟨G.right,hj',G.mapped hj hp,by rw[G.kept.nf];exact G.lt,G.free,C5 G.right hj' (G.mapped hj hp),fun _=>rfl⟩
  grind [oH]
 | some e =>
  have he:=(iy hsp.lQ).1 g;dsimp only;by_cases c:e.kind=1
  · grind
  · rw[bl c];have hb:=(iQ h hj he.1).resolve_left (fun y=>c y.1);have hent:bD (ak (bH k held).2.aj j).aW p=some e:=by grind [pY.FC]
    have hj':j<(bH k held).2.aj.length:=by rw[G.kept.np];exact hj
    have he':=(iy (G.right.sp hj').lQ).1 hent;have hsz:(bw (bH k held).2.slots e.loc.toNat).data.size=16:=(G.right.slt e.loc.toNat (by grind [pY.kept,fQ.ns])).size (fun z=>by
     grind [jZ])
    have m:j4 (bH k held).2 j p (bH k held).1 (bw (bH k held).2.slots e.loc.toNat).data true:=⟨G.right,hj',G.mapped hj hp,by rw[G.kept.nf];exact G.lt,G.free,hsz,fun y=>by cases y⟩
    grind [oH]
theorem R8 {k:aN} (h:bg k) {j:Nat} (hj:j<k.aj.length) {p:Int} (hp:cV k j p) {a:Nat} (ha:bD (ak k.aj j).aW p=some ⟨p,1,a⟩) {held:List Int} (hl:held.length<=1) {j0:Nat} (Uf:j0<k.aj.length) {q:Int} {b:Nat} (h2:bD (ak k.aj j0).aW q=some ⟨q,1,b⟩) (hin:(b:Int)∈held) (hpq:q≠p):au (jz k j p a held).2.frames b=au k.frames b:=by
 have hab:=qM h hj Uf ha h2 hpq;have hat:=(yX h hj ha).1;unfold jz;by_cases c:(au k.frames a).refs=1
 · grind
 · rw[bl c];have G:=mK h (held:=held++[(a:Int)]) (by grind);have hH:=G.L5 b (lT.2 (.inl hin)) (yX h Uf h2).2;obtain⟨g,hg⟩:=ex (bH k (held++[(a:Int)]));rw[<- hg] at G hH ⊢;have hent:bD (ak g.2.aj j).aW p=some ⟨p,1,a⟩:=G.stay h hj ha (fun _=>lT.2 (.inr (by simp)));have hj':j<g.2.aj.length:=by rw[G.kept.np];exact hj
   have he':=(iy (G.right.sp hj').lQ).1 hent;have hsz:(au g.2.frames a).data.size=16:=(G.right.zS a (by rw[G.kept.nf];exact hat)).size (fun z=>by
    have:=jZ hj' he'.1
    grind)
   have m:j4 g.2 j p g.1 (au g.2.frames a).data true:=⟨G.right,hj',G.mapped hj hp,by rw[G.kept.nf];exact G.lt,G.free,hsz,fun y=>by cases y⟩
   grind [oH]
theorem RY {k:aN} (h:bg k) {j:Nat} (hj:j<k.aj.length) {p:Int} (hp:cV k j p) (way:Int) {held:List Int} (hl:held.length<=1) {j0:Nat} (Uf:j0<k.aj.length) {q:Int} {b:Nat} (h2:bD (ak k.aj j0).aW q=some ⟨q,1,b⟩) (hin:(b:Int)∈held) (hpq:q≠p):au (dD k j p way held).2.frames b=au k.frames b:=by
 have P:=uR h hj hp (held:=held) (by omega);have PH:=Nj h hj hp (held:=held) (by omega) Uf h2 hin hpq;have hT:fZ k j p held (gX k j p way held)/\au (gX k j p way held).2.frames b=au k.frames b:=by
  unfold gX;by_cases c:way=1
  · rw[bf c];have A:=JS P.right (by rw[P.kept.np];exact hj) (P.kept.mapped hj hp) P.here hl;refine⟨P.trans A.1,?_⟩;rw[R8 P.right (by rw[P.kept.np];exact hj) (P.kept.mapped hj hp) P.here hl (by rw[P.kept.np];exact Uf) (P.stay j0 Uf q _ h2 rfl hin (fun x=>hpq x.2)) hin hpq];exact PH
  grind
 have T:=hT.1;have hne:=qM T.right (by rw[T.kept.np];exact hj) (by rw[T.kept.np];exact Uf) T.here (T.stay j0 Uf q _ h2 rfl hin (fun x=>hpq x.2)) hpq;show au ((gX k j p way held).2.frames.set _ _) b=_
 grind [jc,fZ.kept,fQ.nf,fZ.lt]
structure rQ (k:aN) (j:Nat) (p:Int) (i:Nat):Prop where
 here:bD (ak k.aj j).aW p=some ⟨p,1,i⟩
 lt:i<k.frames.length
 refs:(au k.frames i).refs=1
 fN:(au k.frames i).fN=true
theorem EK {k:aN} (h:bg k) {j:Nat} (hj:j<k.aj.length) (a n:Int) (h1:cV k j (a/16)) (h2:cV k j (bK a n)):rQ (bh k j a n 1).2 j (a/16) (ft k j a 1).1/\(bK a n≠a/16->rQ (bh k j a n 1).2 j (bK a n) (iN k j a n 1).1):=by
 obtain⟨A,A2⟩:=nV h hj h1 1 (held:=[]) (by simp);have A2:=A2 rfl;by_cases c:bK a n=a/16
 · have e:bh k j a n 1=([(ft k j a 1).1],(ft k j a 1).2):=by grind [bh]
   refine⟨?_,fun x=>absurd c x⟩;rw[e];exact⟨A.here,by have:=A.kept.nf;have:=A.lt;show(dD k j (a/16) 1 []).1<(dD k j (a/16) 1 []).2.frames.length;omega,A2.1,A2.2⟩
 · have hj':j<(ft k j a 1).2.aj.length:=by grind [ft,fZ.kept,fQ.np]
   have hm':=A.kept.mapped hj h2;obtain⟨B,B2⟩:=nV (k:=(ft k j a 1).2) A.right hj' hm' 1 (held:=[((ft k j a 1).1:Int)]) (by simp);have hh:=RY (k:=(ft k j a 1).2) A.right hj' hm' 1 (held:=[((ft k j a 1).1:Int)]) (by simp) hj' A.here (by simp[ft]) (fun x=>c x.symm);have e:bh k j a n 1=([(ft k j a 1).1,(iN k j a n 1).1],(iN k j a n 1).2):=by grind [bh]
   have hB:iN k j a n 1=dD (ft k j a 1).2 j (bK a n) 1 [((ft k j a 1).1:Int)]:=rfl;have hlen:(iN k j a n 1).2.frames.length=k.frames.length:=by rw[hB,B.kept.nf];exact A.kept.nf
   rw[e];refine⟨⟨?_,?_,?_,?_⟩,fun _=>⟨?_,?_,?_,?_⟩⟩
   · grind [ft,fZ.stay,fZ.here]
   · show(ft k j a 1).1<(iN k j a n 1).2.frames.length;rw[hlen];exact A.lt
   · grind [ft]
   · grind [ft]
   · exact B.here
   · show(iN k j a n 1).1<(iN k j a n 1).2.frames.length;rw[hlen];have:=B.lt
     grind [fZ.kept,fQ.nf]
   · grind
   grind
def nu (k:aN) (i:Nat) (d:ByteArray):aN:={ k with frames:=k.frames.set i ⟨d,(au k.frames i).refs,(au k.frames i).fN,(au k.frames i).seen⟩ }
theorem A3 {k:aN} (h:bg k) {j:Nat} (hj:j<k.aj.length) {p:Int} {i:Nat} (a:rQ k j p i) {d:ByteArray} (hd:d.size=16):bg (nu k i d):=by
 have hf:=h.zS i a.lt;refine h.frame ⟨hf.refs,fun e=>?_,hf.one,fun _=>hd,fun x=>?_⟩
 · have:=hf.refs
   grind [rQ.refs]
 grind [rQ.fN]
theorem C3 {k:aN} (h:bg k) {j:Nat} (hj:j<k.aj.length) {p:Int} {i:Nat} (a:rQ k j p i) (d:ByteArray) {m:Nat} (hm:m<k.aj.length) (q:Int):cQ (nu k i d) m q=if m=j/\q=p then d else cQ k m q:=by
 have at_:∀n,au (nu k i d).frames n=if i=n then ⟨d,(au k.frames i).refs,(au k.frames i).fN,(au k.frames i).seen⟩ else au k.frames n:=fun n=>jc _ _ _ _ a.lt
 by_cases c:m=j/\q=p
 · grind [cQ,au,nu,rQ.here]
 · rw[bl c];refine aaU rfl (fun x hx=>⟨fun hk=>?_,fun _=>rfl⟩) (fun _=>rfl);have hx:bD (ak k.aj m).aW q=some x:=hx;rw[at_];by_cases e:i=x.loc.toNat
   · exfalso;have m1:x∈(ak k.aj m).aW:=ma hx;have hb:=(iQ h hm m1).resolve_right (fun y=>by omega);have hxl:x.loc=(i:Int):=by omega
     have e2:x=⟨q,1,i⟩:=by
      have:=YI hx;obtain⟨a1,a2,a3⟩:=x
      grind
     rw[e2] at hx;have hpq:q=p:=by
      by_cases z:q=p
      · exact z
      · exact absurd rfl (qM h hj hm a.here hx z)
     have hr:=(h.zS i a.lt).refs;rw[a.refs] at hr;have two:2<=(cO k.aj 1 i).length:=by
      have key:∀(l:List dm) (a b:Nat),a<b->b<l.length->(ie (ak l a) 1 i)≠[]->(ie (ak l b) 1 i)≠[]->2<=(cO l 1 i).length:=fun l=>by
       induction l with
       | nil=>grind
       | cons s r ih =>
        intro a b hab hb h1 h2;rw[lN,gh];cases a with
        | zero =>
         have h1':1<=(ie s 1 i).length:=NW.2 h1;obtain⟨b',rfl⟩:∃b',b=b'+1:=⟨b-1,by omega⟩;have h2':ie (ak r b') 1 i≠[]:=h2;have:1<=(cO r 1 i).length:=by
          obtain⟨y,hy⟩:=Iw _ h2';refine NW.2 fun z=>?_
          have:y∈cO r 1 i:=vZ.2 ⟨_,EF (by grind),hy⟩
          grind
         omega
        | succ a =>
         obtain⟨b',rfl⟩:∃b',b=b'+1:=⟨b-1,by omega⟩;have:=ih a b' (by omega) (by grind) h1 h2;omega
      have n1:ie (ak k.aj j) 1 i≠[]:=fun z=>by
       have:(_:Int×Bool)∈ie (ak k.aj j) 1 i:=wI.2 ⟨_,ma a.here,rfl,rfl,rfl⟩
       grind
      have n2:ie (ak k.aj m) 1 i≠[]:=fun z=>by
       have:(_:Int×Bool)∈ie (ak k.aj m) 1 i:=wI.2 ⟨_,ma hx,rfl,rfl,rfl⟩
       grind
      grind
     omega
   grind
def oI (f:Int->ByteArray) (a n:Int):ByteArray:=if bK a n=a/16 then f (a/16) else f (a/16)++f (bK a n)
def yU (f:Int->ByteArray) (a n:Int):ByteArray:=(oI f a n).extract (a%16).toNat ((a%16).toNat+n.toNat)
def tj (f:Int->ByteArray) (a:Int) (d:ByteArray):ByteArray:=fU (oI f a d.size) (a%16).toNat d
def qT (f:Int->ByteArray) (a:Int) (d:ByteArray) (p:Int):ByteArray:=if p=a/16 then (tj f a d).extract 0 16 else if p=bK a d.size then (tj f a d).extract 16 32 else f p
def iT (fs:List kj) (ids:List Nat):Nat->ByteArray
 | 0=>⟨#[]⟩
 | n+1=>iT fs ids n++(au fs (ids.getD n 0)).data
def ll (k:aN) (ids:List Nat) (s:ByteArray):Nat->aN
 | 0=>k
 | n+1=>nu (ll k ids s n) (ids.getD n 0) (s.extract (n*16) (n*16+16))
def o9 (k:aN) (j:Nat) (a n way:Int):ByteArray:=(iT (bh k j a n way).2.frames (bh k j a n way).1 (bh k j a n way).1.length).extract (a%16).toNat ((a%16).toNat+n.toNat)
def kR (k:aN) (j:Nat) (a:Int) (d:ByteArray):aN:=ll (bh k j a d.size 1).2 (bh k j a d.size 1).1 (fU (iT (bh k j a d.size 1).2.frames (bh k j a d.size 1).1 (bh k j a d.size 1).1.length) (a%16).toNat d) (bh k j a d.size 1).1.length
theorem ye {k:aN} {j:Nat} {p:Int} {i:Nat} (h:bD (ak k.aj j).aW p=some ⟨p,1,i⟩):cQ k j p=(au k.frames i).data:=by
 grind [cQ]
theorem s9 {k:aN} (h:bg k) {j:Nat} (hj:j<k.aj.length) (a n way:Int) (h1:cV k j (a/16)) (h2:cV k j (bK a n)):iT (bh k j a n way).2.frames (bh k j a n way).1 (bh k j a n way).1.length=oI (cQ k j) a n:=by
 have R:=l8 h hj a n way h1 h2;have p1:=R.kept.QP j hj (a/16);have p2:=R.kept.QP j hj (bK a n);rw[ye R.one.1] at p1;unfold oI;rw[<- p1,<- p2];by_cases c:bK a n=a/16
 · rw[bf c];have e:(bh k j a n way).1=[(ft k j a way).1]:=by grind [bh]
   rw[e];rfl
 · rw[bl c,ye (R.two c).1];have e:(bh k j a n way).1=[(ft k j a way).1,(iN k j a n way).1]:=by grind [bh]
   rw[e];rfl
theorem aaW {k:aN} (h:bg k) {j:Nat} (hj:j<k.aj.length) (a n way:Int) (h1:cV k j (a/16)) (h2:cV k j (bK a n)):o9 k j a n way=yU (cQ k j) a n:=by
 grind [o9,yU,s9]
theorem kX {k:aN} (h:bg k) {j:Nat} (hj:j<k.aj.length) {p:Int} (hp:cV k j p):(cQ k j p).size=16:=by
 unfold cQ;cases g:bD (ak k.aj j).aW p with
 | none=>exact C5 h hj hp
 | some e =>
  have hb:=iQ h hj (ma g);have hn:=jZ hj (ma g);dsimp only;rcases hb with b | b
  · rw[bf b.1];exact(h.zS _ b.2.2).size (fun z=>by grind)
  grind [bg.slt,mY.size]
theorem CY (s:ByteArray) (q:Nat) (t:ByteArray) (h:q+t.size<=s.size):(fU s q t).size=s.size:=by
 have h1:(fU s q t).size=(fU s q t).data.toList.length:=by simp
 have h2:s.size=s.data.toList.length:=by simp
 have h3:t.size=t.data.toList.length:=by simp
 grind [fU]
theorem Al (s:ByteArray) (a b:Nat) (h:b<=s.size) (hab:a<=b):(s.extract a b).size=b-a:=by
 simp_all
theorem P6 (s t:ByteArray) (x:Nat):(s++t).data.toList[x]?=if x<s.size then s.data.toList[x]? else t.data.toList[x-s.size]?:=by
 simp only[ByteArray.data_append,T4];have h2:s.data.toList.length=s.size:=by simp
 grind
theorem yw {a n:Int} (h1:1<=n) (h8:n<=8):(bK a n=a/16/\a%16+n<=16)∨(bK a n=a/16+1/\16<a%16+n):=by
 grind [bK]
structure pX (f:Int->ByteArray) (a n:Int):Prop where
 one:(f (a/16)).size=16
 two:(f (bK a n)).size=16
theorem yc {f:Int->ByteArray} {a n:Int} (h:pX f a n) (h1:1<=n) (h8:n<=8):((oI f a n).size:Int)=if bK a n=a/16 then 16 else 32:=by
 grind [oI,pX.one,pX.two]
theorem xj {f:Int->ByteArray} {a n:Int} (h:pX f a n) (h1:1<=n) (h8:n<=8):(a%16).toNat+n.toNat<=(oI f a n).size:=by
 grind [yc,yw]
theorem EP {f:Int->ByteArray} {a n:Int} (h:pX f a n) (x:Nat):(oI f a n).data.toList[x]?=if x<16 then (f (a/16)).data.toList[x]? else if bK a n=a/16 then none else (f (bK a n)).data.toList[x-16]?:=by
 unfold oI;by_cases c:bK a n=a/16
 · rw[bf c];by_cases d:x<16
   · grind
   · rw[bl d,bf c];have:(f (a/16)).data.toList.length=16:=by rw[<- h.one];simp
     grind
 grind [P6,pX.one]
theorem VB {f:Int->ByteArray} {a n:Int} (h:pX f a n) (h1:1<=n) (h8:n<=8):(yU f a n).size=n.toNat:=by
 simp_all [yU,xj]
theorem JM {f:Int->ByteArray} {a:Int} {d:ByteArray} (h:pX f a d.size) (h1:1<=(d.size:Int)) (h8:(d.size:Int)<=8):((tj f a d).size:Int)=if bK a d.size=a/16 then 16 else 32:=by
 unfold tj;rw[CY _ _ _ (by have:=xj h h1 h8;omega)]
 grind [yc]
theorem RD {f:Int->ByteArray} {a:Int} {d:ByteArray} (h:pX f a d.size) (h1:1<=(d.size:Int)) (h8:(d.size:Int)<=8) (p:Int) (hp:(f p).size=16):(qT f a d p).size=16:=by
 grind [JM,qT,Al]
theorem Vp {f:Int->ByteArray} {a:Int} {d:ByteArray} (h:pX f a d.size) (h1:1<=(d.size:Int)) (h8:(d.size:Int)<=8) (p:Int) (i:Nat) (hi:i<16):(qT f a d p).data.toList[i]?=if a<=p*16+i/\p*16+i<a+d.size then d.data.toList[(p*16+i-a).toNat]? else (f p).data.toList[i]?:=by
 have hfit:=xj h h1 h8;have wS:=yw (a:=a) h1 h8;have ho:∀x,(tj f a d).data.toList[x]?=if (a%16).toNat<=x/\x<(a%16).toNat+d.size then d.data.toList[x-(a%16).toNat]? else (oI f a d.size).data.toList[x]?:=fun x=>MB _ _ _ _ (by omega)
 unfold qT;by_cases c:p=a/16
 · rw[bf c,y7,bf (by omega),ho,iI,EP h]
   grind
 grind [y7,EP]
theorem YE {f:Int->ByteArray} {a n:Int} (h:pX f a n) (h1:1<=n) (h8:n<=8) (i:Nat) (hi:(i:Int)<n):(yU f a n).data.toList[i]?=(f ((a+i)/16)).data.toList[((a+i)%16).toNat]?:=by
 grind [yw,yU,y7,EP]
structure FU (k:aN) (j:Nat) (a:Int) (d:ByteArray) (r:aN):Prop where
 right:bg r
 aA:r.aA=k.aA
 nf:r.frames.length=k.frames.length
 ns:r.slots.length=k.slots.length
 np:r.aj.length=k.aj.length
 live:∀m,m<k.aj.length->(ak r.aj m).live=(ak k.aj m).live
 aZ:∀m,m<k.aj.length->(ak r.aj m).aZ=(ak k.aj m).aZ
 QP:∀m,m<k.aj.length->∀p,cQ r m p=if m=j then qT (cQ k j) a d p else cQ k m p
theorem JI {k:aN} (h:bg k) {j:Nat} (hj:j<k.aj.length) (a:Int) (d:ByteArray) (hd1:1<=(d.size:Int)) (hd8:(d.size:Int)<=8) (h1:cV k j (a/16)) (h2:cV k j (bK a d.size)):FU k j a d (kR k j a d):=by
 have R:=l8 h hj a d.size 1 h1 h2;have A:=EK h hj a d.size h1 h2;have hP:pX (cQ k j) a d.size:=⟨kX h hj h1,kX h hj h2⟩;have hL:=JM hP hd1 hd8;have wS:=yw (a:=a) hd1 hd8;unfold kR;rw[s9 h hj a d.size 1 h1 h2];obtain⟨s,hs⟩:=ex (tj (cQ k j) a d);have hs':fU (oI (cQ k j) a d.size) (a%16).toNat d=s:=hs.symm;rw[hs'];rw[<- hs] at hL;obtain⟨K,hK⟩:=ex ((bh k j a d.size 1).2);have hr:=R.right;have uy:=R.kept;rw[<- hK] at hr uy A ⊢;have hjK:j<K.aj.length:=by grind [fQ.np]
 by_cases c:bK a d.size=a/16
 · have e:(bh k j a d.size 1).1=[(ft k j a 1).1]:=by grind [bh]
   rw[e];show FU k j a d (nu K (ft k j a 1).1 (s.extract (0*16) (0*16+16)));rw[bf c] at hL;have hz:(s.extract (0*16) (0*16+16)).size=16:=Al _ _ _ (by omega) (by omega);refine⟨A3 hr hjK A.1 hz,uy.aA,by show(List.set _ _ _).length=_;grind [fQ.nf],uy.ns,uy.np,uy.live,uy.aZ,fun m hm p=>?_⟩
   grind [C3,qT,fQ.np,fQ.QP]
 · have e:(bh k j a d.size 1).1=[(ft k j a 1).1,(iN k j a d.size 1).1]:=by grind [bh]
   rw[e];show FU k j a d (nu (nu K (ft k j a 1).1 (s.extract (0*16) (0*16+16))) (iN k j a d.size 1).1 (s.extract (1*16) (1*16+16)));rw[bl c] at hL;have hz:(s.extract (0*16) (0*16+16)).size=16:=Al _ _ _ (by omega) (by omega);have hy:(s.extract (1*16) (1*16+16)).size=16:=Al _ _ _ (by omega) (by omega);have A2:=A.2 c;have hne:=qM hr hjK hjK A.1.here A2.here c;have r1:=A3 hr hjK A.1 hz;have B:rQ (nu K (ft k j a 1).1 (s.extract (0*16) (0*16+16))) j (bK a d.size) (iN k j a d.size 1).1:=by
    have at_:au (nu K (ft k j a 1).1 (s.extract (0*16) (0*16+16))).frames (iN k j a d.size 1).1=au K.frames (iN k j a d.size 1).1:=by
     show au (List.set _ _ _) _=_
     grind [jc,rQ.lt]
    exact⟨A2.here,by show _<(List.set _ _ _).length;rw[jk];exact A2.lt,by grind [rQ.refs],by grind [rQ.fN]⟩
   refine⟨A3 r1 hjK B hy,uy.aA,by show(List.set (List.set _ _ _) _ _).length=_;grind [fQ.nf],uy.ns,uy.np,uy.live,uy.aZ,fun m hm p=>?_⟩;have hmK:m<K.aj.length:=by grind [fQ.np]
   rw[C3 r1 hjK B _ (m:=m) hmK,C3 hr hjK A.1 _ hmK]
   grind [qT,fQ.QP]
def aeI (l:List Un) (s:ByteArray):Option Nat:=l.findIdx? (fun y=>decide (y.name=s))
def agY (o:kF) (s:ByteArray):Option Int:=match aeI o.i.syms s with
 | none=>none
 | some k=>some (wU o (Um o.i.syms k).pos)
def XJ (l:List kF) (s:ByteArray):Nat->Option Int
 | 0=>none
 | k+1=>match XJ l s k with
  | some t=>some t
  | none=>agY (eN l k) s
def Uv (l:List kF) (o:kF) (s:ByteArray):Option Int:=if s=⟨#[]⟩ then some (wU o 0) else XJ l s l.length
theorem Jb {i:vg} (hc:mG i=0):FE i=true:=by
 grind [mG]
theorem I7:∀{l:List pA} {a:Int} {s:pA},rX l a=some s->(∃k,k<l.length/\fu l k=s)/\rp s a=true
 | [],a,s,h=>by cases h
 | x::r,a,s,h=>by
  simp only[rX] at h;split at h
  · rename_i hi
    injection h with h;subst h;exact⟨⟨0,by simp,rfl⟩,hi⟩
  · obtain⟨⟨k,hk,e⟩,hi⟩:=I7 h;exact⟨⟨k+1,by grind,by grind [fu]⟩,hi⟩
theorem vw {i:vg} (hc:mG i=0) {a:Int} (h:je i.jU a=true):0<=a/\a<4080:=by
 unfold je at h;obtain⟨s,hs⟩:=Option.isSome_iff_exists.1 h;obtain⟨⟨k,hk,e⟩,hi⟩:=I7 hs;have hb:=wk hc k hk
 grind [rp]
theorem Ja (i:vg):∀n,IU i n=true->∀k,k<n->Ob i k=true
 | 0,_,k,hk=>by omega
 | n+1,h,k,hk=>by
  simp only[IU,dR] at h;by_cases e:k=n
  · grind
  · exact Ja i n h.1 k (by omega)
theorem ac4 {i:vg} (hc:mG i=0) (k:Nat) (hk:k<i.pI.length):Ob i k=true:=by
 have h:=Jb hc
 grind [FE,Ja]
theorem Q3 {i:vg} (hc:mG i=0) (k:Nat) (hk:k<i.pI.length):0<=(tS i.pI k).pos/\(tS i.pI k).pos+7<4080:=by
 have h:=ac4 hc k hk;unfold Ob Xw at h;simp only[dR] at h;have h0:=vw hc h.2.1;have h7:=vw hc h.2.2.2.2.2.2.2.2;omega
theorem Nb {i:vg} (hc:mG i=0):0<=i.entry/\i.entry<4080:=by
 have h:=Jb hc;unfold FE at h;simp only[dR] at h;have he:=h.2.2;unfold Br at he;refine vw hc ?_
 grind [je]
def agZ (o:kF) (r:QV) (t:Int):o6:=⟨wU o r.pos,⟨(Lib.leBytes 8 (xG (t+r.add))).toArray⟩⟩
def sZ (l:List kF) (o:kF):Nat->Option (List o6)
 | 0=>some []
 | k+1=>match sZ l o k with
  | none=>none
  | some ps=>match Uv l o (tS o.i.pI k).name with
   | none=>none
   | some t=>some (ps++[agZ o (tS o.i.pI k) t])
def uC (l:List kF) (o:kF):Option (List o6):=sZ l o o.i.pI.length
theorem Jc {l:List kF} {o:kF}:∀{k:Nat} {ps:List o6},sZ l o k=some ps->ps.length=k
 | 0,ps,h=>by grind [sZ]
 | k+1,ps,h=>by
  simp only[sZ] at h;cases e:sZ l o k with
  | none=>grind
  | some qs =>
   rw[e] at h;simp only at h;cases g:Uv l o (tS o.i.pI k).name with
   | none=>grind
   | some t =>
    rw[g] at h;simp only at h;injection h with h;subst h;rw[gh,Jc e];rfl
structure Ee where
 page:Int
 data:ByteArray
 dn:List mF
def eQ (s:bM):Ee:=⟨s.page,s.data,s.dn⟩
def aae (o:kF) (ps:List o6) (s:pA) (m:Nat):Ee:=⟨o.base+s.page+(m:Int),uG s m,kQ (o.base+s.page+(m:Int)) ps⟩
def yF (o:kF) (ps:List o6) (s:pA) (n:Nat):List Ee:=(List.range n).map (aae o ps s)
def wT (o:kF) (ps:List o6):Nat->List Ee
 | 0=>[]
 | k+1=>wT o ps k++yF o ps (fu o.i.jU k) (fu o.i.jU k).aR.toNat
def s6 (l:List kF):Nat->Option (List Ee)
 | 0=>some []
 | k+1=>match s6 l k with
  | none=>none
  | some E=>match uC l (eN l k) with
   | none=>none
   | some ps=>some (E++wT (eN l k) ps (eN l k).i.jU.length)
def rD (l:List kF):Option (List Ee):=s6 l l.length
theorem Q5 (o:kF) (ps:List o6) (s:pA) (n:Nat):yF o ps s (n+1)=yF o ps s n++[aae o ps s n]:=by
 grind [yF,List.range_succ]
theorem Gq {l:List kF} {k:Nat} (h:s6 l k=none):∀n,k<=n->s6 l n=none
 | 0,hn=>by grind
 | n+1,hn=>by
  by_cases e:k=n+1
  · grind
  · simp only[s6];rw[Gq h n (by omega)]
theorem O0 {l:List kF} {o:kF} (hc:mG o.i=0) (h0:1<=o.base) (h1:o.base<=2000):∀(k:Nat) (ps:List o6),k<=o.i.pI.length->sZ l o k=some ps->∀j,j<ps.length->UE (wu ps j)
 | 0,ps,_,h,j,hj=>by grind [sZ]
 | k+1,ps,hk,h,j,hj=>by
  simp only[sZ] at h;cases e:sZ l o k with
  | none=>grind
  | some qs =>
   rw[e] at h;simp only at h;cases g:Uv l o (tS o.i.pI k).name with
   | none=>grind
   | some t =>
    rw[g] at h;simp only at h;injection h with h;subst h;rw[gh] at hj;by_cases hjq:j<qs.length
    · have:=O0 hc h0 h1 k qs (by omega) e j hjq
      grind [wu]
    · have Xh:j=qs.length:=by grind
      subst Xh;unfold wu;rw[zQ,Ix (aM _),Nat.sub_self];have hb:=Q3 hc k (by omega);refine⟨?_,?_,?_⟩
      · show 0<=o.base*16+(tS o.i.pI k).pos;omega
      · show o.base*16+(tS o.i.pI k).pos<=1000000;omega
      rfl
def qH (rb:Option Nat) (w:World) (ao:Option Addr) (l:List mF):Prop:=0<l.length->∃b off,ao=some (Ad b off)/\b<w.heap.size/\some b≠rb/\CG w b off l
theorem qH.has {rb:Option Nat} {w:World} {ao:Option Addr} {l:List mF} (h:qH rb w ao l):mr w ao l:=fun hl=>by
 obtain⟨b,off,h1,h2,_,h3⟩:=h hl
 grind
theorem qH.below {rb:Option Nat} {w w':World} {ao:Option Addr} {l:List mF} (h:qH rb w ao l) (hb:Below w.heap.size w w'):qH rb w' ao l:=fun hl=>by
 obtain⟨b,off,h1,h2,h3,h4⟩:=h hl
 grind [Nat.lt_of_lt_of_le,ab6,Below.size]
theorem Q6 {w w':World} {b off:Nat} {l:List mF} (h:CG w b off l) (hb:w'.heap[b]?=w.heap[b]?):CG w' b off l:=fun i hi=>by
 obtain⟨c0,c1⟩:=h i hi
 grind [World.cell?_of_block]
theorem qH.grown {rb:Option Nat} {w w':World} {ao:Option Addr} {l:List mF} {g:Nat} (h:qH rb w ao l) (hg:w.grownBy w' rb) (hs:w.heap.size<=w'.heap.size) (hat:rb=some g∨g=w.heap.size):qH (some g) w' ao l:=fun hl=>by
 obtain⟨b,off,h1,h2,h3,h4⟩:=h hl
 grind [Q6,World.grownBy.block]
def ab8 (rb:Option Nat) (w:World) (hs:List bM):Prop:=∀k,k<hs.length->qH rb w (bj hs k).ao (bj hs k).dn
def Ec (s:bM):List Value:=[I s.page,.string s.data,.slice s.ao s.dn.length s.cap]
theorem Ux (l:List bM) (x:bM) (k:Nat) (h:k<l.length):bj (l++[x]) k=bj l k:=by
 grind [bj]
theorem Uy (l:List bM) (x:bM):bj (l++[x]) l.length=x:=by
 grind [bj]
def dw (xs ys:List bM):Prop:=ys.map eQ=xs.map eQ
def bu (k:aN) (hs:List bM):aN:=⟨hs,k.frames,k.slots,k.aj,k.hand⟩
theorem dw.len {xs ys:List bM} (h:dw xs ys):ys.length=xs.length:=by
 have:=fp List.length h
 grind
theorem rM {a b:bM} (h:eQ a=eQ b):a.page=b.page/\a.data=b.data/\a.dn=b.dn:=by
 injection h with h1 h2 h3
 grind
theorem dw.at {xs ys:List bM} (h:dw xs ys) (i:Nat):eQ (bj ys i)=eQ (bj xs i):=by
 unfold dw at h;unfold bj;have h1:(ys.map eQ)[i]?=(xs.map eQ)[i]?:=by rw[h]
 grind
theorem RJ {a b:bM} (h:eQ a=eQ b):ou a=ou b:=by
 obtain⟨h1,h2,h3⟩:=rM h
 grind [ou]
theorem RI {a b:bM} (h:eQ a=eQ b):cR a=cR b:=by
 grind [rM,cR,lh]
theorem EG (p:Int):∀(xs ys:List bM),dw xs ys->(dJ ys p).map eQ=(dJ xs p).map eQ
 | [],[],_=>rfl
 | [],b::r,h=>by have:=fp List.length h;grind
 | a::r,[],h=>by have:=fp List.length h;grind
 | a::r,b::t,h=>by
  have h:eQ b::t.map eQ=eQ a::r.map eQ:=h;injection h with h1 h2;have ih:=EG p r t h2
  grind [rM,dJ]
theorem EH {xs ys:List bM} (h:dw xs ys) (p:Int):fM ys p=fM xs p:=by
 grind [EG,fM,RJ]
theorem Vt {xs ys:List bM} (h:dw xs ys) (p:Int):(dJ ys p).isSome=(dJ xs p).isSome:=by
 have:=fp Option.isSome (EG p xs ys h)
 grind
theorem AV {xs ys:List bM} (h:dw xs ys) (p:Int) (z:Bool):eH ys p z=eH xs p z:=by
 grind [eH,EH]
theorem Vu {xs ys:List bM} (h:dw xs ys):fJ ys=fJ xs:=by
 have:∀n,jg ys n=jg xs n:=fun n=>by
  induction n with
  | zero=>rfl
  | succ n ih =>
   grind [jg,RI,mH,rM,dw.at]
 grind [fJ,dw.len]
theorem bg.Dn {k:aN} (h:bg k) {hs:List bM} (s:dw k.aA hs):bg (bu k hs):=by
 refine⟨?_,(Vu s).trans h.lQ,h.hand,fun x hx=>?_,h.room,fun i hi=>?_,h.slt⟩
 · have:=h.c;have e:=s.len;refine dh ?_;show(3<=k.frames.length/\k.frames.length<=64)/\k.slots.length<=512/\(1<=k.aj.length/\k.aj.length<=4)/\hs.length<=255;omega
 · have g:=h.each x hx;exact⟨g.dead,g.aZ,g.lQ,g.FC,fun p h1 h2=>(Vt s p).trans (g.aA p h1 h2)⟩
 · have g:=h.zS i hi;exact⟨g.refs,g.zero,g.one,g.size,fun d x hx=>(g.fill d x hx).trans (AV s _ _).symm⟩
theorem RO {k:aN} {hs:List bM} (s:dw k.aA hs) (j:Nat) (p:Int):cQ (bu k hs) j p=cQ k j p:=by
 unfold cQ;show(match bD (ak k.aj j).aW p with
  | some e=>_
  | none=>eH hs p _)=_
 rw[AV s];rfl
theorem PZ (k:aN) (hs:List bM) (i:Nat):dZ (bu k hs) i=bu (dZ k i) hs:=by
 grind [dZ,EE,bu,xm]
theorem EY (held:List Int) (hs:List bM):∀(n:Nat) (k:aN),nA held n (bu k hs)=bu (nA held n k) hs
 | 0,k=>rfl
 | n+1,k=>by
  unfold nA;show(if kG held k=true then nA held n (bu (iO held k) hs) else bu k hs)=_;by_cases c:kG held k=true
  · rw[bf c,bf c];exact EY held hs n _
  grind
theorem JN (k:aN) (hs:List bM) (held:List Int):bH (bu k hs) held=((bH k held).1,bu (bH k held).2 hs):=by
 unfold bH;show(match qK k.frames with
  | some i=>(i,bu k hs)
  | none=>_)=_
 cases qK k.frames with
 | some i=>rfl
 | none =>
  show(_,_)=(_,_);rw[EY,show(bu (nA held 70 k) hs).hand=(nA held 70 k).hand from rfl,PZ];rfl
theorem EO (k:aN) (hs:List bM) (e:bC):df (bu k hs) e=bu (df k e) hs:=by unfold df;split <;> rfl
theorem AZ (k:aN) (hs:List bM) (j:Nat) (p:Int) (i:Nat) (d:ByteArray) (dy:Bool):fe (bu k hs) j p i d dy=bu (fe k j p i d dy) hs:=by
 unfold fe;show(match bD (ak k.aj j).aW p with
  | none=>_
  | some e=>_)=_
 cases bD (ak k.aj j).aW p with
 | none=>rfl
 | some e=>exact EO (dW (fC k i d dy) j ⟨p,1,i⟩) hs e
theorem Lz {k:aN} (h:bg k) {held:List Int} (hl:held.length<=2) {hs:List bM} (s:dw k.aA hs) (j:Nat) (p:Int):di (bu k hs) j p held=((di k j p held).1,bu (di k j p held).2 hs):=by
 have hsh:=(mK h hl).kept.aA;unfold di;show(match bD (ak k.aj j).aW p with
  | some e=>_
  | none=>_)=_
 rw[JN];cases bD (ak k.aj j).aW p with
 | none =>
  dsimp only;rw[AZ];show(_,bu (fe _ _ _ _ (eH hs p _) _) hs)=_;rw[AV s,hsh];rfl
 | some e =>
  dsimp only;by_cases c:e.kind=1
  · grind
  · rw[bl c,bl c,AZ];rfl
theorem P7 (k:aN) (hs:List bM) (held:List Int) (j:Nat) (p:Int) (a:Nat):jz (bu k hs) j p a held=((jz k j p a held).1,bu (jz k j p a held).2 hs):=by
 grind [jz,JN,bu,AZ]
theorem yZ {k:aN} (h:bg k) {held:List Int} (hl:held.length<=2) {hs:List bM} (s:dw k.aA hs) (j:Nat) (p way:Int):dD (bu k hs) j p way held=((dD k j p way held).1,bu (dD k j p way held).2 hs):=by
 have e:gX (bu k hs) j p way held=((gX k j p way held).1,bu (gX k j p way held).2 hs):=by
  grind [gX,Lz,P7]
 unfold dD;rw[e];rfl
theorem yR {k:aN} (h:bg k) {j:Nat} (hj:j<k.aj.length) {a n way:Int} (h1:cV k j (a/16)) {hs:List bM} (s:dw k.aA hs):bh (bu k hs) j a n way=((bh k j a n way).1,bu (bh k j a n way).2 hs):=by
 grind [nV,ft,yZ,iN,bh,fZ.kept,fQ.aA,fZ.right]
theorem GF (k:aN) (hs:List bM) (ids:List Nat) (s:ByteArray):∀n,ll (bu k hs) ids s n=bu (ll k ids s n) hs
 | 0=>rfl
 | n+1=>by
  unfold ll;rw[GF k hs ids s n];rfl
theorem C7 (k:aN) (hs:List bM) (es:List bC) (p:bC->Bool):∀n,cU (bu k hs) es p n=bu (cU k es p n) hs
 | 0=>rfl
 | n+1=>by
  unfold cU;rw[C7 k hs es p n]
  grind [EO]
theorem Nn (k:aN) (hs:List bM) (j:Nat) (p:bC->Bool):fI (bu k hs) j p=bu (fI k j p) hs:=by
 grind [fI,mC,bu,C7]
theorem PY (k:aN) (hs:List bM) (e:bC) (d:Int):ku (bu k hs) e d=bu (ku k e d) hs:=by unfold ku;split <;> rfl
variable {lo mb:Nat} {tt:TypeId} {X:List Value} {w:World} {S:dN} {k:aN}
theorem Yy {w:World} {mb:Nat} {hand:Int} (hm:w.heap[mb]?=some (.cells #[Nl,Nl,Nl,Nl,I hand] 27 (0,0))):bQ mb mb 27 [] w ⟨fun b=>if b=mb then .head else .no,Nl,Nl,Nl,Nl,[]⟩ ⟨[],[],[],[],hand⟩ :=
 ⟨⟨fun b hb=>by
   grind,
  km _ _ _ _,fun i hi=>absurd hi (jQ _),km _ _ _ _,km _ _ _ _,km _ _ _ _,rfl,fun i hi=>absurd hi (jQ _),(fun b hb=>by cases hb),fun i hi=>absurd hi (jQ _),(fun b hb=>by cases hb),(fun b hb=>by cases hb),(fun b hb=>by cases hb),fun i hi=>absurd hi (jQ _),fun i hi=>absurd hi (jQ _)⟩,hm,bf rfl⟩
theorem JC (L:List bM) (l:bM) (i:Nat) (hi:i<L.length+1):bj (L++[l]) i=if i<L.length then bj L i else l:=by
 grind [bj]
def CX (S:dN) (v:Value) (n:Nat) (x:Value):Nat->iH:=fun b=>if v.ownBlock=some b then .aA else if x.ownBlock=some b then .dn n else S.lab b
theorem bQ.ak5 {w2 w4:World} {v':Value} {s:bM} {O:Obj} (h:bQ lo mb tt X w S k) (hlo:lo<=w.heap.size) (hb2:Below w.heap.size w w2)
  (ZT:w2.ownsRow w.heap.size 52 2 (yM s) s.dn.length (s.dn.flatMap ji)) (hgr:(w2.alloc O).grownBy w4 S.vS.ownBlock) (hown:w4.ownsRow lo 50 3 v' (k.aA.length+1) (k.aA.flatMap ic++ic s))
  (hat:v'.ownBlock=S.vS.ownBlock∨v'.ownBlock=some (w2.alloc O).heap.size) :
  bQ lo mb tt X (w4.setCell (Ad mb 0) v') ⟨CX S v' k.aA.length (yM s),v',S.vF,S.vL,S.vP,S.L⟩ { k with aA:=k.aA++[s] }/\aH (fun b=>S.lab b≠.no) w (w4.setCell (Ad mb 0) v'):=by
 have s1:=hb2.size;have s2:=hgr.size;have hz:(w2.alloc O).heap.size=w2.heap.size+1:=iJ _ _;rw[hz] at s2 hat
 have kA:aH (bI S.vS) w w2:=aH.b7 hb2;have kB:aH (bI S.vS) w2 (w2.alloc O):=aH.alloc _ w2 O;have kC:aH (bI S.vS) (w2.alloc O) w4:=aH.grown hgr (fun _ e=>e);have kD:=kA.trans (kB.trans kC (fun _ _ g=>g)) (fun _ _ g=>g);have mj:aH (fun b=>b=mb) w4 (w4.setCell (Ad mb 0) v'):=aH.set _ _ _ _ rfl;have eA:∀b,bI (yM s) b->w.heap.size<=b/\b<w2.heap.size:=fun b hb=>ZT.lt b hb
 have hvb:∀b,bI S.vS b->b<w.heap.size:=fun b hb=>(h.aA.lt b hb).2
 have hv4:∀b,bI v' b->bI S.vS b∨b=w2.heap.size+1:=fun b hb=>by
  grind [bI]
 have hmb:=aO h.head;have old:∀b c,S.lab b=c->c≠.no->c≠.aA->CX S v' k.aA.length (yM s) b=c:=fun b c e h1 h2=>by
  have hb:=(h.qF b (by grind)).2;unfold CX;rw[bl,bl,e]
  · intro x;have:=eA b x;omega
  · intro x;rcases hv4 b x with g | g
    · exact h2 (by rw[<- e];exact h.lS b g)
    · omega
 have zD:∀{b:Nat} {c:iH},S.lab b=c->c≠.aA->¬bI S.vS b:=fun e hc x=>hc (by rw[<- e];exact h.lS _ x)
 have zH:∀{b:Nat} {c:iH},S.lab b=c->c≠.head->¬b=mb:=fun e hc x=>hc (by rw[<- e,x];exact h.lH)
 have row:∀{e:TypeId} {n m:Nat} {v:Value} {xs:List Value},w.ownsRow lo e n v m xs->(∀b,bI v b->¬bI S.vS b/\¬b=mb)->(w4.setCell (Ad mb 0) v').ownsRow lo e n v m xs:=fun hr hq=>mj.row (kD.row hr (fun b hb=>(hq b hb).1)) (fun b hb=>(hq b hb).2)
 refine⟨⟨⟨fun b hb=>?_,?_,fun i hi=>?_,row h.frames (fun b hb=>⟨zD (h.lF b hb) (by simp),zH (h.lF b hb) (by simp)⟩),row h.slots (fun b hb=>⟨zD (h.lL b hb) (by simp),zH (h.lL b hb) (by simp)⟩),row h.aj (fun b hb=>⟨zD (h.lP b hb) (by simp),zH (h.lP b hb) (by simp)⟩),h.len,fun i hi=>?_,fun b hb=>bf hb,fun i hi b hb=>?_,fun b hb=>old b _ (h.lF b hb) (by simp) (by simp),fun b hb=>old b _ (h.lL b hb) (by simp) (by simp),fun b hb=>old b _ (h.lP b hb) (by simp) (by simp),fun i hi b hb=>old b _ (h.lA i hi b hb) (by simp) (by simp),fun i hi b hb=>old b _ (h.lE i hi b hb) (by simp) (by simp)⟩,?_,old mb _ h.lH (by simp) (by simp)⟩,?_⟩
 · have hb:CX S v' k.aA.length (yM s) b≠.no:=hb;have hs4:(w4.setCell (Ad mb 0) v').heap.size=w4.heap.size:=by simp
   rw[hs4];unfold CX at hb;by_cases c:v'.ownBlock=some b
   · exact hown.lt b c
   · rw[bl c] at hb;by_cases d:(yM s).ownBlock=some b
     · have:=eA b d;omega
     · rw[bl d] at hb;have:=h.qF b hb;omega
 · show World.ownsRow _ lo _ 3 v' (k.aA++[s]).length ((k.aA++[s]).flatMap ic);rw[gh,zN,tG];have:w4.ownsRow lo 50 3 v' (k.aA.length+1) (k.aA.flatMap ic++[s].flatMap ic):=by grind
   exact mj.row this (fun b hb e=>by
    rcases hv4 b hb with g | g
    · grind
    · omega)
 · have hi:i<(k.aA++[s]).length:=hi;rw[gh,zN] at hi;show World.ownsRow _ lo _ 2 (yM (bj (k.aA++[s]) i)) (bj (k.aA++[s]) i).dn.length ((bj (k.aA++[s]) i).dn.flatMap ji);rw[JC _ _ _ hi];by_cases c:i<k.aA.length
   · rw[bf c];exact row (h.dn i c) (fun b hb=>⟨zD (h.lX i c b hb) (by simp),zH (h.lX i c b hb) (by simp)⟩)
   · rw[bl c];refine mj.row ((kB.trans kC (fun _ _ g=>g)).row (lu ZT (fun g hg=>by have:=eA g hg;omega)) (fun b hb g=>?_)) (fun b hb e=>?_)
     · have:=hvb b g;have:=eA b hb;omega
     · have:=eA b hb;omega
 · exact((h.each i hi).kp kD (fun b hb=>zD (h.lA i hi b hb) (by simp)) (fun b hb=>zD (h.lE i hi b hb) (by simp))).kp mj (fun b hb=>zH (h.lA i hi b hb) (by simp)) (fun b hb=>zH (h.lE i hi b hb) (by simp))
 · have hi:i<(k.aA++[s]).length:=hi;rw[gh,zN] at hi;have hb:bI (yM (bj (k.aA++[s]) i)) b:=hb;rw[JC _ _ _ hi] at hb;by_cases c:i<k.aA.length
   · rw[bf c] at hb;exact old b _ (h.lX i c b hb) (by simp) (by simp)
   · have e:i=k.aA.length:=by omega
     rw[bl c] at hb;have hx:=eA b hb;show CX S v' k.aA.length (yM s) b=.dn i;unfold CX;rw[bl,bf (show(yM s).ownBlock=some b from hb),e];intro x;rcases hv4 b x with g | g
     · grind
     · omega
 · have:w4.heap[mb]?=some (.cells ([S.vS,S.vF,S.vL,S.vP,I k.hand]++X).toArray tt (0,0)):=kD.keep h.head (fun x=>by grind);rw[dG this 0 v'];simp
 · exact(kD.mono (fun b _ g=>by grind)).trans mj (fun b _ e=>by grind)
def JF (S:dN) (v:Value):Nat->iH:=fun b=>if v.ownBlock=some b then .frames else S.lab b
theorem bQ.aoV {w4:World} {v':Value} {fs:List kj} (h:bQ lo mb tt X w S k) (hgr:w.grownBy w4 S.vF.ownBlock) (hown:w4.ownsRow lo 40 4 v' fs.length (fs.flatMap gq)) (hat:v'.ownBlock=S.vF.ownBlock∨v'.ownBlock=some w.heap.size) :
  bQ lo mb tt X (w4.setCell (Ad mb 1) v') ⟨JF S v',S.vS,v',S.vL,S.vP,S.L⟩ { k with frames:=fs }/\aH (fun b=>S.lab b≠.no) w (w4.setCell (Ad mb 1) v'):=by
 have s2:=hgr.size;have kD:aH (bI S.vF) w w4:=aH.grown hgr (fun _ e=>e);have mj:aH (fun b=>b=mb) w4 (w4.setCell (Ad mb 1) v'):=aH.set _ _ _ _ rfl;have hv4:∀b,bI v' b->bI S.vF b∨b=w.heap.size:=fun b hb=>by
  grind [bI]
 have hmb:=aO h.head;have old:∀b c,S.lab b=c->c≠.no->c≠.frames->JF S v' b=c:=fun b c e h1 h2=>by
  have hb:=(h.qF b (by grind)).2;unfold JF;rw[bl,e];intro x;rcases hv4 b x with g | g
  · exact h2 (by rw[<- e];exact h.lF b g)
  · omega
 have zD:∀{b:Nat} {c:iH},S.lab b=c->c≠.frames->¬bI S.vF b:=fun e hc x=>hc (by rw[<- e];exact h.lF _ x)
 have zH:∀{b:Nat} {c:iH},S.lab b=c->c≠.head->¬b=mb:=fun e hc x=>hc (by grind [lH])
 have row:∀{e:TypeId} {n m:Nat} {v:Value} {xs:List Value},w.ownsRow lo e n v m xs->(∀b,bI v b->¬bI S.vF b/\¬b=mb)->(w4.setCell (Ad mb 1) v').ownsRow lo e n v m xs:=fun hr hq=>mj.row (kD.row hr (fun b hb=>(hq b hb).1)) (fun b hb=>(hq b hb).2)
 refine⟨⟨⟨fun b hb=>?_,row h.aA (fun b hb=>⟨zD (h.lS b hb) (by simp),zH (h.lS b hb) (by simp)⟩),fun i hi=>row (h.dn i hi) (fun b hb=>⟨zD (h.lX i hi b hb) (by simp),zH (h.lX i hi b hb) (by simp)⟩),?_,row h.slots (fun b hb=>⟨zD (h.lL b hb) (by simp),zH (h.lL b hb) (by simp)⟩),row h.aj (fun b hb=>⟨zD (h.lP b hb) (by simp),zH (h.lP b hb) (by simp)⟩),h.len,fun i hi=>?_,fun b hb=>old b _ (h.lS b hb) (by simp) (by simp),fun i hi b hb=>old b _ (h.lX i hi b hb) (by simp) (by simp),fun b hb=>bf hb,fun b hb=>old b _ (h.lL b hb) (by simp) (by simp),fun b hb=>old b _ (h.lP b hb) (by simp) (by simp),fun i hi b hb=>old b _ (h.lA i hi b hb) (by simp) (by simp),fun i hi b hb=>old b _ (h.lE i hi b hb) (by simp) (by simp)⟩,?_,old mb _ h.lH (by simp) (by simp)⟩,?_⟩
 · have hb:JF S v' b≠.no:=hb;have hs4:(w4.setCell (Ad mb 1) v').heap.size=w4.heap.size:=by simp
   rw[hs4];unfold JF at hb;by_cases c:v'.ownBlock=some b
   · exact hown.lt b c
   · rw[bl c] at hb;have:=h.qF b hb;omega
 · exact mj.row hown (fun b hb e=>by
    rcases hv4 b hb with g | g
    · grind
    · omega)
 · exact((h.each i hi).kp kD (fun b hb=>zD (h.lA i hi b hb) (by simp)) (fun b hb=>zD (h.lE i hi b hb) (by simp))).kp mj (fun b hb=>zH (h.lA i hi b hb) (by simp)) (fun b hb=>zH (h.lE i hi b hb) (by simp))
 · have:w4.heap[mb]?=some (.cells ([S.vS,S.vF,S.vL,S.vP,I k.hand]++X).toArray tt (0,0)):=kD.keep h.head (fun x=>by grind);rw[dG this 1 v'];simp
 · exact(kD.mono (fun b _ g=>by grind)).trans mj (fun b _ e=>by grind)
def JE (S:dN) (v:Value):Nat->iH:=fun b=>if v.ownBlock=some b then .slots else S.lab b
theorem bQ.aoU {w4:World} {v':Value} {fs:List mO} (h:bQ lo mb tt X w S k) (hgr:w.grownBy w4 S.vL.ownBlock) (hown:w4.ownsRow lo 86 2 v' fs.length (fs.flatMap gp)) (hat:v'.ownBlock=S.vL.ownBlock∨v'.ownBlock=some w.heap.size) :
  bQ lo mb tt X (w4.setCell (Ad mb 2) v') ⟨JE S v',S.vS,S.vF,v',S.vP,S.L⟩ { k with slots:=fs }/\aH (fun b=>S.lab b≠.no) w (w4.setCell (Ad mb 2) v'):=by
 have s2:=hgr.size;have kD:aH (bI S.vL) w w4:=aH.grown hgr (fun _ e=>e);have mj:aH (fun b=>b=mb) w4 (w4.setCell (Ad mb 2) v'):=aH.set _ _ _ _ rfl;have hv4:∀b,bI v' b->bI S.vL b∨b=w.heap.size:=fun b hb=>by
  grind [bI]
 have hmb:=aO h.head;have old:∀b c,S.lab b=c->c≠.no->c≠.slots->JE S v' b=c:=fun b c e h1 h2=>by
  have hb:=(h.qF b (by grind)).2;unfold JE;rw[bl,e];intro x;rcases hv4 b x with g | g
  · exact h2 (by rw[<- e];exact h.lL b g)
  · omega
 have zD:∀{b:Nat} {c:iH},S.lab b=c->c≠.slots->¬bI S.vL b:=fun e hc x=>hc (by rw[<- e];exact h.lL _ x)
 have zH:∀{b:Nat} {c:iH},S.lab b=c->c≠.head->¬b=mb:=fun e hc x=>hc (by grind [lH])
 have row:∀{e:TypeId} {n m:Nat} {v:Value} {xs:List Value},w.ownsRow lo e n v m xs->(∀b,bI v b->¬bI S.vL b/\¬b=mb)->(w4.setCell (Ad mb 2) v').ownsRow lo e n v m xs:=fun hr hq=>mj.row (kD.row hr (fun b hb=>(hq b hb).1)) (fun b hb=>(hq b hb).2)
 refine⟨⟨⟨fun b hb=>?_,row h.aA (fun b hb=>⟨zD (h.lS b hb) (by simp),zH (h.lS b hb) (by simp)⟩),fun i hi=>row (h.dn i hi) (fun b hb=>⟨zD (h.lX i hi b hb) (by simp),zH (h.lX i hi b hb) (by simp)⟩),row h.frames (fun b hb=>⟨zD (h.lF b hb) (by simp),zH (h.lF b hb) (by simp)⟩),?_,row h.aj (fun b hb=>⟨zD (h.lP b hb) (by simp),zH (h.lP b hb) (by simp)⟩),h.len,fun i hi=>?_,fun b hb=>old b _ (h.lS b hb) (by simp) (by simp),fun i hi b hb=>old b _ (h.lX i hi b hb) (by simp) (by simp),fun b hb=>old b _ (h.lF b hb) (by simp) (by simp),fun b hb=>bf hb,fun b hb=>old b _ (h.lP b hb) (by simp) (by simp),fun i hi b hb=>old b _ (h.lA i hi b hb) (by simp) (by simp),fun i hi b hb=>old b _ (h.lE i hi b hb) (by simp) (by simp)⟩,?_,old mb _ h.lH (by simp) (by simp)⟩,?_⟩
 · have hb:JE S v' b≠.no:=hb;have hs4:(w4.setCell (Ad mb 2) v').heap.size=w4.heap.size:=by simp
   rw[hs4];unfold JE at hb;by_cases c:v'.ownBlock=some b
   · exact hown.lt b c
   · rw[bl c] at hb;have:=h.qF b hb;omega
 · exact mj.row hown (fun b hb e=>by
    rcases hv4 b hb with g | g
    · grind
    · omega)
 · exact((h.each i hi).kp kD (fun b hb=>zD (h.lA i hi b hb) (by simp)) (fun b hb=>zD (h.lE i hi b hb) (by simp))).kp mj (fun b hb=>zH (h.lA i hi b hb) (by simp)) (fun b hb=>zH (h.lE i hi b hb) (by simp))
 · have:w4.heap[mb]?=some (.cells ([S.vS,S.vF,S.vL,S.vP,I k.hand]++X).toArray tt (0,0)):=kD.keep h.head (fun x=>by grind);rw[dG this 2 v'];simp
 · exact(kD.mono (fun b _ g=>by grind)).trans mj (fun b _ e=>by grind)
structure yH (k:aN):Prop where
 aA:k.aA.length<=1000000
 dn:∀i,i<k.aA.length->(bj k.aA i).dn.length<=1000000
 frames:k.frames.length<=1000000
 slots:k.slots.length<=1000000
 aj:k.aj.length<=1000000
 aZ:∀i,i<k.aj.length->(ak k.aj i).aZ.length<=1000000
 aW:∀i,i<k.aj.length->(ak k.aj i).aW.length<=1000000
def qu (w:World) (k:aN) (e:Ending) (w':World):Prop:=∃S hs,dw k.aA hs/\e=.returned (.agg #[S.vS,S.vF,S.vL,S.vP,I k.hand])/\iZ w.heap.size w' S (bu k hs)/\Below w.heap.size w w'
end Go.Proofs.YtpgifpeohlllfaaGreat
end Go.Proofs.YtpgifpeohlllfaaGreat
