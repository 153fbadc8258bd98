import Derived.Test.YtlgoihmkgaaemaaGreatGP05
set_option maxHeartbeats 20000000
set_option linter.unusedVariables false
set_option maxRecDepth 100000
set_option linter.unusedSimpArgs false
namespace Go.Proofs.YtlgoihmkgaaemaaGreat
open Go.RowKit Tryz
variable {es:List bK} {p:Int} {k:aT} {i j:Nat} {held:List Int} {e:bK} {L:List (Int×Bool)} {nf ns:Nat} {ar:List aU} {hs:List bD}
theorem RT {i:Int} (h:ky es) (p:Int):bH (wR i es) p=(bH es p).filter λe=>!lM i e:=by
 cases g:bH es p with
 | none=>grind [vR,AV]
 | some e =>
  have he:=(iY h).1 g;by_cases c:e.kind=1/\e.loc=i
  . rw[Option.filter_some,yT.2 c,aH ξ,vR];intro x hx hp;have hx:=AV.1 hx;have:some x=some e:=((iY h).2 ⟨hx.1,hp⟩).symm.trans g
    grind
  grind [pA,iY,Ow,AV]
theorem Om {i s:Int} (h:ky es) (p:Int):bH (jY i s es) p=(bH es p).map λe=>if lM i e then ⟨e.page,2,s⟩ else e:=by
 cases g:bH es p with
 | none =>
  grind [vR,Cj]
 | some e =>
  grind [iY,LH,Cj,pA]
theorem rA (f:cZ->cZ) (l:List cZ) (j:Nat) (hj:j<l.length):ak (l.map f) j=f (ak l j):=Oy f rP rP l j hj
structure fT (k k':aT):Prop where
 aD:k'.aD=k.aD
 nf:k'.frames.length=k.frames.length
 ns:k'.slots.length=k.slots.length
 np:k'.aj.length=k.aj.length
 live:∀j,j<k.aj.length->(ak k'.aj j).live=(ak k.aj j).live
 bu:∀j,j<k.aj.length->(ak k'.aj j).bu=(ak k.aj j).bu
 acv:∀j,j<k.aj.length->∀p,fq k' j p=fq k j p
theorem fT.refl (k:aT):fT k k:=⟨rfl,rfl,rfl,rfl,λ_ _=>rfl,λ_ _=>rfl,λ_ _ _=>rfl⟩
theorem fT.trans {a b c:aT} (h:fT a b) (g:fT b c):fT a c :=
 ⟨g.aD.trans h.aD,g.nf.trans h.nf,g.ns.trans h.ns,g.np.trans h.np,λj hj=>(g.live j (by grind [np])).trans (h.live j hj),λj hj=>(g.bu j (by grind [np])).trans (h.bu j hj),λj hj p=>(g.acv j (by grind [np]) p).trans (h.acv j hj p)⟩
theorem Ye (h:bg k) (hi:i<k.frames.length) (hd:(aK k.frames i).ja=false):fT k (A3 k i):=by
 refine⟨rfl,gX,rfl,jw ..,λj hj=>?_,λj hj=>?_,λj hj p=>?_⟩
 . show(ak (k.aj.map (oJ i)) j).live=_;rw[rA _ _ _ hj];rfl
 . show(ak (k.aj.map (oJ i)) j).bu=_;rw[rA _ _ _ hj];rfl
 have b:=h.sp hj;unfold fq;show(match bH (ak (k.aj.map (oJ i)) j).bl p with
  | some e=>if e.kind=1 then (aK (k.frames.set i eG) e.loc.toNat).data else (bI k.slots e.loc.toNat).data
  | none=>fM k.aD p (bc (ak (k.aj.map (oJ i)) j).bu p).1.zero)=_
 rw[rA _ _ _ hj];show(match bH (wR i (ak k.aj j).bl) p with
  | some e=>if e.kind=1 then (aK (k.frames.set i eG) e.loc.toNat).data else (bI k.slots e.loc.toNat).data
  | none=>fM k.aD p (bc (ak k.aj j).bu p).1.zero)=_
 rw[RT b.m9];cases g:bH (ak k.aj j).bl p with
 | none=>rfl
 | some e =>
  have he:=(iY b.m9).1 g;have hb:=jO h hj he.1;by_cases c:e.kind=1/\e.loc=(i:Int)
  . rw[Option.filter_some,yT.2 c,aH ξ];show _=if e.kind=1 then _ else _
    rw[aQ c.1,show e.loc.toNat=i by omega];have:=j5 hj he.1;rw[c.1,c.2] at this;have:=(h.Bt i hi).fill hd _ this
    grind
  grind [pA,j6]
theorem XM (h:bg k) {s:Nat} (hi:i<k.frames.length) (hs:s<k.slots.length) (hf:bY k.aj 2 s=[]):fT k (Gm k i s):=by
 refine⟨rfl,gX,gX,jw ..,λj hj=>?_,λj hj=>?_,λj hj p=>?_⟩
 . show(ak (k.aj.map (kJ i s)) j).live=_;rw[rA _ _ _ hj];rfl
 . show(ak (k.aj.map (kJ i s)) j).bu=_;rw[rA _ _ _ hj];rfl
 have b:=h.sp hj;unfold fq;show(match bH (ak (k.aj.map (kJ i s)) j).bl p with
  | some e=>if e.kind=1 then (aK (k.frames.set i eG) e.loc.toNat).data else (bI (k.slots.set s ⟨(aK k.frames i).data,(aK k.frames i).refs⟩) e.loc.toNat).data
  | none=>fM k.aD p (bc (ak (k.aj.map (kJ i s)) j).bu p).1.zero)=_
 rw[rA _ _ _ hj];show(match bH (jY i s (ak k.aj j).bl) p with
  | some e=>if e.kind=1 then (aK (k.frames.set i eG) e.loc.toNat).data else (bI (k.slots.set s ⟨(aK k.frames i).data,(aK k.frames i).refs⟩) e.loc.toNat).data
  | none=>fM k.aD p (bc (ak k.aj j).bu p).1.zero)=_
 rw[Om b.m9];cases g:bH (ak k.aj j).bl p with
 | none=>rfl
 | some e =>
  have he:=(iY b.m9).1 g
  grind [jO,yQ,pA,j6,j5]
theorem Ue (h:bg k) (hi:i<k.frames.length) (hr:(aK k.frames i).refs≠0):fT k (fe k i):=by
 grind [fe,XM,Ye,bg.slot]
theorem Uf (k:aT) (i:Nat):bY (fe k i).aj 1 i=[]:=by
 unfold fe;by_cases c:(aK k.frames i).ja=true
 . rw[aQ c];cases yU k.slots with
   | none=>exact qy (oJ i) 1 i _ (λs _=>yu s.bu i s.bl)
   | some s=>exact qy (kJ i s) 1 i _ (λsp _=>Gt sp.bu i s sp.bl)
 rw[aH c];exact qy (oJ i) 1 i _ (λs _=>yu s.bu i s.bl)
theorem Fm (k:aT) (i:Nat):(fe k i).frames=k.frames.set i eG/\(fe k i).hand=k.hand:=by
 unfold fe;by_cases c:(aK k.frames i).ja=true
 . rw[aQ c];cases yU k.slots with
   | none=>exact⟨rfl,rfl⟩
   | some s=>exact⟨rfl,rfl⟩
 rw[aH c];exact⟨rfl,rfl⟩
theorem Yi (h:bg k) (i:Nat) (hj:j<k.aj.length) (p:Int) (hn:∀e,bH (ak k.aj j).bl p=some e->¬(e.kind=1/\e.loc=(i:Int))):bH (ak (fe k i).aj j).bl p=bH (ak k.aj j).bl p:=by
 have hr:=(h.sp hj).m9;have hD:bH (ak (k.aj.map (oJ i)) j).bl p=bH (ak k.aj j).bl p:=by
  rw[rA _ _ _ hj];show bH (wR i (ak k.aj j).bl) p=_;rw[RT hr];cases g:bH (ak k.aj j).bl p with
  | none=>rfl
  | some e=>grind [pA]
 unfold fe;by_cases c:(aK k.frames i).ja=true
 . rw[aQ c];cases yU k.slots with
   | none=>exact hD
   | some s =>
    show bH (ak (k.aj.map (kJ i s)) j).bl p=_;rw[rA _ _ _ hj];show bH (jY i s (ak k.aj j).bl) p=_;rw[Om hr];cases g:bH (ak k.aj j).bl p with
    | none=>rfl
    | some e=>grind [pA]
 rw[aH c];exact hD
theorem Ud (h:bg k) (hi:i<k.frames.length) (hr:(aK k.frames i).refs≠0) (n:Nat) (hn:bY k.aj 2 n≠[]):bI (fe k i).slots n=bI k.slots n:=by
 unfold fe;by_cases c:(aK k.frames i).ja=true
 . rw[aQ c];obtain⟨s,h1,h2,h3⟩:=h.slot hi hr;rw[h1];show bI (k.slots.set s _) n=_
   grind [yQ]
 rw[aH c];rfl
theorem Ey {d:ByteArray} {dy:Bool} (m:ki k j p i d dy) (hd:d=fq k j p):fT k (ft k j p i d dy):=by
 have h:=m.right;have G:=h.sp m.hj;have hR:=yw m;obtain⟨f1,f2,f3,f4,f5,f6,f7⟩:=py k j p i d dy m;have r:∀n,ak (ft k j p i d dy).aj n=if j=n then eT (ak k.aj j) (mX (ak k.aj j).bl ⟨p,1,i⟩) else ak k.aj n:=λn=>by grind [kQ,ki.hj]
 have FC:(ft k j p i d dy).aj.length=k.aj.length:=by grind
 refine⟨f3,f1,f2,FC,λn hn=>?_,λn hn=>?_,λn hn q=>?_⟩
 . rw[r];by_cases c:j=n
   . rw[aQ c,<- c];rfl
   grind
 . rw[r];by_cases c:j=n
   . rw[aQ c,<- c];rfl
   grind
 have J:(ak (ft k j p i d dy).aj n).bu=(ak k.aj n).bu:=by
  rw[r];by_cases c:j=n
  . rw[aQ c,<- c];rfl
  grind
 have b:bH (ak (ft k j p i d dy).aj n).bl q=if j=n/\q=p then some ⟨p,1,i⟩ else bH (ak k.aj n).bl q:=by
  rw[r];by_cases c:j=n
  . rw[aQ c];show bH (mX (ak k.aj j).bl ⟨p,1,i⟩) q=_;rw[RQ G.m9]
    grind
  grind
 by_cases c:j=n/\q=p
 . grind [fq]
 rw[aH c] at b;have B:n<(ft k j p i d dy).aj.length:=by omega
 have F:=h.sp hn;unfold fq;rw[b,J,f3];cases g:bH (ak k.aj n).bl q with
 | none=>rfl
 | some e =>
  have he:=(iY F.m9).1 g;have hb:=jO h hn he.1;have K:=(iY (hR.sp B).m9).1 (b.trans g);have MH:=j5 B K.1;have L:=j5 hn he.1;show(if e.kind=1 then _ else _)=if e.kind=1 then _ else _
  by_cases c1:e.kind=1
  . rw[aQ c1,aQ c1,f6];have hb:=hb.resolve_right (λx=>ω);have A:e.loc.toNat≠i:=λe1=>by
     grind [ki.free]
    rw[aH A];have hF:=hR.Bt e.loc.toNat ω;rw[f6,aH A] at hF;have y:bY (ft k j p i d dy).aj 1 (e.loc.toNat:Int)≠[]:=λe1=>by
     grind
    cases g2:bH (ak k.aj j).bl p with
    | none=>rfl
    | some e2 =>
     rw[g2] at hF;have hF:lB _ _ (if e2.kind=1/\e2.loc=(e.loc.toNat:Int) then tG (aK k.frames e.loc.toNat) else aK k.frames e.loc.toNat):=hF;show(if e2.kind=1/\e2.loc=(e.loc.toNat:Int) then tG (aK k.frames e.loc.toNat) else aK k.frames e.loc.toNat).data=_;by_cases c3:e2.kind=1/\e2.loc=(e.loc.toNat:Int)
     . rw[aQ c3] at hF ⊢;unfold tG at hF ⊢;by_cases c4:(aK k.frames e.loc.toNat).refs-1=0
       . rw[aQ c4] at hF;exact absurd (hF.nil rfl) y
       grind
     grind
  rw[aH c1,aH c1,f7];have hb:=hb.resolve_left (λx=>c1 x.1);have hF:=hR.slt e.loc.toNat ω;rw[f7] at hF;have y:bY (ft k j p i d dy).aj 2 (e.loc.toNat:Int)≠[]:=λe1=>by
   grind
  cases g2:bH (ak k.aj j).bl p with
  | none=>rfl
  | some e2 =>
   rw[g2] at hF;have hF:mN _ (if e2.kind=2/\e2.loc=(e.loc.toNat:Int) then wS (bI k.slots e.loc.toNat) else bI k.slots e.loc.toNat):=hF;show(if e2.kind=2/\e2.loc=(e.loc.toNat:Int) then wS (bI k.slots e.loc.toNat) else bI k.slots e.loc.toNat).data=_;by_cases c3:e2.kind=2/\e2.loc=(e.loc.toNat:Int)
   . rw[aQ c3] at hF ⊢;unfold wS at hF ⊢;by_cases c4:(bI k.slots e.loc.toNat).refs-1=0
     . rw[aQ c4] at hF;exact absurd (hF.nil rfl) y
     grind
   grind
def jr (k:aT):Int:=(k.hand+1)%(k.frames.length:Int)
def oC (held:List Int) (k:aT):Bool:=held.contains k.hand || (aK k.frames k.hand.toNat).seen
def Dy (f:ko):ko:={ f with seen:=false }
def jJ (held:List Int) (k:aT):aT:={ k with hand:=jr k,frames:=if held.contains k.hand then k.frames else k.frames.set k.hand.toNat (Dy (aK k.frames k.hand.toNat)) }
def bU (held:List Int):Nat->aT->aT
 | 0,k=>k
 | n+1,k=>jJ held (bU held n k)
def od (held:List Int):Nat->aT->aT
 | 0,k=>k
 | n+1,k=>if oC held k then od held n (jJ held k) else k
def Cr (k:aT):Prop:=∀i,i<k.frames.length->(aK k.frames i).refs≠0
theorem RG (held:List Int) (k:aT):(jJ held k).frames.length=k.frames.length:=by
 grind [jJ]
theorem RI (held:List Int) (hh:0<=k.hand/\k.hand<k.frames.length) (n:Nat):aK (jJ held k).frames n=if (n:Int)=k.hand/\held.contains k.hand=false then Dy (aK k.frames n) else aK k.frames n:=by
 grind [jJ,j6]
theorem RU (h3:3<=k.frames.length):0<=jr k/\jr k<k.frames.length:=⟨Int.emod_nonneg _ ω,Int.emod_lt_of_pos _ ω⟩
theorem T3 (held:List Int) (h:bg k) (hf:Cr k):bg (jJ held k)/\Cr (jJ held k)/\fT k (jJ held k)/\(jJ held k).aj=k.aj/\(jJ held k).slots=k.slots:=by
 have h3:=h.c.1.1;have hn:=RU h3;have b:=RI held h.hand;refine⟨?_,λi hi=>?_,⟨rfl,RG held k,rfl,rfl,λ_ _=>rfl,λ_ _=>rfl,λj hj p=>?_⟩,rfl,rfl⟩
 . unfold jJ;by_cases c:held.contains k.hand=true
   . grind [bg.turn]
   rw[aH c];have hi:k.hand.toNat<k.frames.length:=by have:=h.hand;omega
   have:=(h.Bt _ hi);have g:=h.frame (this.seen false (this.ne (hf _ hi)));exact bg.turn g (x:=jr k) Γ
 . rw[RG] at hi;rw[b];have:=hf i hi;by_cases c:(i:Int)=k.hand/\held.contains k.hand=false
   . rw[aQ c];exact this
   grind
 unfold fq;show(match bH (ak k.aj j).bl p with
  | some e=>if e.kind=1 then (aK (jJ held k).frames e.loc.toNat).data else (bI k.slots e.loc.toNat).data
  | none=>_)=_
 have q:∀n,(aK (jJ held k).frames n).data=(aK k.frames n).data:=λn=>by
  rw[b];by_cases c:(n:Int)=k.hand/\held.contains k.hand=false
  . rw[aQ c];rfl
  grind
 grind [jJ]
structure Hz (held:List Int) (k:aT) (n:Nat):Prop where
 right:bg (bU held n k)
 full:Cr (bU held n k)
 kept:fT k (bU held n k)
 aj:(bU held n k).aj=k.aj
 slots:(bU held n k).slots=k.slots
 hand:(bU held n k).hand=(k.hand+n)%(k.frames.length:Int)
 QM:∀i:Nat,(i:Int)∈held->aK (bU held n k).frames i=aK k.frames i
 past:∀m:Nat,m<n->∀i:Nat,(i:Int)=(k.hand+m)%(k.frames.length:Int)->(i:Int)∈held\/(aK (bU held n k).frames i).seen=false
theorem Hw (held:List Int) {k:aT} (h:bg k) (hf:Cr k):∀n,Hz held k n
 | 0=>⟨h,hf,fT.refl k,rfl,rfl,by have:=h.hand;show k.hand=(k.hand+((0:Nat):Int))%_;grind [Int.emod_eq_of_lt],λ_ _=>rfl,λm hm=>ω⟩
 | n+1=>by
  have t:=Hw held h hf n;obtain⟨s1,s2,s3,s4,s5⟩:=T3 held t.right t.full;have hat:=RI held t.right.hand;have Ju:=t.kept.nf;have hN:=h.c.1.1;refine⟨s1,s2,t.kept.trans s3,s4.trans t.aj,s5.trans t.slots,?_,λi hi=>?_,λm hm i hi=>?_⟩
  . show jr (bU held n k)=_;unfold jr;rw[Ju,t.hand,Int.emod_add_emod]
    grind
  . grind [bU,Hz.QM]
  show _\/(aK (jJ held (bU held n k)).frames i).seen=false;rw[hat];by_cases c:(i:Int)=(bU held n k).hand/\held.contains (bU held n k).hand=false
  . rw[aQ c];exact .inr rfl
  rw[aH c];by_cases d:m=n
  . grind [Hz.hand]
  exact t.past m ω i hi
theorem ah8 (hl:held.length<=2) (a b c:Int) (h1:a≠b) (h2:a≠c) (h3:b≠c):a∉held\/b∉held\/c∉held:=by
 by_cases ha:a∈held
 . by_cases hb:b∈held
   . right;right;intro hc;have l1:=List.length_erase_of_mem ha;have q:b∈held.erase a:=(Qn (λe=>h1 e.symm)).2 hb;have h:c∈held.erase a:=(Qn (λe=>h2 e.symm)).2 hc;have l2:=List.length_erase_of_mem q;have r:c∈(held.erase a).erase b:=(Qn (λe=>h3 e.symm)).2 h
     grind
   grind
 grind
theorem Ez {x n:Int} (h0:0<=x) (h1:x<2*n) (hn:0<n):(x<n/\x%n=x)\/(n<=x/\x%n=x-n):=by
 by_cases c:x<n
 . grind [Int.emod_eq_of_lt]
 right;refine⟨ω,?_⟩;rw[<- Int.sub_emod_right x n];exact aj5 ω ω
theorem I4 (held:List Int) (hl:held.length<=2) (h:bg k) (hf:Cr k):∃T,T<=66/\(∀m,m<T->oC held (bU held m k)=true)/\oC held (bU held T k)=false:=by
 have hN:=h.c.1;have b:∃T,T<=66/\oC held (bU held T k)=false:=by
  have hh:=h.hand;obtain⟨N,y⟩:∃N:Int,N=(k.frames.length:Int):=⟨_,rfl⟩;have r:∀x:Nat,x<3->(k.hand+x)%N∉held->∃T,T<=66/\oC held (bU held T k)=false:=λx hx hno=>by
   have t:=Hw held h hf (k.frames.length+x);have hm:0<=(k.hand+x)%N/\(k.hand+x)%N<N:=⟨Int.emod_nonneg _ ω,Int.emod_lt_of_pos _ ω⟩;have q:(bU held (k.frames.length+x) k).hand=(k.hand+x)%N:=by
    grind [Int.add_emod_right,Hz.hand]
   refine⟨k.frames.length+x,ω,?_⟩;unfold oC;rw[q];have hi:(((k.hand+x)%N).toNat:Int)=(k.hand+x)%N:=by omega
   have:=t.past x ω ((k.hand+x)%N).toNat Γ
   grind
  have d0:=Ez (x:=k.hand+(0:Nat)) (n:=N) ω ω ω;have d1:=Ez (x:=k.hand+(1:Nat)) (n:=N) ω ω ω;have d2:=Ez (x:=k.hand+(2:Nat)) (n:=N) ω ω ω;rcases ah8 hl ((k.hand+(0:Nat))%N) ((k.hand+(1:Nat))%N) ((k.hand+(2:Nat))%N) ω ω ω with g | g | g
  . grind
  . exact r 1 ω g
  grind
 obtain⟨T,hT,hp⟩:=b;clear hN;induction T using Nat.strongRecOn with
 | _ T ih =>
  grind
theorem I3 (held:List Int):∀(T n:Nat) (k:aT),T<=n->(∀m,m<T->oC held (bU held m k)=true)->oC held (bU held T k)=false->od held (n+1) k=bU held T k:=λT=>by
 have shift:∀m k,bU held m (jJ held k)=bU held (m+1) k:=λm k=>by
  induction m with
  | zero=>rfl
  | succ m ih=>show jJ held _=jJ held _;rw[ih]
 induction T with
 | zero =>
  intro n k _ _ h;show(if oC held k then _ else k)=k;rw[aH (by rw[show oC held k=false from h];simp)]
 | succ T ih =>
  intro n k hn h1 h2;obtain⟨n,rfl⟩:∃m,n=m+1:=⟨n-1,ω⟩;show(if oC held k then od held (n+1) (jJ held k) else k)=_;rw[aQ (show oC held k=true from h1 0 ω),ih n (jJ held k) ω (λm hm=>Γ) Γ,shift]
def bT (k:aT) (held:List Int):Nat×aT:=match yV k.frames with
 | some i=>(i,k)
 | none=>((od held 70 k).hand.toNat,{ fe (od held 70 k) (od held 70 k).hand.toNat with hand:=jr (od held 70 k) })
structure ux (k:aT) (held:List Int) (g:Nat×aT):Prop where
 right:bg g.2
 kept:fT k g.2
 lt:g.1<k.frames.length
 free:bY g.2.aj 1 g.1=[]
 QM:∀i:Nat,(i:Int)∈held->(aK k.frames i).refs≠0->i≠g.1/\aK g.2.frames i=aK k.frames i
 MQ:∀j,j<k.aj.length->∀p,(∀e,bH (ak k.aj j).bl p=some e->¬(e.kind=1/\e.loc=(g.1:Int)))->bH (ak g.2.aj j).bl p=bH (ak k.aj j).bl p
 slot:∀n:Nat,bY k.aj 2 n≠[]->bI g.2.slots n=bI k.slots n
theorem tI (h:bg k) (hl:held.length<=2):ux k held (bT k held):=by
 unfold bT;cases hf:yV k.frames with
 | some i =>
  obtain⟨h1,h2,_⟩:=Qs.1 hf;have hr:(aK k.frames i).refs=0:=by
   grind [aK]
  exact⟨h,fT.refl k,h1,(h.Bt i h1).nil hr,λn _ hn=>⟨λe=>hn Γ,rfl⟩,λj _ p _=>rfl,λ_ _=>rfl⟩
 | none =>
  have hF:Cr k:=λi hi hr=>by
   have:=Wq.1 hf (aK k.frames i) (kT hi)
   grind
  obtain⟨T,hT,t1,t2⟩:=I4 held hl h hF;have hc:od held 70 k=bU held T k:=I3 held T 69 k ω t1 t2;rw[hc];have t:=Hw held h hF T;obtain⟨k1,r⟩:=ex (bU held T k);have tr:=t.right;have tf:=t.full;have tk:=t.kept;have ts:=t.aj;have tl:=t.slots;have th:=t.QM;rw[<- r] at t2 tr tf tk ts tl th ⊢;obtain⟨i,hi⟩:=ex k1.hand.toNat
  have hh:=tr.hand;have b:i<k1.frames.length:=by omega
  have hr:=tf i b;have a1:=tr.aside b hr;have a2:=Ue tr b hr;have h3:=tr.c.1.1;have a3:(fe k1 i).frames.length=k1.frames.length:=a2.nf;rw[<- hi];have hb:bg { fe k1 i with hand:=jr k1 }:=a1.turn (by simp_all [RU]);have q:fT (fe k1 i) { fe k1 i with hand:=jr k1 }:=⟨rfl,rfl,rfl,rfl,λ_ _=>rfl,λ_ _=>rfl,λ_ _ _=>rfl⟩;have Ju:=tk.nf;refine⟨hb,tk.trans (a2.trans q),Γ,Uf k1 i,λn hn _=>?_,λj hj p he=>?_,λn hn=>?_⟩
  . grind [oC,Fm,j6]
  . grind [Yi]
  grind [Ud]
def sI (k:aT) (j:Nat) (p:Int):Bool:=(bc (ak k.aj j).bu p).1.zero
def eZ (k:aT) (j:Nat) (p:Int):Prop:=(bc (ak k.aj j).bu p).2=true
def dI (k:aT) (j:Nat) (p:Int) (held:List Int):Nat×aT:=match bH (ak k.aj j).bl p with
 | some e=>if e.kind=1 then (e.loc.toNat,k) else ((bT k held).1,ft (bT k held).2 j p (bT k held).1 (bI (bT k held).2.slots e.loc.toNat).data true)
 | none=>((bT k held).1,ft (bT k held).2 j p (bT k held).1 (fM (bT k held).2.aD p (sI (bT k held).2 j p)) false)
def ll (k:aT) (j:Nat) (p:Int) (a:Nat) (held:List Int):Nat×aT:=if (aK k.frames a).refs=1 then (a,k) else ((bT k (held++[(a:Int)])).1,ft (bT k (held++[(a:Int)])).2 j p (bT k (held++[(a:Int)])).1 (aK (bT k (held++[(a:Int)])).2.frames a).data true)
def zV (way:Int) (f:ko):ko:=⟨f.data,f.refs,f.ja || decide (way=1),true⟩
def RX (k:aT) (way:Int) (i:Nat):aT:={ k with frames:=k.frames.set i (zV way (aK k.frames i)) }
def iJ (k:aT) (j:Nat) (p way:Int) (held:List Int):Nat×aT:=if way=1 then ll (dI k j p held).2 j p (dI k j p held).1 held else dI k j p held
def dU (k:aT) (j:Nat) (p way:Int) (held:List Int):Nat×aT:=((iJ k j p way held).1,RX (iJ k j p way held).2 way (iJ k j p way held).1)
structure fY (k:aT) (j:Nat) (p:Int) (held:List Int) (r:Nat×aT):Prop where
 right:bg r.2
 kept:fT k r.2
 lt:r.1<k.frames.length
 here:bH (ak r.2.aj j).bl p=some ⟨p,1,r.1⟩
 stay:∀j',j'<k.aj.length->∀q e,bH (ak k.aj j').bl q=some e->e.kind=1->e.loc∈held->¬(j'=j/\q=p)->bH (ak r.2.aj j').bl q=some e
theorem ud {d:ByteArray} {dy:Bool} (m:ki k j p i d dy) (n:Nat) (q:Int):bH (ak (ft k j p i d dy).aj n).bl q=if j=n/\q=p then some ⟨p,1,i⟩ else bH (ak k.aj n).bl q:=by
 obtain⟨_,_,_,_,f5,_,_⟩:=py k j p i d dy m;rw[f5,kQ _ _ _ _ m.hj];by_cases c:j=n
 . rw[aQ c];show bH (mX (ak k.aj j).bl ⟨p,1,i⟩) q=_;rw[RQ (m.right.sp m.hj).m9]
   grind
 grind
theorem ux.stay (h:bg k) {g:Nat×aT} (G:ux k held g) (hj:j<k.aj.length) {q:Int} (he:bH (ak k.aj j).bl q=some e) (hn:e.kind=1->e.loc∈held):bH (ak g.2.aj j).bl q=some e:=by
 have hm:=(iY (h.sp hj).m9).1 he;rw[G.MQ j hj q ?_,he];intro x hx c;rw[he] at hx;injection hx with hx;subst hx;have hb:=(jO h hj hm.1).resolve_right (λy=>ω);have b:(aK k.frames e.loc.toNat).refs≠0:=λz=>by
  have:=j5 hj hm.1;rw[c.1,<- hb.2.1,(h.Bt _ hb.2.2).nil z] at this
  grind
 have:=(G.QM e.loc.toNat Γ b).1;omega
theorem ux.mapped {g:Nat×aT} (G:ux k held g) (hj:j<k.aj.length) (hp:eZ k j p):(bc (ak g.2.aj j).bu p).2=true:=by rw[G.kept.bu j hj];exact hp
theorem Gy (hs:List bD) (hr:dR hs=true) (p:Int) (h:(dB hs p).isSome=true):(fE hs p).size=16:=by
 unfold fE;cases g:dB hs p with
 | none=>grind
 | some s =>
  have hm:s∈hs:=Qr g;obtain⟨i,hi,e⟩:=jE zi hm;have hb:=(oG hs hs.length hr i hi).1;rw[show aZ hs i=s from e] at hb;unfold cK lW at hb;simp only[cV,iP] at hb;exact wJ s.data s.df hb.1.2.2 s.df.length hb.2
theorem ED (h:bg k) (hj:j<k.aj.length) (hp:eZ k j p):(fM k.aD p (sI k j p)).size=16:=by
 unfold fM;cases z:sI k j p with
 | true=>rfl
 | false=>exact Gy _ h.m9 p ((h.sp hj).aD p hp z)
theorem AU (h:bg k) (hj:j<k.aj.length) (hp:eZ k j p) (hl:held.length<=2):fY k j p held (dI k j p held):=by
 have B:=h.sp hj;have G:=tI h hl;unfold dI;cases g:bH (ak k.aj j).bl p with
 | none =>
  dsimp only;have b:bH (ak (bT k held).2.aj j).bl p=none:=by grind [ux.MQ]
  have A:fM (bT k held).2.aD p (sI (bT k held).2 j p)=fq (bT k held).2 j p:=by unfold fq;rw[b];rfl
  have r:j<(bT k held).2.aj.length:=by rw[G.kept.np];exact hj
  have m:ki (bT k held).2 j p (bT k held).1 (fM (bT k held).2.aD p (sI (bT k held).2 j p)) false:=⟨G.right,r,G.mapped hj hp,by rw[G.kept.nf];exact G.lt,G.free,ED G.right r (G.mapped hj hp),λ_=>rfl⟩;refine⟨yw m,G.kept.trans (Ey m A),G.lt,by grind [ud],λj' hj2 q e he hk hin hne=>?_⟩
  grind [ud,ux.stay]
 | some e =>
  have he:=(iY B.m9).1 g;dsimp only;by_cases c:e.kind=1
  . rw[aQ c];have hb:=(jO h hj he.1).resolve_right (λy=>ω);refine⟨h,fT.refl k,hb.2.2,?_,λj' hj2 q e he hk hin hne=>he⟩;show bH (ak k.aj j).bl p=some ⟨p,1,(e.loc.toNat:Int)⟩;rw[g,hb.2.1,<- c,<- he.2]
  rw[aH c];have hb:=(jO h hj he.1).resolve_left (λy=>c y.1);have b:bH (ak (bT k held).2.aj j).bl p=some e:=by grind [ux.MQ]
  have r:j<(bT k held).2.aj.length:=by rw[G.kept.np];exact hj
  have J:=(iY (G.right.sp r).m9).1 b;have A:(bI (bT k held).2.slots e.loc.toNat).data=fq (bT k held).2 j p:=by grind [fq]
  have F:(bI (bT k held).2.slots e.loc.toNat).data.size=16:=(G.right.slt e.loc.toNat (by grind [ux.kept,fT.ns])).size (λz=>by
   grind [j5])
  have m:ki (bT k held).2 j p (bT k held).1 (bI (bT k held).2.slots e.loc.toNat).data true:=⟨G.right,r,G.mapped hj hp,by rw[G.kept.nf];exact G.lt,G.free,F,λy=>by cases y⟩;refine⟨yw m,G.kept.trans (Ey m A),G.lt,by grind [ud],λj' hj2 q e he hk hin hne=>?_⟩
  grind [ud,ux.stay]
theorem LW (h:bg k) (hj:j<k.aj.length) (hp:eZ k j p) {a:Nat} (ha:bH (ak k.aj j).bl p=some ⟨p,1,a⟩) (hl:held.length<=1):fY k j p held (ll k j p a held)/\(aK (ll k j p a held).2.frames (ll k j p a held).1).refs=1:=by
 have F:=h.sp hj;have he:=(iY F.m9).1 ha;have hb:=(jO h hj he.1).resolve_right (λy=>Γ);have A:a<k.frames.length:=by grind
 unfold ll;by_cases c:(aK k.frames a).refs=1
 . rw[aQ c];exact⟨⟨h,fT.refl k,A,ha,λj' hj2 q e he hk hin hne=>he⟩,c⟩
 rw[aH c];have G:=tI h (held:=held++[(a:Int)]) Γ;generalize bT k (held++[(a:Int)])=g at G ⊢;have r:bH (ak g.2.aj j).bl p=some ⟨p,1,a⟩:=G.stay h hj ha (λ_=>mj.2 (.inr ξ));have b:j<g.2.aj.length:=by rw[G.kept.np];exact hj
 have J:=(iY (G.right.sp b).m9).1 r;have B:(aK g.2.frames a).data=fq g.2 j p:=by grind [fq]
 have K:(aK g.2.frames a).data.size=16:=(G.right.Bt a (by rw[G.kept.nf];exact A)).size (λz=>by
  have:=j5 b J.1
  grind)
 have m:ki g.2 j p g.1 (aK g.2.frames a).data true:=⟨G.right,b,G.mapped hj hp,by rw[G.kept.nf];exact G.lt,G.free,K,λy=>by cases y⟩;refine⟨⟨yw m,G.kept.trans (Ey m B),G.lt,by grind [ud],λj' hj2 q e he hk hin hne=>?_⟩,?_⟩
 . grind [ud,ux.stay]
 grind [py]
theorem aaM {r:Nat×aT} (b:fY k j p held r) (hj:j<k.aj.length) (way:Int):fY k j p held (r.1,RX r.2 way r.1):=by
 have h:=b.right;have A:r.1<r.2.frames.length:=by rw[b.kept.nf];exact b.lt
 have y:j<r.2.aj.length:=by rw[b.kept.np];exact hj
 have he:=(iY (h.sp y).m9).1 b.here;have hL:bY r.2.aj 1 r.1≠[]:=λz=>by
  have:=j5 y he.1
  grind
 have hf:=h.Bt r.1 A;have hR:bg (RX r.2 way r.1):=h.frame (f:=zV way (aK r.2.frames r.1)) ⟨hf.refs,λe=>absurd e hL,hf.one,hf.size,λd=>hf.fill (by
  have d:((aK r.2.frames r.1).ja || decide (way=1))=false:=d
  grind)⟩
 refine⟨hR,b.kept.trans ⟨rfl,gX,rfl,rfl,λ_ _=>rfl,λ_ _=>rfl,λn hn q=>?_⟩,b.lt,b.here,b.stay⟩;unfold fq;show(match bH (ak r.2.aj n).bl q with
  | some e=>if e.kind=1 then (aK (r.2.frames.set r.1 (zV way (aK r.2.frames r.1))) e.loc.toNat).data else (bI r.2.slots e.loc.toNat).data
  | none=>_)=_
 cases bH (ak r.2.aj n).bl q with
 | none=>rfl
 | some e =>
  show(if e.kind=1 then _ else _)=if e.kind=1 then _ else _
  rw[j6 _ _ _ _ A];by_cases c:r.1=e.loc.toNat
  . rw[aQ c,<- c];rfl
  grind
theorem fY.trans {r s:Nat×aT} (a:fY k j p held r) (b:fY r.2 j p held s):fY k j p held s :=
 ⟨b.right,a.kept.trans b.kept,by have:=b.lt;grind [kept,fT.nf],b.here,λj' hj' q e he h1 h2 h3=>b.stay j' (by grind [kept,fT.np]) q e (a.stay j' hj' q e he h1 h2 h3) h1 h2 h3⟩
theorem fT.mapped {k':aT} (h:fT k k') (hj:j<k.aj.length) (hp:eZ k j p):eZ k' j p:=by grind [eZ,bu]
theorem rQ (h:bg k) (hj:j<k.aj.length) (hp:eZ k j p) (way:Int) (hl:held.length<=1):fY k j p held (dU k j p way held)/\(way=1->(aK (dU k j p way held).2.frames (dU k j p way held).1).refs=1/\(aK (dU k j p way held).2.frames (dU k j p way held).1).ja=true):=by
 have P:=AU h hj hp (held:=held) ω;have hT:fY k j p held (iJ k j p way held)/\(way=1->(aK (iJ k j p way held).2.frames (iJ k j p way held).1).refs=1):=by
  grind [iJ,LW,fY.right,fY.kept,fT.np,fT.mapped,fY.here,fY.trans]
 refine⟨aaM hT.1 hj way,λc=>?_⟩;have b:(iJ k j p way held).1<(iJ k j p way held).2.frames.length:=by rw[hT.1.kept.nf];exact hT.1.lt
 have e:aK (dU k j p way held).2.frames (dU k j p way held).1=zV way (aK (iJ k j p way held).2.frames (iJ k j p way held).1):=by
  show aK ((iJ k j p way held).2.frames.set _ _) (iJ k j p way held).1=_
  grind [j6]
 grind [zV]
structure fC where
 refs:Int
 page:Int
 zero:Bool
variable {u:fC}
def dM:fC:=⟨0,0,false⟩
def dx (l:List fC) (i:Nat):fC:=l.getD i dM
def px (us:List fC) (e:bK) (z:Bool):Bool:=decide (0<=e.loc/\e.loc<(us.length:Int))&&!(decide (0<(dx us e.loc.toNat).refs)&&(decide ((dx us e.loc.toNat).page≠e.page) || (dx us e.loc.toNat).zero != z))
def sY (us:List fC) (e:bK) (z:Bool):List fC:=us.set e.loc.toNat ⟨(dx us e.loc.toNat).refs+1,e.page,z⟩
def yz (ar:List aU) (last:Int) (uf us:List fC) (e:bK):Bool:=(bc ar e.page).2&&(decide (last<e.page)&&(if e.kind=1 then px uf e (bc ar e.page).1.zero else if e.kind=2 then px us e (bc ar e.page).1.zero else false))
def ue (ar:List aU) (u:List fC×List fC) (e:bK):List fC×List fC:=if e.kind=1 then (sY u.1 e (bc ar e.page).1.zero,u.2) else (u.1,sY u.2 e (bc ar e.page).1.zero)
def qh (es:List bK) (k:Nat):Int:=if k=0 then 0 else (aW es (k-1)).page
def jK (ar:List aU) (es:List bK) (u:List fC×List fC):Nat->List fC×List fC
 | 0=>u
 | k+1=>ue ar (jK ar es u k) (aW es k)
def kg (ar:List aU) (es:List bK) (u:List fC×List fC):Nat->Bool
 | 0=>true
 | k+1=>kg ar es u k&&yz ar (qh es k) (jK ar es u k).1 (jK ar es u k).2 (aW es k)
def sA (hs:List bD) (ar:List aU):Bool:=ar.all λa=>(List.range a.aY.toNat).all λn=>a.zero || decide ((fE hs (a.page+(n:Int))).size≠0)
def qx (hs:List bD) (s:cZ):Bool:=if s.live then decide (bf s.bu=0)&&sA hs s.bu else decide (s.bu.length=0)&&decide (s.bl.length=0)
def kP (ss:List cZ) (u:List fC×List fC):Nat->List fC×List fC
 | 0=>u
 | k+1=>jK (ak ss k).bu (ak ss k).bl (kP ss u k) (ak ss k).bl.length
def oI (hs:List bD) (ss:List cZ) (u:List fC×List fC):Nat->Bool
 | 0=>true
 | k+1=>oI hs ss u k&&(qx hs (ak ss k)&&kg (ak ss k).bu (ak ss k).bl (kP ss u k) (ak ss k).bl.length)
def nk (f:ko):Bool:=decide (f.data.size=0/\f.refs=0/\f.ja=false/\f.seen=false)
def oa (f:mJ):Bool:=decide (f.data.size=0/\f.refs=0)
def jZ (hs:List bD) (f:ko) (u:fC):Bool:=if u.refs=0 then nk f else decide (f.refs=u.refs/\f.data.size=16)&&(f.ja || decide (f.data=fM hs u.page u.zero))
def mr (s:mJ) (u:fC):Bool:=if u.refs=0 then oa s else decide (s.refs=u.refs/\s.data.size=16)
def AK (k:aT):List fC×List fC:=kP k.aj (List.replicate k.frames.length dM,List.replicate k.slots.length dM) k.aj.length
def Dz (k:aT):Bool:=dR k.aD&&(decide (0<=k.hand/\k.hand<(k.frames.length:Int))&&(oI k.aD k.aj (List.replicate k.frames.length dM,List.replicate k.slots.length dM) k.aj.length&&(decide (dJ k.aj<=(k.slots.length:Int))&&((List.range k.frames.length).all (λi=>jZ k.aD (aK k.frames i) (dx (AK k).1 i))&&(List.range k.slots.length).all (λi=>mr (bI k.slots i) (dx (AK k).2 i))))))
def dD (k:aT):Int:=if lh k=false then 2 else if Dz k then 0 else 1
def zl (L:List (Int×Bool)) (u:fC):Prop:=u.refs=L.length/\∀x∈L,x=(u.page,u.zero)
def yB (N:Int->Int->List (Int×Bool)) (nf ns:Nat) (u:List fC×List fC):Prop:=(u.1.length=nf/\u.2.length=ns)/\(∀i:Nat,i<nf->zl (N 1 i) (dx u.1 i))/\∀i:Nat,i<ns->zl (N 2 i) (dx u.2 i)
theorem Gl (l:List fC) (j n:Nat) (s:fC) (hj:j<l.length):dx (l.set j s) n=if j=n then s else dx l n:=by
 grind [dx]
theorem Oq (h:zl L u) {z:Bool} (hc:¬(0<u.refs/\(u.page≠p\/u.zero≠z))):zl (L++[(p,z)]) ⟨u.refs+1,p,z⟩:=by
 refine⟨by show u.refs+1=_;rw[h.1,gM];rfl,λx hx=>?_⟩;rcases mj.1 hx with g | g
 . have b:0<u.refs:=by rw[h.1];grind
   have e:=h.2 x g
   grind
 grind
theorem zP {us:List fC} {z:Bool}:px us e z=true↔(0<=e.loc/\e.loc<(us.length:Int))/\¬(0<(dx us e.loc.toNat).refs/\((dx us e.loc.toNat).page≠e.page\/(dx us e.loc.toNat).zero≠z)):=by
 grind [px]
theorem aaP {N:Int->Int->List (Int×Bool)} {u:List fC×List fC} (h:yB N nf ns u) {last:Int} (hb:yz ar last u.1 u.2 e=true) :
  yB (λkd i=>N kd i++jN ar kd i [e]) nf ns (ue ar u e)/\tK nf ns ar e/\last<e.page:=by
 unfold yz at hb;rw[cV,cV,iP] at hb;obtain⟨h1,h2,h3⟩:=hb;obtain⟨⟨l1,l2⟩,s1,s2⟩:=h;by_cases c:e.kind=1
 . rw[aQ c] at h3;obtain⟨b,hc⟩:=zP.1 h3;refine⟨⟨⟨?_,?_⟩,λi hi=>?_,λi hi=>?_⟩,⟨h1,.inl ⟨c,b.1,ω⟩⟩,h2⟩
   . grind [ue,sY]
   . grind [ue]
   . grind [ue,sY,Gl,qU,Oq,nM]
   grind [ue,nM]
 rw[aH c] at h3;by_cases c2:e.kind=2
 . rw[aQ c2] at h3;obtain⟨b,hc⟩:=zP.1 h3;refine⟨⟨⟨?_,?_⟩,λi hi=>?_,λi hi=>?_⟩,⟨h1,.inr ⟨c2,b.1,ω⟩⟩,h2⟩
   . grind [ue]
   . grind [ue,sY]
   . grind [ue,nM]
   grind [ue,sY,Gl,qU,Oq,nM]
 grind
theorem aaR {N:Int->Int->List (Int×Bool)} {u:List fC×List fC} (h:yB N nf ns u) {last:Int} (he:tK nf ns ar e) (hl:last<e.page) (ho:∀x∈N e.kind e.loc,x=(e.page,(bc ar e.page).1.zero)):yz ar last u.1 u.2 e=true:=by
 obtain⟨⟨l1,l2⟩,s1,s2⟩:=h;unfold yz;rw[he.1,dW hl,ju,ju];have q:∀(us:List fC) (n:Nat),us.length=n->(0<=e.loc/\e.loc<(n:Int))->zl (N e.kind (e.loc.toNat:Int)) (dx us e.loc.toNat)->px us e (bc ar e.page).1.zero=true:=λus n hn hb hs=>by
  rw[zP];refine⟨ω,λ⟨a,b⟩=>?_⟩;rw[hs.1] at a;obtain⟨x,hx⟩:=List.exists_mem_of_length_pos (show 0<(N e.kind (e.loc.toNat:Int)).length by omega);have e1:=hs.2 x hx
  grind
 rcases he.2 with g | g
 . grind
 grind
theorem zQ (es:List bK) (k:Nat) (hk:k<es.length):es.take (k+1)=es.take k++[aW es k]:=by
 grind [List.take_add_one,aW]
theorem Gz {N:Int->Int->List (Int×Bool)} {nf ns:Nat} {u:List fC×List fC} (h:yB N nf ns u) (ar:List aU) (es:List bK):∀k,k<=es.length->kg ar es u k=true->yB (λkd i=>N kd i++jN ar kd i (es.take k)) nf ns (jK ar es u k)/\∀i,i<k->tK nf ns ar (aW es i)/\qh es i<(aW es i).page
 | 0,_,_=>⟨by
  have e:(λkd i=>N kd i++jN ar kd i (es.take 0))=N:=by grind [jN]
  rw[e];exact h,λi hi=>ω⟩
 | k+1,hk,hb=>by
  unfold kg at hb;rw[cV] at hb;obtain⟨a1,a2⟩:=Gz h ar es k ω hb.1;obtain⟨b1,b2,b3⟩:=aaP a1 hb.2;refine⟨?_,λi hi=>?_⟩
  . have e:(λkd i=>N kd i++jN ar kd i (es.take (k+1)))=λkd i=>(N kd i++jN ar kd i (es.take k))++jN ar kd i [aW es k]:=by
     grind [zQ,mv]
    rw[e];exact b1
  grind
theorem LU {N:Int->Int->List (Int×Bool)} {nf ns:Nat} {u:List fC×List fC} (h:yB N nf ns u) (ar:List aU) (es:List bK) (he:∀i,i<es.length->tK nf ns ar (aW es i)/\qh es i<(aW es i).page) (ho:∀kd i,∀x∈N kd i++jN ar kd i es,∀y∈N kd i++jN ar kd i es,x=y):∀k,k<=es.length->kg ar es u k=true
 | 0,_=>rfl
 | k+1,hk=>by
  have ih:=LU h ar es he ho k ω;unfold kg;rw[ih,ju];obtain⟨a1,_⟩:=Gz h ar es k ω ih;refine aaR a1 (he k ω).1 (he k ω).2 λx hx=>?_
  have hm:(aW es k)∈es:=kT ω;refine ho (aW es k).kind (aW es k).loc x ?_ _ (mj.2 (.inr (Nj.2 ⟨_,hm,rfl,rfl,rfl⟩)))
  grind [Nj]
theorem EE (es:List bK) (k:Nat):(es.map (·.page)).getD k 0=(aW es k).page:=by
 unfold aW;rw[jI,jI,Ks];cases es[k]? <;> rfl
theorem nA (h:(bc ar p).2=true):1<=p/\p<256:=by
 have:=sM (xh h) h;omega
theorem Gs:(∀i,i<es.length->tK nf ns ar (aW es i)/\qh es i<(aW es i).page)↔(∀e∈es,tK nf ns ar e)/\ky es:=by
 constructor
 . intro h;refine⟨λe he=>?_,Bh _ λk h1 h2=>?_⟩
   . obtain⟨i,hi,rfl⟩:=jE gJ he;exact(h i hi).1
   grind [EE,qh]
 rintro⟨h1,h2⟩ i hi;have he:=h1 (aW es i) (kT hi);refine⟨he,?_⟩;unfold qh;by_cases c:i=0
 . rw[aQ c];have:=nA he.1;omega
 rw[aH c,<- EE,<- EE];exact J3 h2 i ω Γ
theorem Gx (hr:dR hs=true) (p:Int):(fE hs p).size≠0↔(dB hs p).isSome=true:=by
 constructor
 . intro h;unfold fE at h;cases g:dB hs p with
   | some s=>rfl
   | none=>rw[g] at h;exact absurd rfl h
 grind [Gy]
theorem adx (hc:bf ar=0) (p:Int):(bc ar p).2=true↔∃a∈ar,a.page<=p/\p<a.page+a.aY/\bc ar p=(a,true):=by
 grind [bc,CE,bw,Bl]
theorem adw (hc:bf ar=0) {a:aU} (ha:a∈ar) (h1:a.page<=p) (h2:p<a.page+a.aY):bc ar p=(a,true):=by
 obtain⟨k,hk,e⟩:=jE vB ha;have e:bw ar k=a:=e;have b:gW (bw ar k) p=true:=by grind [Bl]
 grind [bc,N7,CE,Rf]
theorem Ox (hr:dR hs=true) (hc:bf ar=0):sA hs ar=true↔∀p,(bc ar p).2=true->(bc ar p).1.zero=false->(dB hs p).isSome=true:=by
 unfold sA;rw[sV];constructor
 . intro h p hp hz;obtain⟨a,ha,h1,h2,e⟩:=(adx hc p).1 hp;rw[e] at hz;have hz:a.zero=false:=hz;have:=h a ha;rw[sV] at this;have:=this (p-a.page).toNat (uO.2 ω)
   grind [Gx]
 intro h a ha;rw[sV];intro n hn;have hn:=uO.1 hn;have e:=adw hc ha (p:=a.page+(n:Int)) ω ω
 grind [Gx]
theorem ads (ss:List cZ) (k:Nat) (hk:k<ss.length):ss.take (k+1)=ss.take k++[ak ss k]:=by
 grind [List.take_add_one,ak]
theorem CU (ss:List cZ) (k:Nat) (hk:k<ss.length) (kd a:Int):bY (ss.take (k+1)) kd a=bY (ss.take k) kd a++fO (ak ss k) kd a:=by
 grind [ads,Fk,lu,LP]
theorem Oo (nf ns:Nat):yB (λ_ _=>[]) nf ns (List.replicate nf dM,List.replicate ns dM):=by
 have h:∀n i,dx (List.replicate n dM) i=dM:=λn i=>by
  grind [dx]
 refine⟨⟨qL,qL⟩,λi _=>?_,λi _=>?_⟩
 . grind [zl,dM]
 grind [zl,dM]
theorem ah9 (hr:dR hs=true) {s:cZ} (h1:qx hs s=true) (h2:(∀e∈s.bl,tK nf ns s.bu e)/\ky s.bl):sQ hs nf ns s:=by
 unfold qx at h1;by_cases c:s.live=true
 . rw[aQ c,cV,iP] at h1;exact⟨λd=>Γ,h1.1,h2.2,h2.1,(Ox hr h1.1).1 h1.2⟩
 rw[aH c,cV,iP,iP] at h1;have ha:=mR h1.1;refine⟨λ_=>⟨ha,mR h1.2⟩,by rw[ha];rfl,h2.2,h2.1,λp hp=>?_⟩;rw[ha] at hp;cases hp
theorem aia (hr:dR hs=true) {s:cZ} (h:sQ hs nf ns s):qx hs s=true:=by
 grind [qx,Ox,sQ.bu,sQ.aD,sQ.dead]
theorem AQ {hs:List bD} (hr:dR hs=true) {nf ns:Nat} {u:List fC×List fC} (h:yB (λ_ _=>[]) nf ns u) (ss:List cZ):∀k,k<=ss.length->oI hs ss u k=true->yB (λkd i=>bY (ss.take k) kd i) nf ns (kP ss u k)/\∀i,i<k->sQ hs nf ns (ak ss i)
 | 0,_,_=>⟨by
  have e:(λkd i=>bY (ss.take 0) kd i)=λ_ _=>[]:=by rfl
  rw[e];exact h,λi hi=>ω⟩
 | k+1,hk,hb=>by
  unfold oI at hb;rw[cV,cV] at hb;obtain⟨a1,a2⟩:=AQ hr h ss k ω hb.1;obtain⟨b1,b2⟩:=Gz a1 (ak ss k).bu (ak ss k).bl _ (aJ _) hb.2.2;refine⟨?_,λi hi=>?_⟩
  . have e:(λkd i=>bY (ss.take (k+1)) kd i)=λkd i=>bY (ss.take k) kd i++jN (ak ss k).bu kd i ((ak ss k).bl.take (ak ss k).bl.length):=by
     funext kd i;rw[CU ss k ω,sW];rfl
    rw[e];exact b1
  by_cases c:i=k
  . simp_all [ah9,Gs]
  grind
theorem XU {ss:List cZ} {k:Nat} {kd a:Int} {x:Int×Bool} (h:x∈bY (ss.take k) kd a):x∈bY ss kd a:=by
 grind [oK]
theorem Ot {hs:List bD} (hr:dR hs=true) {nf ns:Nat} {u:List fC×List fC} (h:yB (λ_ _=>[]) nf ns u) (ss:List cZ) (hsp:∀i,i<ss.length->sQ hs nf ns (ak ss i)) (ho:∀kd i,∀x∈bY ss kd i,∀y∈bY ss kd i,x=y):∀k,k<=ss.length->oI hs ss u k=true
 | 0,_=>rfl
 | k+1,hk=>by
  have ih:=Ot hr h ss hsp ho k ω;unfold oI;obtain⟨a1,_⟩:=AQ hr h ss k ω ih;have g:=hsp k ω;rw[ih,aia hr g,ju,ju];refine LU a1 _ _ (Gs.2 ⟨g.MQ,g.m9⟩) (λkd i x hx y hy=>?_) _ (aJ _);have key:∀z,z∈bY (ss.take k) kd i++jN (ak ss k).bu kd i (ak ss k).bl->z∈bY ss kd i:=λz hz=>by
   refine XU (k:=k+1) ?_;rw[CU ss k ω];exact hz
  grind
theorem AZ (f:ko):nk f=true↔f=eG:=by
 unfold nk;rw[iP];constructor
 . rintro⟨h1,h2,h3,h4⟩;obtain⟨⟨⟨d⟩⟩,r,a,b⟩:=f;simp only at h2 h3 h4;subst h2 h3 h4;have:d=[]:=mR h1;subst this;rfl
 rintro rfl;exact⟨rfl,rfl,rfl,rfl⟩
theorem Cn (f:mJ):oa f=true↔f=gP:=by
 unfold oa;rw[iP];constructor
 . rintro⟨h1,h2⟩;obtain⟨⟨⟨d⟩⟩,r⟩:=f;simp only at h2;subst h2;have:d=[]:=mR h1;subst this;rfl
 rintro rfl;exact⟨rfl,rfl⟩
theorem RD (h:zl L u):∀x∈L,∀y∈L,x=y:=λx hx y hy=>(h.2 x hx).trans (h.2 y hy).symm
theorem AO (h:zl L u):u.refs=0↔L=[]:=by
 rw[h.1]
 simp_all
theorem VB (h:zl L u) (f:ko):jZ hs f u=true↔lB hs L f:=by
 unfold jZ;by_cases c:u.refs=0
 . grind [AO,AZ,lB.none,lB.zero]
 have hL:L≠[]:=λe=>c ((AO h).2 e)
 rw[aH c,cV,iP,D3,iP];constructor
 . rintro⟨⟨h1,h2⟩,h3⟩;refine⟨h1.trans h.1,λe=>absurd e hL,RD h,λ_=>h2,λd x hx=>?_⟩;rw[h.2 x hx]
   grind
 intro g;refine⟨⟨g.refs.trans h.1.symm,g.size hL⟩,?_⟩;cases d:f.ja with
 | true=>grind
 | false =>
  obtain⟨x,hx⟩:=Ky _ hL;have:=g.fill d x hx;rw[h.2 x hx] at this
  grind
theorem Vw (h:zl L u) (f:mJ):mr f u=true↔mN L f:=by
 unfold mr;by_cases c:u.refs=0
 . grind [AO,Cn,mN.none,mN.zero]
 have hL:L≠[]:=λe=>c ((AO h).2 e)
 rw[aH c,iP];constructor
 . rintro⟨h1,h2⟩;exact⟨h1.trans h.1,λe=>absurd e hL,RD h,λ_=>h2⟩
 intro g;exact⟨g.refs.trans h.1.symm,g.size hL⟩
theorem Oz (k:aT) (hc:lh k=true):Dz k=true↔bg k:=by
 unfold Dz;simp only[cV,iP,sV,uO];have hz:=Oo k.frames.length k.slots.length;have hn:(λkd i=>bY (k.aj.take k.aj.length) kd i)=λkd i=>bY k.aj kd i:=by grind
 constructor
 . rintro⟨h1,h2,h3,h4,h5,h6⟩;obtain⟨a1,a2⟩:=AQ h1 hz k.aj _ (aJ _) h3;rw[hn] at a1;refine⟨hc,h1,h2,λs hs=>?_,h4,λi hi=>(VB (a1.2.1 i hi) _).1 (h5 i hi),λi hi=>(Vw (a1.2.2 i hi) _).1 (h6 i hi)⟩;obtain⟨j,hj,rfl⟩:=jE rP hs;exact a2 j hj
 intro h;have ho:∀kd i,∀x∈bY k.aj kd i,∀y∈bY k.aj kd i,x=y:=λkd i x hx y hy=>by
  obtain⟨s,hs,e,he,g1,g2,_⟩:=oK.1 hx;obtain⟨j,hj,rfl⟩:=jE rP hs;rcases jO h hj he with b | b
  . have:=(h.Bt e.loc.toNat b.2.2).one x Γ y Γ;omega
  grind [bg.slt,mN.one]
 have hb:=Ot h.m9 hz k.aj (λi hi=>h.sp hi) ho _ (aJ _);obtain⟨a1,_⟩:=AQ h.m9 hz k.aj _ (aJ _) hb;rw[hn] at a1;exact⟨h.m9,h.hand,hb,h.room,λi hi=>(VB (a1.2.1 i hi) _).2 (h.Bt i hi),λi hi=>(Vw (a1.2.2 i hi) _).2 (h.slt i hi)⟩
theorem wV (k:aT):dD k=0↔bg k:=by
 grind [dD,Oz,bg.counts]
end Go.Proofs.YtlgoihmkgaaemaaGreat
