import Derived.Test.YtpgifpeohlllfaaGreatGV03
set_option maxHeartbeats 20000000
set_option linter.unusedVariables false
set_option maxRecDepth 100000
set_option linter.unusedSimpArgs false
namespace Go.Proofs.YtpgifpeohlllfaaGreat
namespace Go.Proofs.YtpgifpeohlllfaaGreat
open Go.RowKit
theorem PU {i:Int} {es:List bC} (h:jw es) (p:Int):bD (tM i es) p=(bD es p).filter fun e=>!kr i e:=by
 cases g:bD es p with
 | none=>grind [ui,yS]
 | some e =>
  have he:=(iy h).1 g;by_cases c:e.kind=1/\e.loc=i
  · rw[Option.filter_some,xk.2 c,bl (by simp),ui];intro x hx hp;have hx:=yS.1 hx;have:some x=some e:=((iy h).2 ⟨hx.1,hp⟩).symm.trans g
    grind
  grind [oJ,iy,Mv,yS]
theorem Mp {i s:Int} {es:List bC} (h:jw es) (p:Int):bD (jI i s es) p=(bD es p).map fun e=>if kr i e then ⟨e.page,2,s⟩ else e:=by
 cases g:bD es p with
 | none =>
  grind [ui,Aj]
 | some e =>
  grind [iy,JH,Aj,oJ]
theorem qi (f:dm->dm) (l:List dm) (j:Nat) (hj:j<l.length):ak (l.map f) j=f (ak l j):=Mx f uP uP l j hj
structure fQ (k k':aN):Prop where
 aA:k'.aA=k.aA
 nf:k'.frames.length=k.frames.length
 ns:k'.slots.length=k.slots.length
 np:k'.aj.length=k.aj.length
 live:∀j,j<k.aj.length->(ak k'.aj j).live=(ak k.aj j).live
 aZ:∀j,j<k.aj.length->(ak k'.aj j).aZ=(ak k.aj j).aZ
 QP:∀j,j<k.aj.length->∀p,cQ k' j p=cQ k j p
theorem fQ.refl (k:aN):fQ k k:=⟨rfl,rfl,rfl,rfl,fun _ _=>rfl,fun _ _=>rfl,fun _ _ _=>rfl⟩
theorem fQ.trans {a b c:aN} (h:fQ a b) (g:fQ b c):fQ a c :=
 ⟨g.aA.trans h.aA,g.nf.trans h.nf,g.ns.trans h.ns,g.np.trans h.np,fun j hj=>(g.live j (by grind [np])).trans (h.live j hj),fun j hj=>(g.aZ j (by grind [np])).trans (h.aZ j hj),fun j hj p=>(g.QP j (by grind [np]) p).trans (h.QP j hj p)⟩
theorem VF {k:aN} (h:bg k) {i:Nat} (hi:i<k.frames.length) (hd:(au k.frames i).fN=false):fQ k (xm k i):=by
 refine⟨rfl,jk,rfl,Cm ..,fun j hj=>?_,fun j hj=>?_,fun j hj p=>?_⟩
 · show(ak (k.aj.map (mD i)) j).live=_;rw[qi _ _ _ hj];rfl
 · show(ak (k.aj.map (mD i)) j).aZ=_;rw[qi _ _ _ hj];rfl
 · have hsp:=h.sp hj;unfold cQ;show(match bD (ak (k.aj.map (mD i)) j).aW p with
    | some e=>if e.kind=1 then (au (k.frames.set i gD) e.loc.toNat).data else (bw k.slots e.loc.toNat).data
    | none=>eH k.aA p (aV (ak (k.aj.map (mD i)) j).aZ p).1.zero)=_
   rw[qi _ _ _ hj];show(match bD (tM i (ak k.aj j).aW) p with
    | some e=>if e.kind=1 then (au (k.frames.set i gD) e.loc.toNat).data else (bw k.slots e.loc.toNat).data
    | none=>eH k.aA p (aV (ak k.aj j).aZ p).1.zero)=_
   rw[PU hsp.lQ];cases g:bD (ak k.aj j).aW p with
   | none=>rfl
   | some e =>
    have he:=(iy hsp.lQ).1 g;have hb:=iQ h hj he.1;by_cases c:e.kind=1/\e.loc=(i:Int)
    · rw[Option.filter_some,xk.2 c,bl (by simp)];show _=if e.kind=1 then _ else _
      rw[bf c.1,show e.loc.toNat=i by omega];have:=jZ hj he.1;rw[c.1,c.2] at this;have:=(h.zS i hi).fill hd _ this
      grind
    grind [oJ,jc]
theorem Vo {k:aN} (h:bg k) {i s:Nat} (hi:i<k.frames.length) (hs:s<k.slots.length) (hf:cO k.aj 2 s=[]):fQ k (EE k i s):=by
 refine⟨rfl,jk,jk,Cm ..,fun j hj=>?_,fun j hj=>?_,fun j hj p=>?_⟩
 · show(ak (k.aj.map (jq i s)) j).live=_;rw[qi _ _ _ hj];rfl
 · show(ak (k.aj.map (jq i s)) j).aZ=_;rw[qi _ _ _ hj];rfl
 · have hsp:=h.sp hj;unfold cQ;show(match bD (ak (k.aj.map (jq i s)) j).aW p with
    | some e=>if e.kind=1 then (au (k.frames.set i gD) e.loc.toNat).data else (bw (k.slots.set s ⟨(au k.frames i).data,(au k.frames i).refs⟩) e.loc.toNat).data
    | none=>eH k.aA p (aV (ak (k.aj.map (jq i s)) j).aZ p).1.zero)=_
   rw[qi _ _ _ hj];show(match bD (jI i s (ak k.aj j).aW) p with
    | some e=>if e.kind=1 then (au (k.frames.set i gD) e.loc.toNat).data else (bw (k.slots.set s ⟨(au k.frames i).data,(au k.frames i).refs⟩) e.loc.toNat).data
    | none=>eH k.aA p (aV (ak k.aj j).aZ p).1.zero)=_
   rw[Mp hsp.lQ]
   grind [bD,iQ,xe,oJ,jc,jZ]
theorem R4 {k:aN} (h:bg k) {i:Nat} (hi:i<k.frames.length) (hr:(au k.frames i).refs≠0):fQ k (dZ k i):=by
 grind [dZ,Vo,VF,bg.slot]
theorem R7 (k:aN) (i:Nat):cO (dZ k i).aj 1 i=[]:=by
 unfold dZ;by_cases c:(au k.frames i).fN=true
 · rw[bf c];cases tq k.slots with
   | none=>exact pC (mD i) 1 i _ (fun s _=>wF s.aZ i s.aW)
   | some s=>exact pC (jq i s) 1 i _ (fun sp _=>EL sp.aZ i s sp.aW)
 · rw[bl c];exact pC (mD i) 1 i _ (fun s _=>wF s.aZ i s.aW)
theorem DC (k:aN) (i:Nat):(dZ k i).frames=k.frames.set i gD/\(dZ k i).hand=k.hand:=by
 unfold dZ;by_cases c:(au k.frames i).fN=true
 · rw[bf c];cases tq k.slots with
   | none=>exact⟨rfl,rfl⟩
   | some s=>exact⟨rfl,rfl⟩
 · rw[bl c];exact⟨rfl,rfl⟩
theorem VJ {k:aN} (h:bg k) (i:Nat) {j:Nat} (hj:j<k.aj.length) (p:Int) (hn:∀e,bD (ak k.aj j).aW p=some e->¬(e.kind=1/\e.loc=(i:Int))):bD (ak (dZ k i).aj j).aW p=bD (ak k.aj j).aW p:=by
 have hr:=(h.sp hj).lQ;have hD:bD (ak (k.aj.map (mD i)) j).aW p=bD (ak k.aj j).aW p:=by
  rw[qi _ _ _ hj];show bD (tM i (ak k.aj j).aW) p=_;rw[PU hr];cases g:bD (ak k.aj j).aW p with
  | none=>rfl
  | some e=>grind [oJ]
 unfold dZ;by_cases c:(au k.frames i).fN=true
 · rw[bf c];cases tq k.slots with
   | none=>exact hD
   | some s =>
    show bD (ak (k.aj.map (jq i s)) j).aW p=_;rw[qi _ _ _ hj];show bD (jI i s (ak k.aj j).aW) p=_;rw[Mp hr];cases g:bD (ak k.aj j).aW p with
    | none=>rfl
    | some e=>grind [oJ]
 · rw[bl c];exact hD
theorem RZ {k:aN} (h:bg k) {i:Nat} (hi:i<k.frames.length) (hr:(au k.frames i).refs≠0) (n:Nat) (hn:cO k.aj 2 n≠[]):bw (dZ k i).slots n=bw k.slots n:=by
 unfold dZ;by_cases c:(au k.frames i).fN=true
 · rw[bf c];obtain⟨s,h1,h2,h3⟩:=h.slot hi hr;rw[h1];show bw (k.slots.set s _) n=_
   grind [xe]
 · rw[bl c];rfl
theorem CZ {k:aN} {j:Nat} {p:Int} {i:Nat} {d:ByteArray} {dy:Bool} (m:j4 k j p i d dy) (hd:d=cQ k j p):fQ k (fe k j p i d dy):=by
 have h:=m.right;have hsp:=h.sp m.hj;have hR:=wH m;obtain⟨f1,f2,f3,f4,f5,f6,f7⟩:=oH k j p i d dy m;have hat:∀n,ak (fe k j p i d dy).aj n=if j=n then dX (ak k.aj j) (jJ (ak k.aj j).aW ⟨p,1,i⟩) else ak k.aj n:=fun n=>by grind [ja,j4.hj]
 have G0:(fe k j p i d dy).aj.length=k.aj.length:=by grind
 refine⟨f3,f1,f2,G0,fun n hn=>?_,fun n hn=>?_,fun n hn q=>?_⟩
 · rw[hat];by_cases c:j=n
   · rw[bf c,<- c];rfl
   grind
 · rw[hat];by_cases c:j=n
   · rw[bf c,<- c];rfl
   grind
 · have apW:(ak (fe k j p i d dy).aj n).aZ=(ak k.aj n).aZ:=by
    rw[hat];by_cases c:j=n
    · rw[bf c,<- c];rfl
    grind
   have hent:bD (ak (fe k j p i d dy).aj n).aW q=if j=n/\q=p then some ⟨p,1,i⟩ else bD (ak k.aj n).aW q:=by
    rw[hat];by_cases c:j=n
    · rw[bf c];show bD (jJ (ak k.aj j).aW ⟨p,1,i⟩) q=_;rw[PT hsp.lQ]
      grind
    grind
   by_cases c:j=n/\q=p
   · grind [cQ]
   · rw[bl c] at hent;have hn':n<(fe k j p i d dy).aj.length:=by omega
     have apd:=h.sp hn;unfold cQ;rw[hent,apW,f3];cases g:bD (ak k.aj n).aW q with
     | none=>rfl
     | some e =>
      have he:=(iy apd.lQ).1 g;have hb:=iQ h hn he.1;have he':=(iy (hR.sp hn').lQ).1 (hent.trans g);have Kr:=jZ hn' he'.1;have avq:=jZ hn he.1;show(if e.kind=1 then _ else _)=if e.kind=1 then _ else _
      by_cases c1:e.kind=1
      · rw[bf c1,bf c1,f6];have hb:=hb.resolve_right (fun x=>by omega);have hni:e.loc.toNat≠i:=fun e1=>by
         grind [j4.free]
        rw[bl hni];have hF:=hR.zS e.loc.toNat (by omega);rw[f6,bl hni] at hF;have hne:cO (fe k j p i d dy).aj 1 (e.loc.toNat:Int)≠[]:=fun e1=>by
         grind
        cases g2:bD (ak k.aj j).aW p with
        | none=>rfl
        | some e2 =>
         rw[g2] at hF;have hF:lK _ _ (if e2.kind=1/\e2.loc=(e.loc.toNat:Int) then nO (au k.frames e.loc.toNat) else au k.frames e.loc.toNat):=hF;show(if e2.kind=1/\e2.loc=(e.loc.toNat:Int) then nO (au k.frames e.loc.toNat) else au k.frames e.loc.toNat).data=_;by_cases c3:e2.kind=1/\e2.loc=(e.loc.toNat:Int)
         · rw[bf c3] at hF ⊢;unfold nO at hF ⊢;by_cases c4:(au k.frames e.loc.toNat).refs-1=0
           · rw[bf c4] at hF;exact absurd (hF.nil rfl) hne
           grind
         grind
      · rw[bl c1,bl c1,f7];have hb:=hb.resolve_left (fun x=>c1 x.1);have hF:=hR.slt e.loc.toNat (by omega);rw[f7] at hF;have hne:cO (fe k j p i d dy).aj 2 (e.loc.toNat:Int)≠[]:=fun e1=>by
         grind
        cases g2:bD (ak k.aj j).aW p with
        | none=>rfl
        | some e2 =>
         rw[g2] at hF;have hF:mY _ (if e2.kind=2/\e2.loc=(e.loc.toNat:Int) then pd (bw k.slots e.loc.toNat) else bw k.slots e.loc.toNat):=hF;show(if e2.kind=2/\e2.loc=(e.loc.toNat:Int) then pd (bw k.slots e.loc.toNat) else bw k.slots e.loc.toNat).data=_;by_cases c3:e2.kind=2/\e2.loc=(e.loc.toNat:Int)
         · rw[bf c3] at hF ⊢;unfold pd at hF ⊢;by_cases c4:(bw k.slots e.loc.toNat).refs-1=0
           · rw[bf c4] at hF;exact absurd (hF.nil rfl) hne
           grind
         grind
def gM (k:aN):Int:=(k.hand+1)%(k.frames.length:Int)
def kG (held:List Int) (k:aN):Bool:=held.contains k.hand || (au k.frames k.hand.toNat).seen
def vI (f:kj):kj:={ f with seen:=false }
def iO (held:List Int) (k:aN):aN:={ k with hand:=gM k,frames:=if held.contains k.hand then k.frames else k.frames.set k.hand.toNat (vI (au k.frames k.hand.toNat)) }
def bJ (held:List Int):Nat->aN->aN
 | 0,k=>k
 | n+1,k=>iO held (bJ held n k)
def nA (held:List Int):Nat->aN->aN
 | 0,k=>k
 | n+1,k=>if kG held k then nA held n (iO held k) else k
def yg (k:aN):Prop:=∀i,i<k.frames.length->(au k.frames i).refs≠0
theorem PN (held:List Int) (k:aN):(iO held k).frames.length=k.frames.length:=by
 grind [iO]
theorem PO (held:List Int) {k:aN} (hh:0<=k.hand/\k.hand<k.frames.length) (n:Nat):au (iO held k).frames n=if (n:Int)=k.hand/\held.contains k.hand=false then vI (au k.frames n) else au k.frames n:=by
 grind [iO,jc]
theorem Hm {k:aN} (h3:3<=k.frames.length):0<=gM k/\gM k<k.frames.length:=⟨Int.emod_nonneg _ (by omega),Int.emod_lt_of_pos _ (by omega)⟩
theorem RG (held:List Int) {k:aN} (h:bg k) (hf:yg k):bg (iO held k)/\yg (iO held k)/\fQ k (iO held k)/\(iO held k).aj=k.aj/\(iO held k).slots=k.slots:=by
 have h3:=h.c.1.1;have hn:=Hm h3;have hat:=PO held h.hand;refine⟨?_,fun i hi=>?_,⟨rfl,PN held k,rfl,rfl,fun _ _=>rfl,fun _ _=>rfl,fun j hj p=>?_⟩,rfl,rfl⟩
 · unfold iO;by_cases c:held.contains k.hand=true
   · grind [bg.turn]
   · rw[bl c];have hi:k.hand.toNat<k.frames.length:=by have:=h.hand;omega
     have:=(h.zS _ hi);have g:=h.frame (this.seen false (this.ne (hf _ hi)));exact bg.turn g (x:=gM k) (by grind)
 · rw[PN] at hi;rw[hat];have:=hf i hi;by_cases c:(i:Int)=k.hand/\held.contains k.hand=false
   · rw[bf c];exact this
   grind
 · unfold cQ;show(match bD (ak k.aj j).aW p with
    | some e=>if e.kind=1 then (au (iO held k).frames e.loc.toNat).data else (bw k.slots e.loc.toNat).data
    | none=>_)=_
   have avZ:∀n,(au (iO held k).frames n).data=(au k.frames n).data:=fun n=>by
    rw[hat];by_cases c:(n:Int)=k.hand/\held.contains k.hand=false
    · rw[bf c];rfl
    grind
   grind [iO]
structure FT (held:List Int) (k:aN) (n:Nat):Prop where
 right:bg (bJ held n k)
 full:yg (bJ held n k)
 kept:fQ k (bJ held n k)
 aj:(bJ held n k).aj=k.aj
 slots:(bJ held n k).slots=k.slots
 hand:(bJ held n k).hand=(k.hand+n)%(k.frames.length:Int)
 L5:∀i:Nat,(i:Int)∈held->au (bJ held n k).frames i=au k.frames i
 past:∀m:Nat,m<n->∀i:Nat,(i:Int)=(k.hand+m)%(k.frames.length:Int)->(i:Int)∈held∨(au (bJ held n k).frames i).seen=false
theorem BC (held:List Int) {k:aN} (h:bg k) (hf:yg k):∀n,FT held k n
 | 0=>⟨h,hf,fQ.refl k,rfl,rfl,by have:=h.hand;show k.hand=(k.hand+((0:Nat):Int))%_;grind [Int.emod_eq_of_lt],fun _ _=>rfl,fun m hm=>by omega⟩
 | n+1=>by
  have t:=BC held h hf n;obtain⟨s1,s2,s3,s4,s5⟩:=RG held t.right t.full;have hat:=PO held t.right.hand;have rU:=t.kept.nf;refine⟨s1,s2,t.kept.trans s3,s4.trans t.aj,s5.trans t.slots,?_,fun i hi=>?_,fun m hm i hi=>?_⟩
  · show gM (bJ held n k)=_;unfold gM;rw[rU,t.hand,Int.emod_add_emod]
    grind
  · grind [bJ,FT.L5]
  · show _∨(au (iO held (bJ held n k)).frames i).seen=false;rw[hat];by_cases c:(i:Int)=(bJ held n k).hand/\held.contains (bJ held n k).hand=false
    · rw[bf c];exact .inr rfl
    · rw[bl c];by_cases d:m=n
      · grind [FT.hand]
      · exact t.past m (by omega) i hi
theorem aeV {held:List Int} (hl:held.length<=2) (a b c:Int) (h1:a≠b) (h2:a≠c) (h3:b≠c):a∉held∨b∉held∨c∉held:=by
 by_cases ha:a∈held
 · by_cases hb:b∈held
   · right;right;intro hc;have l1:=List.length_erase_of_mem ha;have hb':b∈held.erase a:=(NZ (fun e=>h1 e.symm)).2 hb;have hc':c∈held.erase a:=(NZ (fun e=>h2 e.symm)).2 hc;have l2:=List.length_erase_of_mem hb';have hc'':c∈(held.erase a).erase b:=(NZ (fun e=>h3 e.symm)).2 hc'
     grind
   grind
 grind
theorem C2 {x n:Int} (h0:0<=x) (h1:x<2*n) (hn:0<n):(x<n/\x%n=x)∨(n<=x/\x%n=x-n):=by
 by_cases c:x<n
 · grind [Int.emod_eq_of_lt]
 · right;refine⟨by omega,?_⟩;rw[<- Int.sub_emod_right x n];exact agn (by omega) (by omega)
theorem A5 (held:List Int) (hl:held.length<=2) {k:aN} (h:bg k) (hf:yg k):∃T,T<=66/\(∀m,m<T->kG held (bJ held m k)=true)/\kG held (bJ held T k)=false:=by
 have hN:=h.c.1;have hex:∃T,T<=66/\kG held (bJ held T k)=false:=by
  have hh:=h.hand;obtain⟨N,hNe⟩:∃N:Int,N=(k.frames.length:Int):=⟨_,rfl⟩;have hit:∀x:Nat,x<3->(k.hand+x)%N∉held->∃T,T<=66/\kG held (bJ held T k)=false:=fun x hx hno=>by
   have t:=BC held h hf (k.frames.length+x);have hm:0<=(k.hand+x)%N/\(k.hand+x)%N<N:=⟨Int.emod_nonneg _ (by omega),Int.emod_lt_of_pos _ (by omega)⟩;have alI:(bJ held (k.frames.length+x) k).hand=(k.hand+x)%N:=by
    grind [Int.add_emod_right,FT.hand]
   refine⟨k.frames.length+x,by omega,?_⟩;unfold kG;rw[alI];have hi:(((k.hand+x)%N).toNat:Int)=(k.hand+x)%N:=by omega
   have:=t.past x (by omega) ((k.hand+x)%N).toNat (by grind)
   grind
  have d0:=C2 (x:=k.hand+(0:Nat)) (n:=N) (by omega) (by omega) (by omega);have d1:=C2 (x:=k.hand+(1:Nat)) (n:=N) (by omega) (by omega) (by omega);have d2:=C2 (x:=k.hand+(2:Nat)) (n:=N) (by omega) (by omega) (by omega);rcases aeV hl ((k.hand+(0:Nat))%N) ((k.hand+(1:Nat))%N) ((k.hand+(2:Nat))%N) (by omega) (by omega) (by omega) with g | g | g
  · grind
  · exact hit 1 (by omega) g
  grind
 obtain⟨T,hT,hp⟩:=hex;clear hN;induction T using Nat.strongRecOn with
 | _ T ih =>
  grind
theorem A4 (held:List Int):∀(T n:Nat) (k:aN),T<=n->(∀m,m<T->kG held (bJ held m k)=true)->kG held (bJ held T k)=false->nA held (n+1) k=bJ held T k:=fun T=>by
 have shift:∀m k,bJ held m (iO held k)=bJ held (m+1) k:=fun m k=>by
  induction m with
  | zero=>rfl
  | succ m ih=>show iO held _=iO held _;rw[ih]
 induction T with
 | zero =>
  intro n k _ _ h;show(if kG held k then _ else k)=k;rw[bl (by rw[show kG held k=false from h];simp)]
 | succ T ih =>
  intro n k hn h1 h2;obtain⟨n,rfl⟩:∃m,n=m+1:=⟨n-1,by omega⟩;show(if kG held k then nA held (n+1) (iO held k) else k)=_;rw[bf (show kG held k=true from h1 0 (by omega)),ih n (iO held k) (by omega) (fun m hm=>by grind) (by grind),shift]
def bH (k:aN) (held:List Int):Nat×aN:=match qK k.frames with
 | some i=>(i,k)
 | none=>((nA held 70 k).hand.toNat,{ dZ (nA held 70 k) (nA held 70 k).hand.toNat with hand:=gM (nA held 70 k) })
structure pY (k:aN) (held:List Int) (g:Nat×aN):Prop where
 right:bg g.2
 kept:fQ k g.2
 lt:g.1<k.frames.length
 free:cO g.2.aj 1 g.1=[]
 L5:∀i:Nat,(i:Int)∈held->(au k.frames i).refs≠0->i≠g.1/\au g.2.frames i=au k.frames i
 FC:∀j,j<k.aj.length->∀p,(∀e,bD (ak k.aj j).aW p=some e->¬(e.kind=1/\e.loc=(g.1:Int)))->bD (ak g.2.aj j).aW p=bD (ak k.aj j).aW p
 slot:∀n:Nat,cO k.aj 2 n≠[]->bw g.2.slots n=bw k.slots n
theorem mK {k:aN} (h:bg k) {held:List Int} (hl:held.length<=2):pY k held (bH k held):=by
 unfold bH;cases hf:qK k.frames with
 | some i =>
  obtain⟨h1,h2,_⟩:=Fy.1 hf;have hr:(au k.frames i).refs=0:=by
   grind [au]
  exact⟨h,fQ.refl k,h1,(h.zS i h1).nil hr,fun n _ hn=>⟨fun e=>hn (by grind),rfl⟩,fun j _ p _=>rfl,fun _ _=>rfl⟩
 | none =>
  have hF:yg k:=fun i hi hr=>by
   have:=N7.1 hf (au k.frames i) (jD hi)
   grind
  obtain⟨T,hT,t1,t2⟩:=A5 held hl h hF;have hc:nA held 70 k=bJ held T k:=A4 held T 69 k (by omega) t1 t2;rw[hc];have t:=BC held h hF T;obtain⟨k1,hk1⟩:=ex (bJ held T k);have tr:=t.right;have tf:=t.full;have tk:=t.kept;have ts:=t.aj;have tl:=t.slots;have th:=t.L5;rw[<- hk1] at t2 tr tf tk ts tl th ⊢;obtain⟨i,hi⟩:=ex k1.hand.toNat
  have hh:=tr.hand;have hi1:i<k1.frames.length:=by omega
  have hr:=tf i hi1;have a1:=tr.aside hi1 hr;have a2:=R4 tr hi1 hr;have h3:=tr.c.1.1;have a3:(dZ k1 i).frames.length=k1.frames.length:=a2.nf;rw[<- hi];have hb:bg { dZ k1 i with hand:=gM k1 }:=a1.turn (by simp_all [Hm]);have hkk:fQ (dZ k1 i) { dZ k1 i with hand:=gM k1 }:=⟨rfl,rfl,rfl,rfl,fun _ _=>rfl,fun _ _=>rfl,fun _ _ _=>rfl⟩;have rU:=tk.nf;refine⟨hb,tk.trans (a2.trans hkk),by grind,R7 k1 i,fun n hn _=>?_,fun j hj p he=>?_,fun n hn=>?_⟩
  · grind [kG,DC,jc]
  · grind [VJ]
  grind [RZ]
def kq (k:aN) (j:Nat) (p:Int):Bool:=(aV (ak k.aj j).aZ p).1.zero
def cV (k:aN) (j:Nat) (p:Int):Prop:=(aV (ak k.aj j).aZ p).2=true
def di (k:aN) (j:Nat) (p:Int) (held:List Int):Nat×aN:=match bD (ak k.aj j).aW p with
 | some e=>if e.kind=1 then (e.loc.toNat,k) else ((bH k held).1,fe (bH k held).2 j p (bH k held).1 (bw (bH k held).2.slots e.loc.toNat).data true)
 | none=>((bH k held).1,fe (bH k held).2 j p (bH k held).1 (eH (bH k held).2.aA p (kq (bH k held).2 j p)) false)
def jz (k:aN) (j:Nat) (p:Int) (a:Nat) (held:List Int):Nat×aN:=if (au k.frames a).refs=1 then (a,k) else ((bH k (held++[(a:Int)])).1,fe (bH k (held++[(a:Int)])).2 j p (bH k (held++[(a:Int)])).1 (au (bH k (held++[(a:Int)])).2.frames a).data true)
def sD (way:Int) (f:kj):kj:=⟨f.data,f.refs,f.fN || decide (way=1),true⟩
def PW (k:aN) (way:Int) (i:Nat):aN:={ k with frames:=k.frames.set i (sD way (au k.frames i)) }
def gX (k:aN) (j:Nat) (p way:Int) (held:List Int):Nat×aN:=if way=1 then jz (di k j p held).2 j p (di k j p held).1 held else di k j p held
def dD (k:aN) (j:Nat) (p way:Int) (held:List Int):Nat×aN:=((gX k j p way held).1,PW (gX k j p way held).2 way (gX k j p way held).1)
structure fZ (k:aN) (j:Nat) (p:Int) (held:List Int) (r:Nat×aN):Prop where
 right:bg r.2
 kept:fQ k r.2
 lt:r.1<k.frames.length
 here:bD (ak r.2.aj j).aW p=some ⟨p,1,r.1⟩
 stay:∀j',j'<k.aj.length->∀q e,bD (ak k.aj j').aW q=some e->e.kind=1->e.loc∈held->¬(j'=j/\q=p)->bD (ak r.2.aj j').aW q=some e
theorem sA {k:aN} {j:Nat} {p:Int} {i:Nat} {d:ByteArray} {dy:Bool} (m:j4 k j p i d dy) (n:Nat) (q:Int):bD (ak (fe k j p i d dy).aj n).aW q=if j=n/\q=p then some ⟨p,1,i⟩ else bD (ak k.aj n).aW q:=by
 obtain⟨_,_,_,_,f5,_,_⟩:=oH k j p i d dy m;rw[f5,ja _ _ _ _ m.hj];by_cases c:j=n
 · rw[bf c];show bD (jJ (ak k.aj j).aW ⟨p,1,i⟩) q=_;rw[PT (m.right.sp m.hj).lQ]
   grind
 grind
theorem pY.stay {k:aN} (h:bg k) {held:List Int} {g:Nat×aN} (G:pY k held g) {j:Nat} (hj:j<k.aj.length) {q:Int} {e:bC} (he:bD (ak k.aj j).aW q=some e) (hn:e.kind=1->e.loc∈held):bD (ak g.2.aj j).aW q=some e:=by
 have hm:=(iy (h.sp hj).lQ).1 he;rw[G.FC j hj q ?_,he];intro x hx c;rw[he] at hx;injection hx with hx;subst hx;have hb:=(iQ h hj hm.1).resolve_right (fun y=>by omega);have hne:(au k.frames e.loc.toNat).refs≠0:=fun z=>by
  have:=jZ hj hm.1;rw[c.1,<- hb.2.1,(h.zS _ hb.2.2).nil z] at this
  grind
 have:=(G.L5 e.loc.toNat (by grind) hne).1;omega
theorem pY.mapped {k:aN} {held:List Int} {g:Nat×aN} (G:pY k held g) {j:Nat} (hj:j<k.aj.length) {p:Int} (hp:cV k j p):(aV (ak g.2.aj j).aZ p).2=true:=by rw[G.kept.aZ j hj];exact hp
theorem ET (hs:List bM) (hr:fJ hs=true) (p:Int) (h:(dJ hs p).isSome=true):(fM hs p).size=16:=by
 unfold fM;cases g:dJ hs p with
 | none=>grind
 | some s =>
  have hm:s∈hs:=N1 g;obtain⟨i,hi,e⟩:=jb xy hm;have hb:=(qq hs hs.length hr i hi).1;rw[show bj hs i=s from e] at hb;unfold cR lh at hb;simp only[dR,iV] at hb;exact uH s.data s.dn hb.1.2.2 s.dn.length hb.2
theorem C5 {k:aN} (h:bg k) {j:Nat} (hj:j<k.aj.length) {p:Int} (hp:cV k j p):(eH k.aA p (kq k j p)).size=16:=by
 unfold eH;cases z:kq k j p with
 | true=>rfl
 | false=>exact ET _ h.lQ p ((h.sp hj).aA p hp z)
theorem uR {k:aN} (h:bg k) {j:Nat} (hj:j<k.aj.length) {p:Int} (hp:cV k j p) {held:List Int} (hl:held.length<=2):fZ k j p held (di k j p held):=by
 have hsp:=h.sp hj;have G:=mK h hl;unfold di;cases g:bD (ak k.aj j).aW p with
 | none =>
  dsimp only;have hent:bD (ak (bH k held).2.aj j).aW p=none:=by grind [pY.FC]
  have hpk:eH (bH k held).2.aA p (kq (bH k held).2 j p)=cQ (bH k held).2 j p:=by unfold cQ;rw[hent];rfl
  have hj':j<(bH k held).2.aj.length:=by rw[G.kept.np];exact hj
  have m:j4 (bH k held).2 j p (bH k held).1 (eH (bH k held).2.aA p (kq (bH k held).2 j p)) false:=⟨G.right,hj',G.mapped hj hp,by rw[G.kept.nf];exact G.lt,G.free,C5 G.right hj' (G.mapped hj hp),fun _=>rfl⟩;refine⟨wH m,G.kept.trans (CZ m hpk),G.lt,by grind [sA],fun j' hj2 q e he hk hin hne=>?_⟩
  grind [sA,pY.stay]
 | some e =>
  have he:=(iy hsp.lQ).1 g;dsimp only;by_cases c:e.kind=1
  · rw[bf c];have hb:=(iQ h hj he.1).resolve_right (fun y=>by omega);refine⟨h,fQ.refl k,hb.2.2,?_,fun j' hj2 q e he hk hin hne=>he⟩;show bD (ak k.aj j).aW p=some ⟨p,1,(e.loc.toNat:Int)⟩;rw[g,hb.2.1,<- c,<- he.2]
  · rw[bl c];have hb:=(iQ h hj he.1).resolve_left (fun y=>c y.1);have hent:bD (ak (bH k held).2.aj j).aW p=some e:=by grind [pY.FC]
    have hj':j<(bH k held).2.aj.length:=by rw[G.kept.np];exact hj
    have he':=(iy (G.right.sp hj').lQ).1 hent;have hpk:(bw (bH k held).2.slots e.loc.toNat).data=cQ (bH k held).2 j p:=by grind [cQ]
    have hsz:(bw (bH k held).2.slots e.loc.toNat).data.size=16:=(G.right.slt e.loc.toNat (by grind [pY.kept,fQ.ns])).size (fun z=>by
     grind [jZ])
    have m:j4 (bH k held).2 j p (bH k held).1 (bw (bH k held).2.slots e.loc.toNat).data true:=⟨G.right,hj',G.mapped hj hp,by rw[G.kept.nf];exact G.lt,G.free,hsz,fun y=>by cases y⟩;refine⟨wH m,G.kept.trans (CZ m hpk),G.lt,by grind [sA],fun j' hj2 q e he hk hin hne=>?_⟩
    grind [sA,pY.stay]
theorem JS {k:aN} (h:bg k) {j:Nat} (hj:j<k.aj.length) {p:Int} (hp:cV k j p) {a:Nat} (ha:bD (ak k.aj j).aW p=some ⟨p,1,a⟩) {held:List Int} (hl:held.length<=1):fZ k j p held (jz k j p a held)/\(au (jz k j p a held).2.frames (jz k j p a held).1).refs=1:=by
 have hsp:=h.sp hj;have he:=(iy hsp.lQ).1 ha;have hb:=(iQ h hj he.1).resolve_right (fun y=>by grind);have hat:a<k.frames.length:=by grind
 unfold jz;by_cases c:(au k.frames a).refs=1
 · rw[bf c];exact⟨⟨h,fQ.refl k,hat,ha,fun j' hj2 q e he hk hin hne=>he⟩,c⟩
 · rw[bl c];have G:=mK h (held:=held++[(a:Int)]) (by grind);obtain⟨g,hg⟩:=ex (bH k (held++[(a:Int)]));rw[<- hg] at G ⊢;have hent:bD (ak g.2.aj j).aW p=some ⟨p,1,a⟩:=G.stay h hj ha (fun _=>lT.2 (.inr (by simp)));have hj':j<g.2.aj.length:=by rw[G.kept.np];exact hj
   have he':=(iy (G.right.sp hj').lQ).1 hent;have hpk:(au g.2.frames a).data=cQ g.2 j p:=by grind [cQ]
   have hsz:(au g.2.frames a).data.size=16:=(G.right.zS a (by rw[G.kept.nf];exact hat)).size (fun z=>by
    have:=jZ hj' he'.1
    grind)
   have m:j4 g.2 j p g.1 (au g.2.frames a).data true:=⟨G.right,hj',G.mapped hj hp,by rw[G.kept.nf];exact G.lt,G.free,hsz,fun y=>by cases y⟩;refine⟨⟨wH m,G.kept.trans (CZ m hpk),G.lt,by grind [sA],fun j' hj2 q e he hk hin hne=>?_⟩,?_⟩
   · grind [sA,pY.stay]
   grind [oH]
theorem YD {k:aN} {j:Nat} {p:Int} {held:List Int} {r:Nat×aN} (b:fZ k j p held r) (hj:j<k.aj.length) (way:Int):fZ k j p held (r.1,PW r.2 way r.1):=by
 have h:=b.right;have hlt:r.1<r.2.frames.length:=by rw[b.kept.nf];exact b.lt
 have hj':j<r.2.aj.length:=by rw[b.kept.np];exact hj
 have he:=(iy (h.sp hj').lQ).1 b.here;have hL:cO r.2.aj 1 r.1≠[]:=fun z=>by
  have:=jZ hj' he.1
  grind
 have hf:=h.zS r.1 hlt;have hR:bg (PW r.2 way r.1):=h.frame (f:=sD way (au r.2.frames r.1)) ⟨hf.refs,fun e=>absurd e hL,hf.one,hf.size,fun d=>hf.fill (by
  have d:((au r.2.frames r.1).fN || decide (way=1))=false:=d
  grind)⟩
 refine⟨hR,b.kept.trans ⟨rfl,jk,rfl,rfl,fun _ _=>rfl,fun _ _=>rfl,fun n hn q=>?_⟩,b.lt,b.here,b.stay⟩;unfold cQ;show(match bD (ak r.2.aj n).aW q with
  | some e=>if e.kind=1 then (au (r.2.frames.set r.1 (sD way (au r.2.frames r.1))) e.loc.toNat).data else (bw r.2.slots e.loc.toNat).data
  | none=>_)=_
 cases bD (ak r.2.aj n).aW q with
 | none=>rfl
 | some e =>
  show(if e.kind=1 then _ else _)=if e.kind=1 then _ else _
  rw[jc _ _ _ _ hlt];by_cases c:r.1=e.loc.toNat
  · rw[bf c,<- c];rfl
  grind
theorem fZ.trans {k:aN} {j:Nat} {p:Int} {held:List Int} {r s:Nat×aN} (a:fZ k j p held r) (b:fZ r.2 j p held s):fZ k j p held s :=
 ⟨b.right,a.kept.trans b.kept,by have:=b.lt;grind [kept,fQ.nf],b.here,fun j' hj' q e he h1 h2 h3=>b.stay j' (by grind [kept,fQ.np]) q e (a.stay j' hj' q e he h1 h2 h3) h1 h2 h3⟩
theorem fQ.mapped {k k':aN} (h:fQ k k') {j:Nat} (hj:j<k.aj.length) {p:Int} (hp:cV k j p):cV k' j p:=by grind [cV,aZ]
theorem nV {k:aN} (h:bg k) {j:Nat} (hj:j<k.aj.length) {p:Int} (hp:cV k j p) (way:Int) {held:List Int} (hl:held.length<=1):fZ k j p held (dD k j p way held)/\(way=1->(au (dD k j p way held).2.frames (dD k j p way held).1).refs=1/\(au (dD k j p way held).2.frames (dD k j p way held).1).fN=true):=by
 have P:=uR h hj hp (held:=held) (by omega);have hT:fZ k j p held (gX k j p way held)/\(way=1->(au (gX k j p way held).2.frames (gX k j p way held).1).refs=1):=by
  grind [gX,JS,fZ.right,fZ.kept,fQ.np,fQ.mapped,fZ.here,fZ.trans]
 refine⟨YD hT.1 hj way,fun c=>?_⟩;have hlt:(gX k j p way held).1<(gX k j p way held).2.frames.length:=by rw[hT.1.kept.nf];exact hT.1.lt
 have e:au (dD k j p way held).2.frames (dD k j p way held).1=sD way (au (gX k j p way held).2.frames (gX k j p way held).1):=by
  show au ((gX k j p way held).2.frames.set _ _) (gX k j p way held).1=_
  grind [jc]
 grind [sD]
structure fK where
 refs:Int
 page:Int
 zero:Bool
def eB:fK:=⟨0,0,false⟩
def dO (l:List fK) (i:Nat):fK:=l.getD i eB
def oG (us:List fK) (e:bC) (z:Bool):Bool:=decide (0<=e.loc/\e.loc<(us.length:Int))&&!(decide (0<(dO us e.loc.toNat).refs)&&(decide ((dO us e.loc.toNat).page≠e.page) || (dO us e.loc.toNat).zero != z))
def ry (us:List fK) (e:bC) (z:Bool):List fK:=us.set e.loc.toNat ⟨(dO us e.loc.toNat).refs+1,e.page,z⟩
def wK (ar:List bc) (last:Int) (uf us:List fK) (e:bC):Bool:=(aV ar e.page).2&&(decide (last<e.page)&&(if e.kind=1 then oG uf e (aV ar e.page).1.zero else if e.kind=2 then oG us e (aV ar e.page).1.zero else false))
def sF (ar:List bc) (u:List fK×List fK) (e:bC):List fK×List fK:=if e.kind=1 then (ry u.1 e (aV ar e.page).1.zero,u.2) else (u.1,ry u.2 e (aV ar e.page).1.zero)
def pj (es:List bC) (k:Nat):Int:=if k=0 then 0 else (aI es (k-1)).page
def jK (ar:List bc) (es:List bC) (u:List fK×List fK):Nat->List fK×List fK
 | 0=>u
 | k+1=>sF ar (jK ar es u k) (aI es k)
def j3 (ar:List bc) (es:List bC) (u:List fK×List fK):Nat->Bool
 | 0=>true
 | k+1=>j3 ar es u k&&wK ar (pj es k) (jK ar es u k).1 (jK ar es u k).2 (aI es k)
def qJ (hs:List bM) (ar:List bc):Bool:=ar.all fun a=>(List.range a.aR.toNat).all fun n=>a.zero || decide ((fM hs (a.page+(n:Int))).size≠0)
def pB (hs:List bM) (s:dm):Bool:=if s.live then decide (br s.aZ=0)&&qJ hs s.aZ else decide (s.aZ.length=0)&&decide (s.aW.length=0)
def kN (ss:List dm) (u:List fK×List fK):Nat->List fK×List fK
 | 0=>u
 | k+1=>jK (ak ss k).aZ (ak ss k).aW (kN ss u k) (ak ss k).aW.length
def nT (hs:List bM) (ss:List dm) (u:List fK×List fK):Nat->Bool
 | 0=>true
 | k+1=>nT hs ss u k&&(pB hs (ak ss k)&&j3 (ak ss k).aZ (ak ss k).aW (kN ss u k) (ak ss k).aW.length)
def mJ (f:kj):Bool:=decide (f.data.size=0/\f.refs=0/\f.fN=false/\f.seen=false)
def nz (f:mO):Bool:=decide (f.data.size=0/\f.refs=0)
def jY (hs:List bM) (f:kj) (u:fK):Bool:=if u.refs=0 then mJ f else decide (f.refs=u.refs/\f.data.size=16)&&(f.fN || decide (f.data=eH hs u.page u.zero))
def l7 (s:mO) (u:fK):Bool:=if u.refs=0 then nz s else decide (s.refs=u.refs/\s.data.size=16)
def yN (k:aN):List fK×List fK:=kN k.aj (List.replicate k.frames.length eB,List.replicate k.slots.length eB) k.aj.length
def BG (k:aN):Bool:=fJ k.aA&&(decide (0<=k.hand/\k.hand<(k.frames.length:Int))&&(nT k.aA k.aj (List.replicate k.frames.length eB,List.replicate k.slots.length eB) k.aj.length&&(decide (eW k.aj<=(k.slots.length:Int))&&((List.range k.frames.length).all (fun i=>jY k.aA (au k.frames i) (dO (yN k).1 i))&&(List.range k.slots.length).all (fun i=>l7 (bw k.slots i) (dO (yN k).2 i))))))
def gG (k:aN):Int:=if mi k=false then 2 else if BG k then 0 else 1
def xC (L:List (Int×Bool)) (u:fK):Prop:=u.refs=L.length/\∀x∈L,x=(u.page,u.zero)
def wM (N:Int->Int->List (Int×Bool)) (nf ns:Nat) (u:List fK×List fK):Prop:=(u.1.length=nf/\u.2.length=ns)/\(∀i:Nat,i<nf->xC (N 1 i) (dO u.1 i))/\∀i:Nat,i<ns->xC (N 2 i) (dO u.2 i)
theorem EC (l:List fK) (j n:Nat) (s:fK) (hj:j<l.length):dO (l.set j s) n=if j=n then s else dO l n:=by
 grind [dO]
theorem Mr {L:List (Int×Bool)} {u:fK} (h:xC L u) {p:Int} {z:Bool} (hc:¬(0<u.refs/\(u.page≠p∨u.zero≠z))):xC (L++[(p,z)]) ⟨u.refs+1,p,z⟩:=by
 refine⟨by show u.refs+1=_;rw[h.1,gh];rfl,fun x hx=>?_⟩;rcases lT.1 hx with g | g
 · have hpos:0<u.refs:=by rw[h.1];grind
   have e:=h.2 x g
   grind
 grind
theorem xX {us:List fK} {e:bC} {z:Bool}:oG us e z=true↔(0<=e.loc/\e.loc<(us.length:Int))/\¬(0<(dO us e.loc.toNat).refs/\((dO us e.loc.toNat).page≠e.page∨(dO us e.loc.toNat).zero≠z)):=by
 grind [oG]
theorem YH {N:Int->Int->List (Int×Bool)} {nf ns:Nat} {u:List fK×List fK} (h:wM N nf ns u) {ar:List bc} {last:Int} {e:bC} (hb:wK ar last u.1 u.2 e=true) :
  wM (fun kd i=>N kd i++jO ar kd i [e]) nf ns (sF ar u e)/\rO nf ns ar e/\last<e.page:=by
 unfold wK at hb;rw[dR,dR,iV] at hb;obtain⟨h1,h2,h3⟩:=hb;obtain⟨⟨l1,l2⟩,s1,s2⟩:=h;by_cases c:e.kind=1
 · rw[bf c] at h3;obtain⟨b,hc⟩:=xX.1 h3;refine⟨⟨⟨?_,?_⟩,fun i hi=>?_,fun i hi=>?_⟩,⟨h1,.inl ⟨c,b.1,by omega⟩⟩,h2⟩
   · grind [sF,ry]
   · grind [sF]
   · grind [sF,ry,EC,pT,Mr,mW]
   grind [sF,mW]
 · rw[bl c] at h3;by_cases c2:e.kind=2
   · rw[bf c2] at h3;obtain⟨b,hc⟩:=xX.1 h3;refine⟨⟨⟨?_,?_⟩,fun i hi=>?_,fun i hi=>?_⟩,⟨h1,.inr ⟨c2,b.1,by omega⟩⟩,h2⟩
     · grind [sF]
     · grind [sF,ry]
     · grind [sF,mW]
     grind [sF,ry,EC,pT,Mr,mW]
   grind
theorem YJ {N:Int->Int->List (Int×Bool)} {nf ns:Nat} {u:List fK×List fK} (h:wM N nf ns u) {ar:List bc} {last:Int} {e:bC} (he:rO nf ns ar e) (hl:last<e.page) (ho:∀x∈N e.kind e.loc,x=(e.page,(aV ar e.page).1.zero)):wK ar last u.1 u.2 e=true:=by
 obtain⟨⟨l1,l2⟩,s1,s2⟩:=h;unfold wK;rw[he.1,dh hl,ni,ni];have key:∀(us:List fK) (n:Nat),us.length=n->(0<=e.loc/\e.loc<(n:Int))->xC (N e.kind (e.loc.toNat:Int)) (dO us e.loc.toNat)->oG us e (aV ar e.page).1.zero=true:=fun us n hn hb hs=>by
  rw[xX];refine⟨by omega,fun ⟨a,b⟩=>?_⟩;rw[hs.1] at a;obtain⟨x,hx⟩:=List.exists_mem_of_length_pos (show 0<(N e.kind (e.loc.toNat:Int)).length by omega);have e1:=hs.2 x hx
  grind
 rcases he.2 with g | g
 · grind
 grind
theorem xY (es:List bC) (k:Nat) (hk:k<es.length):es.take (k+1)=es.take k++[aI es k]:=by
 grind [List.take_add_one,aI]
theorem EU {N:Int->Int->List (Int×Bool)} {nf ns:Nat} {u:List fK×List fK} (h:wM N nf ns u) (ar:List bc) (es:List bC):∀k,k<=es.length->j3 ar es u k=true->wM (fun kd i=>N kd i++jO ar kd i (es.take k)) nf ns (jK ar es u k)/\∀i,i<k->rO nf ns ar (aI es i)/\pj es i<(aI es i).page
 | 0,_,_=>⟨by
  have e:(fun kd i=>N kd i++jO ar kd i (es.take 0))=N:=by grind [jO]
  rw[e];exact h,fun i hi=>by omega⟩
 | k+1,hk,hb=>by
  unfold j3 at hb;rw[dR] at hb;obtain⟨a1,a2⟩:=EU h ar es k (by omega) hb.1;obtain⟨b1,b2,b3⟩:=YH a1 hb.2;refine⟨?_,fun i hi=>?_⟩
  · have e:(fun kd i=>N kd i++jO ar kd i (es.take (k+1)))=fun kd i=>(N kd i++jO ar kd i (es.take k))++jO ar kd i [aI es k]:=by
     grind [xY,l9]
    rw[e];exact b1
  grind
theorem JO {N:Int->Int->List (Int×Bool)} {nf ns:Nat} {u:List fK×List fK} (h:wM N nf ns u) (ar:List bc) (es:List bC) (he:∀i,i<es.length->rO nf ns ar (aI es i)/\pj es i<(aI es i).page) (ho:∀kd i,∀x∈N kd i++jO ar kd i es,∀y∈N kd i++jO ar kd i es,x=y):∀k,k<=es.length->j3 ar es u k=true
 | 0,_=>rfl
 | k+1,hk=>by
  have ih:=JO h ar es he ho k (by omega);unfold j3;rw[ih,ni];obtain⟨a1,_⟩:=EU h ar es k (by omega) ih;refine YJ a1 (he k (by omega)).1 (he k (by omega)).2 fun x hx=>?_
  have hm:(aI es k)∈es:=jD (by omega);refine ho (aI es k).kind (aI es k).loc x ?_ _ (lT.2 (.inr (LA.2 ⟨_,hm,rfl,rfl,rfl⟩)))
  grind [LA]
def vk (k:Nat) (n:Int):ByteArray:=⟨(Lib.leBytes k (xG n)).toArray⟩
theorem yC (k:Nat) (n:Int):(vk k n).size=k:=by
 grind [vk,Lib.size_eq,Lib.leBytes_length]
structure xx where
 op:Int
 a:Int
 b:Int
 c:Int
 m:Int
def xx.cells (i:xx):Array Value:=#[I i.op,I i.a,I i.b,I i.c,I i.m]
def KZ (n:Int):Prop:=0<=n/\n<=255
instance (n:Int):Decidable (KZ n):=by unfold KZ;infer_instance
def xx.fits (i:xx):Prop:=KZ i.op/\KZ i.a/\KZ i.b/\KZ i.c/\-2147483648<=i.m/\i.m<=2147483647
instance (i:xx):Decidable i.fits:=by unfold xx.fits;infer_instance
def xx.bytes (i:xx):ByteArray:=(((vk 1 i.op++vk 1 i.a)++vk 1 i.b)++vk 1 i.c)++vk 4 i.m
structure amH where
 r:Nat->Int
 pc:Int
 st:Int
 cd:Int
 fk:Int
 fa:Int
structure acA where
 page:Int
 data:ByteArray
structure aiE where
 live:Bool
 aZ:List bc
 aR:List acA
structure anE where
 proc:Int
 value:Int
structure auy where
 slots:Int
 aj:List aiE
 procs:List amH
 out:List anE
def aku:acA:=⟨0,⟨#[]⟩⟩
def acz (l:List acA) (i:Nat):acA:=l.getD i aku
theorem zg:∀(l:List Int),(∀k,0<k->k<l.length->l.getD (k-1) 0<l.getD k 0)->l.Pairwise (·<·)
 | [],_=>List.Pairwise.nil
 | [a],_=>List.pairwise_singleton _ _
 | a::b::r,h=>by
  have ih:=zg (b::r) (fun k h1 h2=>by
   have:=h (k+1) (by omega) (by grind)
   grind)
  have h0:a<b:=h 1 (by omega) (by simp)
  grind [List.pairwise_cons]
theorem Hu {l:List Int} (h:l.Pairwise (·<·)) (k:Nat) (h1:0<k) (h2:k<l.length):l.getD (k-1) 0<l.getD k 0:=by
 grind [List.pairwise_iff_getElem]
theorem C6 (es:List bC) (k:Nat):(es.map (·.page)).getD k 0=(aI es k).page:=by
 unfold aI;rw[zQ,zQ,List.getElem?_map];cases es[k]? <;> rfl
theorem gN {ar:List bc} {p:Int} (h:(aV ar p).2=true):1<=p/\p<256:=by
 have:=ki (j5 h) h;omega
theorem EJ {nf ns:Nat} {ar:List bc} {es:List bC}:(∀i,i<es.length->rO nf ns ar (aI es i)/\pj es i<(aI es i).page)↔(∀e∈es,rO nf ns ar e)/\jw es:=by
 constructor
 · intro h;refine⟨fun e he=>?_,zg _ fun k h1 h2=>?_⟩
   · obtain⟨i,hi,rfl⟩:=jb eD he;exact(h i hi).1
   grind [C6,pj]
 · rintro⟨h1,h2⟩ i hi;have he:=h1 (aI es i) (jD hi);refine⟨he,?_⟩;unfold pj;by_cases c:i=0
   · rw[bf c];have:=gN he.1;omega
   · rw[bl c,<- C6,<- C6];exact Hu h2 i (by omega) (by grind)
theorem ES {hs:List bM} (hr:fJ hs=true) (p:Int):(fM hs p).size≠0↔(dJ hs p).isSome=true:=by
 constructor
 · intro h;unfold fM at h;cases g:dJ hs p with
   | some s=>rfl
   | none=>rw[g] at h;exact absurd rfl h
 grind [ET]
theorem aaY {ar:List bc} (hc:br ar=0) (p:Int):(aV ar p).2=true↔∃a∈ar,a.page<=p/\p<a.page+a.aR/\aV ar p=(a,true):=by
 grind [aV,Ap,bB,zm]
theorem aaX {ar:List bc} (hc:br ar=0) {a:bc} (ha:a∈ar) {p:Int} (h1:a.page<=p) (h2:p<a.page+a.aR):aV ar p=(a,true):=by
 obtain⟨k,hk,e⟩:=jb tZ ha;have e:bB ar k=a:=e;have hit:gU (bB ar k) p=true:=by grind [zm]
 grind [aV,Md,Ap,O8]
theorem Mw {hs:List bM} (hr:fJ hs=true) {ar:List bc} (hc:br ar=0):qJ hs ar=true↔∀p,(aV ar p).2=true->(aV ar p).1.zero=false->(dJ hs p).isSome=true:=by
 unfold qJ;rw[uw];constructor
 · intro h p hp hz;obtain⟨a,ha,h1,h2,e⟩:=(aaY hc p).1 hp;rw[e] at hz;have:=h a ha;rw[uw] at this;have:=this (p-a.page).toNat (xN.2 (by omega))
   grind [ES]
 · intro h a ha;rw[uw];intro n hn;have hn:=xN.1 hn;have e:=aaX hc ha (p:=a.page+(n:Int)) (by omega) (by omega)
   grind [ES]
theorem aaS (ss:List dm) (k:Nat) (hk:k<ss.length):ss.take (k+1)=ss.take k++[ak ss k]:=by
 grind [List.take_add_one,ak]
theorem AY (ss:List dm) (k:Nat) (hk:k<ss.length) (kd a:Int):cO (ss.take (k+1)) kd a=cO (ss.take k) kd a++ie (ak ss k) kd a:=by
 grind [aaS,Nk,lN,Vy]
theorem Mq (nf ns:Nat):wM (fun _ _=>[]) nf ns (List.replicate nf eB,List.replicate ns eB):=by
 have h:∀n i,dO (List.replicate n eB) i=eB:=fun n i=>by
  grind [dO]
 refine⟨⟨Co,Co⟩,fun i _=>?_,fun i _=>?_⟩
 · grind [xC,eB]
 grind [xC,eB]
theorem aeW {hs:List bM} (hr:fJ hs=true) {nf ns:Nat} {s:dm} (h1:pB hs s=true) (h2:(∀e∈s.aW,rO nf ns s.aZ e)/\jw s.aW):rP hs nf ns s:=by
 unfold pB at h1;by_cases c:s.live=true
 · rw[bf c,dR,iV] at h1;exact⟨fun d=>(by grind),h1.1,h2.2,h2.1,(Mw hr h1.1).1 h1.2⟩
 · rw[bl c,dR,iV,iV] at h1;have ha:=jS h1.1;refine⟨fun _=>⟨ha,jS h1.2⟩,by rw[ha];rfl,h2.2,h2.1,fun p hp=>?_⟩;rw[ha] at hp;cases hp
theorem aeX {hs:List bM} (hr:fJ hs=true) {nf ns:Nat} {s:dm} (h:rP hs nf ns s):pB hs s=true:=by
 grind [pB,Mw,rP.aZ,rP.aA,rP.dead]
theorem yP {hs:List bM} (hr:fJ hs=true) {nf ns:Nat} {u:List fK×List fK} (h:wM (fun _ _=>[]) nf ns u) (ss:List dm):∀k,k<=ss.length->nT hs ss u k=true->wM (fun kd i=>cO (ss.take k) kd i) nf ns (kN ss u k)/\∀i,i<k->rP hs nf ns (ak ss i)
 | 0,_,_=>⟨by
  have e:(fun kd i=>cO (ss.take 0) kd i)=fun _ _=>[]:=by rfl
  rw[e];exact h,fun i hi=>by omega⟩
 | k+1,hk,hb=>by
  unfold nT at hb;rw[dR,dR] at hb;obtain⟨a1,a2⟩:=yP hr h ss k (by omega) hb.1;obtain⟨b1,b2⟩:=EU a1 (ak ss k).aZ (ak ss k).aW _ (aM _) hb.2.2;refine⟨?_,fun i hi=>?_⟩
  · have e:(fun kd i=>cO (ss.take (k+1)) kd i)=fun kd i=>cO (ss.take k) kd i++jO (ak ss k).aZ kd i ((ak ss k).aW.take (ak ss k).aW.length):=by
     funext kd i;rw[AY ss k (by omega),tF];rfl
    rw[e];exact b1
  · by_cases c:i=k
    · simp_all [aeW,EJ]
    grind
theorem Vx {ss:List dm} {k:Nat} {kd a:Int} {x:Int×Bool} (h:x∈cO (ss.take k) kd a):x∈cO ss kd a:=by
 grind [o8]
theorem Ms {hs:List bM} (hr:fJ hs=true) {nf ns:Nat} {u:List fK×List fK} (h:wM (fun _ _=>[]) nf ns u) (ss:List dm) (hsp:∀i,i<ss.length->rP hs nf ns (ak ss i)) (ho:∀kd i,∀x∈cO ss kd i,∀y∈cO ss kd i,x=y):∀k,k<=ss.length->nT hs ss u k=true
 | 0,_=>rfl
 | k+1,hk=>by
  have ih:=Ms hr h ss hsp ho k (by omega);unfold nT;obtain⟨a1,_⟩:=yP hr h ss k (by omega) ih;have g:=hsp k (by omega);rw[ih,aeX hr g,ni,ni];refine JO a1 _ _ (EJ.2 ⟨g.FC,g.lQ⟩) (fun kd i x hx y hy=>?_) _ (aM _);have key:∀z,z∈cO (ss.take k) kd i++jO (ak ss k).aZ kd i (ak ss k).aW->z∈cO ss kd i:=fun z hz=>by
   refine Vx (k:=k+1) ?_;rw[AY ss k (by omega)];exact hz
  grind
theorem yV (f:kj):mJ f=true↔f=gD:=by
 unfold mJ;rw[iV];constructor
 · rintro⟨h1,h2,h3,h4⟩;obtain⟨⟨⟨d⟩⟩,r,a,b⟩:=f;simp only at h2 h3 h4;subst h2 h3 h4;have:d=[]:=jS h1;subst this;rfl
 · rintro rfl;exact⟨rfl,rfl,rfl,rfl⟩
theorem Ak (f:mO):nz f=true↔f=nU:=by
 unfold nz;rw[iV];constructor
 · rintro⟨h1,h2⟩;obtain⟨⟨⟨d⟩⟩,r⟩:=f;simp only at h2;subst h2;have:d=[]:=jS h1;subst this;rfl
 · rintro rfl;exact⟨rfl,rfl⟩
theorem PM {L:List (Int×Bool)} {u:fK} (h:xC L u):∀x∈L,∀y∈L,x=y:=fun x hx y hy=>(h.2 x hx).trans (h.2 y hy).symm
theorem yO {L:List (Int×Bool)} {u:fK} (h:xC L u):u.refs=0↔L=[]:=by
 rw[h.1]
 simp_all
theorem Tu {hs:List bM} {L:List (Int×Bool)} {u:fK} (h:xC L u) (f:kj):jY hs f u=true↔lK hs L f:=by
 unfold jY;by_cases c:u.refs=0
 · grind [yO,yV,lK.none,lK.zero]
 · have hL:L≠[]:=fun e=>c ((yO h).2 e)
   rw[bl c,dR,iV,Ck,iV];constructor
   · rintro⟨⟨h1,h2⟩,h3⟩;refine⟨h1.trans h.1,fun e=>absurd e hL,PM h,fun _=>h2,fun d x hx=>?_⟩;rw[h.2 x hx]
     grind
   · intro g;refine⟨⟨g.refs.trans h.1.symm,g.size hL⟩,?_⟩;cases d:f.fN with
     | true=>grind
     | false =>
      obtain⟨x,hx⟩:=Iw _ hL;have:=g.fill d x hx;rw[h.2 x hx] at this
      grind
theorem Tm {L:List (Int×Bool)} {u:fK} (h:xC L u) (f:mO):l7 f u=true↔mY L f:=by
 unfold l7;by_cases c:u.refs=0
 · grind [yO,Ak,mY.none,mY.zero]
 · have hL:L≠[]:=fun e=>c ((yO h).2 e)
   rw[bl c,iV];constructor
   · rintro⟨h1,h2⟩;exact⟨h1.trans h.1,fun e=>absurd e hL,PM h,fun _=>h2⟩
   · intro g;exact⟨g.refs.trans h.1.symm,g.size hL⟩
theorem My (k:aN) (hc:mi k=true):BG k=true↔bg k:=by
 unfold BG;simp only[dR,iV,uw,xN];have hz:=Mq k.frames.length k.slots.length;have hn:(fun kd i=>cO (k.aj.take k.aj.length) kd i)=fun kd i=>cO k.aj kd i:=by grind
 constructor
 · rintro⟨h1,h2,h3,h4,h5,h6⟩;obtain⟨a1,a2⟩:=yP h1 hz k.aj _ (aM _) h3;rw[hn] at a1;refine⟨hc,h1,h2,fun s hs=>?_,h4,fun i hi=>(Tu (a1.2.1 i hi) _).1 (h5 i hi),fun i hi=>(Tm (a1.2.2 i hi) _).1 (h6 i hi)⟩;obtain⟨j,hj,rfl⟩:=jb uP hs;exact a2 j hj
 · intro h;have ho:∀kd i,∀x∈cO k.aj kd i,∀y∈cO k.aj kd i,x=y:=fun kd i x hx y hy=>by
    obtain⟨s,hs,e,he,g1,g2,_⟩:=o8.1 hx;obtain⟨j,hj,rfl⟩:=jb uP hs;rcases iQ h hj he with b | b
    · have:=(h.zS e.loc.toNat b.2.2).one x (by grind) y (by grind);omega
    grind [bg.slt,mY.one]
   have hb:=Ms h.lQ hz k.aj (fun i hi=>h.sp hi) ho _ (aM _);obtain⟨a1,_⟩:=yP h.lQ hz k.aj _ (aM _) hb;rw[hn] at a1;exact⟨h.lQ,h.hand,hb,h.room,fun i hi=>(Tu (a1.2.1 i hi) _).2 (h.zS i hi),fun i hi=>(Tm (a1.2.2 i hi) _).2 (h.slt i hi)⟩
theorem qz (k:aN):gG k=0↔bg k:=by
 grind [gG,My,bg.counts]
end Go.Proofs.YtpgifpeohlllfaaGreat
end Go.Proofs.YtpgifpeohlllfaaGreat
