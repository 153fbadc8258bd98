import Derived.Test.YtpgifpeohlllfaaGreatGR03
set_option maxHeartbeats 20000000
set_option linter.unusedVariables false
set_option maxRecDepth 100000
set_option linter.unusedSimpArgs false
namespace Go.Proofs.YtpgifpeohlllfaaGreat
open Go.RowKit
theorem Mb {i:Int} {es:List bG} (h:iw es) (p:Int):bD (rz i es) p=(bD es p).filter fun e=>!iu i e:=by
 cases g:bD es p with
 | none=>grind [rU,wV]
 | some e =>
  have he:=(gh h).1 g;by_cases c:e.kind=1/\e.loc=i
  · rw[Option.filter_some,uJ.2 c,bf (by simp),rU];intro x hx hp;have hx:=wV.1 hx;have:some x=some e:=((gh h).2 ⟨hx.1,hp⟩).symm.trans g
    grind
  grind [mO,gh,Je,wV]
theorem I7 {i s:Int} {es:List bG} (h:iw es) (p:Int):bD (iJ i s es) p=(bD es p).map fun e=>if iu i e then ⟨e.page,2,s⟩ else e:=by
 cases g:bD es p with
 | none =>
  grind [rU,xX]
 | some e =>
  grind [gh,Gy,xX,mO]
theorem oM (f:cO->cO) (l:List cO) (j:Nat) (hj:j<l.length):ak (l.map f) j=f (ak l j):=Jg f sM sM l j hj
structure fp (k k':aN):Prop where
 aD:k'.aD=k.aD
 nf:k'.frames.length=k.frames.length
 ns:k'.slots.length=k.slots.length
 np:k'.aj.length=k.aj.length
 live:∀j,j<k.aj.length->(ak k'.aj j).live=(ak k.aj j).live
 bk:∀j,j<k.aj.length->(ak k'.aj j).bk=(ak k.aj j).bk
 Vt:∀j,j<k.aj.length->∀p,dO k' j p=dO k j p
theorem fp.refl (k:aN):fp k k:=⟨rfl,rfl,rfl,rfl,fun _ _=>rfl,fun _ _=>rfl,fun _ _ _=>rfl⟩
theorem fp.trans {a b c:aN} (h:fp a b) (g:fp b c):fp a c :=
 ⟨g.aD.trans h.aD,g.nf.trans h.nf,g.ns.trans h.ns,g.np.trans h.np,fun j hj=>(g.live j (by grind [np])).trans (h.live j hj),fun j hj=>(g.bk j (by grind [np])).trans (h.bk j hj),fun j hj p=>(g.Vt j (by grind [np]) p).trans (h.Vt j hj p)⟩
theorem Rk {k:aN} (h:bc k) {i:Nat} (hi:i<k.frames.length) (hd:(au k.frames i).eX=false):fp k (uK k i):=by
 refine⟨rfl,iG,rfl,ub ..,fun j hj=>?_,fun j hj=>?_,fun j hj p=>?_⟩
 · show(ak (k.aj.map (kU i)) j).live=_;rw[oM _ _ _ hj];rfl
 · show(ak (k.aj.map (kU i)) j).bk=_;rw[oM _ _ _ hj];rfl
 · have hsp:=h.sp hj;unfold dO;show(match bD (ak (k.aj.map (kU i)) j).aU p with
    | some e=>if e.kind=1 then (au (k.frames.set i eW) e.loc.toNat).data else (br k.slots e.loc.toNat).data
    | none=>dY k.aD p (bh (ak (k.aj.map (kU i)) j).bk p).1.zero)=_
   rw[oM _ _ _ hj];show(match bD (rz i (ak k.aj j).aU) p with
    | some e=>if e.kind=1 then (au (k.frames.set i eW) e.loc.toNat).data else (br k.slots e.loc.toNat).data
    | none=>dY k.aD p (bh (ak k.aj j).bk p).1.zero)=_
   rw[Mb hsp.kP];cases g:bD (ak k.aj j).aU p with
   | none=>rfl
   | some e =>
    have he:=(gh hsp.kP).1 g;have hb:=ic h hj he.1;by_cases c:e.kind=1/\e.loc=(i:Int)
    · rw[Option.filter_some,uJ.2 c,bf (by simp)];show _=if e.kind=1 then _ else _
      rw[aR c.1,show e.loc.toNat=i by omega];have:=jb hj he.1;rw[c.1,c.2] at this;have:=(h.yS i hi).fill hd _ this
      grind
    grind [mO,iD]
theorem Q3 {k:aN} (h:bc k) {i s:Nat} (hi:i<k.frames.length) (hs:s<k.slots.length) (hf:ck k.aj 2 s=[]):fp k (Ci k i s):=by
 refine⟨rfl,iG,iG,ub ..,fun j hj=>?_,fun j hj=>?_,fun j hj p=>?_⟩
 · show(ak (k.aj.map (ik i s)) j).live=_;rw[oM _ _ _ hj];rfl
 · show(ak (k.aj.map (ik i s)) j).bk=_;rw[oM _ _ _ hj];rfl
 · have hsp:=h.sp hj;unfold dO;show(match bD (ak (k.aj.map (ik i s)) j).aU p with
    | some e=>if e.kind=1 then (au (k.frames.set i eW) e.loc.toNat).data else (br (k.slots.set s ⟨(au k.frames i).data,(au k.frames i).refs⟩) e.loc.toNat).data
    | none=>dY k.aD p (bh (ak (k.aj.map (ik i s)) j).bk p).1.zero)=_
   rw[oM _ _ _ hj];show(match bD (iJ i s (ak k.aj j).aU) p with
    | some e=>if e.kind=1 then (au (k.frames.set i eW) e.loc.toNat).data else (br (k.slots.set s ⟨(au k.frames i).data,(au k.frames i).refs⟩) e.loc.toNat).data
    | none=>dY k.aD p (bh (ak k.aj j).bk p).1.zero)=_
   rw[I7 hsp.kP];cases g:bD (ak k.aj j).aU p with
   | none=>rfl
   | some e =>
    have he:=(gh hsp.kP).1 g
    grind [ic,uI,mO,iD,jb]
theorem N9 {k:aN} (h:bc k) {i:Nat} (hi:i<k.frames.length) (hr:(au k.frames i).refs≠0):fp k (dh k i):=by
 grind [dh,Q3,Rk,bc.slot]
theorem Oa (k:aN) (i:Nat):ck (dh k i).aj 1 i=[]:=by
 unfold dh;by_cases c:(au k.frames i).eX=true
 · rw[aR c];cases qU k.slots with
   | none=>exact nT (kU i) 1 i _ (fun s _=>uo s.bk i s.aU)
   | some s=>exact nT (ik i s) 1 i _ (fun sp _=>Cn sp.bk i s sp.aU)
 · rw[bf c];exact nT (kU i) 1 i _ (fun s _=>uo s.bk i s.aU)
theorem AY (k:aN) (i:Nat):(dh k i).frames=k.frames.set i eW/\(dh k i).hand=k.hand:=by
 unfold dh;by_cases c:(au k.frames i).eX=true
 · rw[aR c];cases qU k.slots with
   | none=>exact⟨rfl,rfl⟩
   | some s=>exact⟨rfl,rfl⟩
 · rw[bf c];exact⟨rfl,rfl⟩
theorem Ro {k:aN} (h:bc k) (i:Nat) {j:Nat} (hj:j<k.aj.length) (p:Int) (hn:∀e,bD (ak k.aj j).aU p=some e->¬(e.kind=1/\e.loc=(i:Int))):bD (ak (dh k i).aj j).aU p=bD (ak k.aj j).aU p:=by
 have hr:=(h.sp hj).kP;have hD:bD (ak (k.aj.map (kU i)) j).aU p=bD (ak k.aj j).aU p:=by
  rw[oM _ _ _ hj];show bD (rz i (ak k.aj j).aU) p=_;rw[Mb hr];cases g:bD (ak k.aj j).aU p with
  | none=>rfl
  | some e=>grind [mO]
 unfold dh;by_cases c:(au k.frames i).eX=true
 · rw[aR c];cases qU k.slots with
   | none=>exact hD
   | some s =>
    show bD (ak (k.aj.map (ik i s)) j).aU p=_;rw[oM _ _ _ hj];show bD (iJ i s (ak k.aj j).aU) p=_;rw[I7 hr];cases g:bD (ak k.aj j).aU p with
    | none=>rfl
    | some e=>grind [mO]
 · rw[bf c];exact hD
theorem N6 {k:aN} (h:bc k) {i:Nat} (hi:i<k.frames.length) (hr:(au k.frames i).refs≠0) (n:Nat) (hn:ck k.aj 2 n≠[]):br (dh k i).slots n=br k.slots n:=by
 unfold dh;by_cases c:(au k.frames i).eX=true
 · rw[aR c];obtain⟨s,h1,h2,h3⟩:=h.slot hi hr;rw[h1];show br (k.slots.set s _) n=_
   grind [uI]
 · rw[bf c];rfl
theorem zZ {k:aN} {j:Nat} {p:Int} {i:Nat} {d:ByteArray} {dy:Bool} (m:je k j p i d dy) (hd:d=dO k j p):fp k (dR k j p i d dy):=by
 have h:=m.right;have hsp:=h.sp m.hj;have hR:=uq m;obtain⟨f1,f2,f3,f4,f5,f6,f7⟩:=mN k j p i d dy m;have hat:∀n,ak (dR k j p i d dy).aj n=if j=n then dG (ak k.aj j) (iK (ak k.aj j).aU ⟨p,1,i⟩) else ak k.aj n:=fun n=>by grind [lO,je.hj]
 have Ee:(dR k j p i d dy).aj.length=k.aj.length:=by grind
 refine⟨f3,f1,f2,Ee,fun n hn=>?_,fun n hn=>?_,fun n hn q=>?_⟩
 · rw[hat];by_cases c:j=n
   · rw[aR c,<- c];rfl
   grind
 · rw[hat];by_cases c:j=n
   · rw[aR c,<- c];rfl
   grind
 · have al9:(ak (dR k j p i d dy).aj n).bk=(ak k.aj n).bk:=by
    rw[hat];by_cases c:j=n
    · rw[aR c,<- c];rfl
    grind
   have hent:bD (ak (dR k j p i d dy).aj n).aU q=if j=n/\q=p then some ⟨p,1,i⟩ else bD (ak k.aj n).aU q:=by
    rw[hat];by_cases c:j=n
    · rw[aR c];show bD (iK (ak k.aj j).aU ⟨p,1,i⟩) q=_;rw[Ma hsp.kP]
      grind
    grind
   by_cases c:j=n/\q=p
   · grind [dO]
   · rw[bf c] at hent;have hn':n<(dR k j p i d dy).aj.length:=by omega
     have alp:=h.sp hn;unfold dO;rw[hent,al9,f3];cases g:bD (ak k.aj n).aU q with
     | none=>rfl
     | some e =>
      have he:=(gh alp.kP).1 g;have hb:=ic h hn he.1;have he':=(gh (hR.sp hn').kP).1 (hent.trans g);have Hd:=jb hn' he'.1;have arX:=jb hn he.1;show(if e.kind=1 then _ else _)=if e.kind=1 then _ else _
      by_cases c1:e.kind=1
      · rw[aR c1,aR c1,f6];have hb:=hb.resolve_right (fun x=>by omega);have hni:e.loc.toNat≠i:=fun e1=>by
         grind [je.free]
        rw[bf hni];have hF:=hR.yS e.loc.toNat (by omega);rw[f6,bf hni] at hF;have hne:ck (dR k j p i d dy).aj 1 (e.loc.toNat:Int)≠[]:=fun e1=>by
         grind
        cases g2:bD (ak k.aj j).aU p with
        | none=>rfl
        | some e2 =>
         rw[g2] at hF;have hF:kI _ _ (if e2.kind=1/\e2.loc=(e.loc.toNat:Int) then ma (au k.frames e.loc.toNat) else au k.frames e.loc.toNat):=hF;show(if e2.kind=1/\e2.loc=(e.loc.toNat:Int) then ma (au k.frames e.loc.toNat) else au k.frames e.loc.toNat).data=_;by_cases c3:e2.kind=1/\e2.loc=(e.loc.toNat:Int)
         · rw[aR c3] at hF ⊢;unfold ma at hF ⊢;by_cases c4:(au k.frames e.loc.toNat).refs-1=0
           · rw[aR c4] at hF;exact absurd (hF.nil rfl) hne
           grind
         grind
      · rw[bf c1,bf c1,f7];have hb:=hb.resolve_left (fun x=>c1 x.1);have hF:=hR.slt e.loc.toNat (by omega);rw[f7] at hF;have hne:ck (dR k j p i d dy).aj 2 (e.loc.toNat:Int)≠[]:=fun e1=>by
         grind
        cases g2:bD (ak k.aj j).aU p with
        | none=>rfl
        | some e2 =>
         rw[g2] at hF;have hF:l7 _ (if e2.kind=2/\e2.loc=(e.loc.toNat:Int) then nB (br k.slots e.loc.toNat) else br k.slots e.loc.toNat):=hF;show(if e2.kind=2/\e2.loc=(e.loc.toNat:Int) then nB (br k.slots e.loc.toNat) else br k.slots e.loc.toNat).data=_;by_cases c3:e2.kind=2/\e2.loc=(e.loc.toNat:Int)
         · rw[aR c3] at hF ⊢;unfold nB at hF ⊢;by_cases c4:(br k.slots e.loc.toNat).refs-1=0
           · rw[aR c4] at hF;exact absurd (hF.nil rfl) hne
           grind
         grind
open Go.RowKit
def fM (k:aN):Int:=(k.hand+1)%(k.frames.length:Int)
def ju (held:List Int) (k:aN):Bool:=held.contains k.hand || (au k.frames k.hand.toNat).seen
def tK (f:jm):jm:={ f with seen:=false }
def gJ (held:List Int) (k:aN):aN:={ k with hand:=fM k,frames:=if held.contains k.hand then k.frames else k.frames.set k.hand.toNat (tK (au k.frames k.hand.toNat)) }
def bK (held:List Int):Nat->aN->aN
 | 0,k=>k
 | n+1,k=>gJ held (bK held n k)
def lY (held:List Int):Nat->aN->aN
 | 0,k=>k
 | n+1,k=>if ju held k then lY held n (gJ held k) else k
def vU (k:aN):Prop:=∀i,i<k.frames.length->(au k.frames i).refs≠0
theorem L4 (held:List Int) (k:aN):(gJ held k).frames.length=k.frames.length:=by
 grind [gJ]
theorem L5 (held:List Int) {k:aN} (hh:0<=k.hand/\k.hand<k.frames.length) (n:Nat):au (gJ held k).frames n=if (n:Int)=k.hand/\held.contains k.hand=false then tK (au k.frames n) else au k.frames n:=by
 grind [gJ,iD]
theorem Ez {k:aN} (h3:3<=k.frames.length):0<=fM k/\fM k<k.frames.length:=⟨Int.emod_nonneg _ (by omega),Int.emod_lt_of_pos _ (by omega)⟩
theorem NT (held:List Int) {k:aN} (h:bc k) (hf:vU k):bc (gJ held k)/\vU (gJ held k)/\fp k (gJ held k)/\(gJ held k).aj=k.aj/\(gJ held k).slots=k.slots:=by
 have h3:=h.c.1.1;have hn:=Ez h3;have hat:=L5 held h.hand;refine⟨?_,fun i hi=>?_,⟨rfl,L4 held k,rfl,rfl,fun _ _=>rfl,fun _ _=>rfl,fun j hj p=>?_⟩,rfl,rfl⟩
 · unfold gJ;by_cases c:held.contains k.hand=true
   · grind [bc.turn]
   · rw[bf c];have hi:k.hand.toNat<k.frames.length:=by have:=h.hand;omega
     have:=(h.yS _ hi);have g:=h.frame (this.seen false (this.ne (hf _ hi)));exact bc.turn g (x:=fM k) (by grind)
 · rw[L4] at hi;rw[hat];have:=hf i hi;by_cases c:(i:Int)=k.hand/\held.contains k.hand=false
   · rw[aR c];exact this
   grind
 · unfold dO;show(match bD (ak k.aj j).aU p with
    | some e=>if e.kind=1 then (au (gJ held k).frames e.loc.toNat).data else (br k.slots e.loc.toNat).data
    | none=>_)=_
   have asy:∀n,(au (gJ held k).frames n).data=(au k.frames n).data:=fun n=>by
    rw[hat];by_cases c:(n:Int)=k.hand/\held.contains k.hand=false
    · rw[aR c];rfl
    grind
   grind [gJ]
structure Dg (held:List Int) (k:aN) (n:Nat):Prop where
 right:bc (bK held n k)
 full:vU (bK held n k)
 kept:fp k (bK held n k)
 aj:(bK held n k).aj=k.aj
 slots:(bK held n k).slots=k.slots
 hand:(bK held n k).hand=(k.hand+n)%(k.frames.length:Int)
 IJ:∀i:Nat,(i:Int)∈held->au (bK held n k).frames i=au k.frames i
 past:∀m:Nat,m<n->∀i:Nat,(i:Int)=(k.hand+m)%(k.frames.length:Int)->(i:Int)∈held∨(au (bK held n k).frames i).seen=false
theorem zh (held:List Int) {k:aN} (h:bc k) (hf:vU k):∀n,Dg held k n
 | 0=>⟨h,hf,fp.refl k,rfl,rfl,by have:=h.hand;show k.hand=(k.hand+((0:Nat):Int))%_;grind [Int.emod_eq_of_lt],fun _ _=>rfl,fun m hm=>by omega⟩
 | n+1=>by
  have t:=zh held h hf n;obtain⟨s1,s2,s3,s4,s5⟩:=NT held t.right t.full;have hat:=L5 held t.right.hand;have tq:=t.kept.nf;have hN:=h.c.1.1;refine⟨s1,s2,t.kept.trans s3,s4.trans t.aj,s5.trans t.slots,?_,fun i hi=>?_,fun m hm i hi=>?_⟩
  · show fM (bK held n k)=_;unfold fM;rw[tq,t.hand,Int.emod_add_emod]
    grind
  · grind [bK,Dg.IJ]
  · show _∨(au (gJ held (bK held n k)).frames i).seen=false;rw[hat];by_cases c:(i:Int)=(bK held n k).hand/\held.contains (bK held n k).hand=false
    · rw[aR c];exact .inr rfl
    · rw[bf c];by_cases d:m=n
      · grind [Dg.hand]
      · exact t.past m (by omega) i hi
theorem aa7 {held:List Int} (hl:held.length<=2) (a b c:Int) (h1:a≠b) (h2:a≠c) (h3:b≠c):a∉held∨b∉held∨c∉held:=by
 by_cases ha:a∈held
 · by_cases hb:b∈held
   · right;right;intro hc;have l1:=List.length_erase_of_mem ha;have hb':b∈held.erase a:=(Kv (fun e=>h1 e.symm)).2 hb;have hc':c∈held.erase a:=(Kv (fun e=>h2 e.symm)).2 hc;have l2:=List.length_erase_of_mem hb';have hc'':c∈(held.erase a).erase b:=(Kv (fun e=>h3 e.symm)).2 hc'
     grind
   grind
 grind
theorem Aa {x n:Int} (h0:0<=x) (h1:x<2*n) (hn:0<n):(x<n/\x%n=x)∨(n<=x/\x%n=x-n):=by
 by_cases c:x<n
 · grind [Int.emod_eq_of_lt]
 · right;refine⟨by omega,?_⟩;rw[<- Int.sub_emod_right x n];exact ab8 (by omega) (by omega)
theorem yE (held:List Int) (hl:held.length<=2) {k:aN} (h:bc k) (hf:vU k):∃T,T<=66/\(∀m,m<T->ju held (bK held m k)=true)/\ju held (bK held T k)=false:=by
 have hN:=h.c.1;have hex:∃T,T<=66/\ju held (bK held T k)=false:=by
  have hh:=h.hand;obtain⟨N,hNe⟩:∃N:Int,N=(k.frames.length:Int):=⟨_,rfl⟩;have hit:∀x:Nat,x<3->(k.hand+x)%N∉held->∃T,T<=66/\ju held (bK held T k)=false:=fun x hx hno=>by
   have t:=zh held h hf (k.frames.length+x);have hm:0<=(k.hand+x)%N/\(k.hand+x)%N<N:=⟨Int.emod_nonneg _ (by omega),Int.emod_lt_of_pos _ (by omega)⟩;have ahw:(bK held (k.frames.length+x) k).hand=(k.hand+x)%N:=by
    grind [Int.add_emod_right,Dg.hand]
   refine⟨k.frames.length+x,by omega,?_⟩;unfold ju;rw[ahw];have hi:(((k.hand+x)%N).toNat:Int)=(k.hand+x)%N:=by omega
   have:=t.past x (by omega) ((k.hand+x)%N).toNat (by grind)
   grind
  have d0:=Aa (x:=k.hand+(0:Nat)) (n:=N) (by omega) (by omega) (by omega);have d1:=Aa (x:=k.hand+(1:Nat)) (n:=N) (by omega) (by omega) (by omega);have d2:=Aa (x:=k.hand+(2:Nat)) (n:=N) (by omega) (by omega) (by omega);rcases aa7 hl ((k.hand+(0:Nat))%N) ((k.hand+(1:Nat))%N) ((k.hand+(2:Nat))%N) (by omega) (by omega) (by omega) with g | g | g
  · grind
  · exact hit 1 (by omega) g
  grind
 obtain⟨T,hT,hp⟩:=hex;clear hN;induction T using Nat.strongRecOn with
 | _ T ih =>
  grind
theorem yD (held:List Int):∀(T n:Nat) (k:aN),T<=n->(∀m,m<T->ju held (bK held m k)=true)->ju held (bK held T k)=false->lY held (n+1) k=bK held T k:=fun T=>by
 have shift:∀m k,bK held m (gJ held k)=bK held (m+1) k:=fun m k=>by
  induction m with
  | zero=>rfl
  | succ m ih=>show gJ held _=gJ held _;rw[ih]
 induction T with
 | zero =>
  intro n k _ _ h;show(if ju held k then _ else k)=k;rw[bf (by rw[show ju held k=false from h];simp)]
 | succ T ih =>
  intro n k hn h1 h2;obtain⟨n,rfl⟩:∃m,n=m+1:=⟨n-1,by omega⟩;show(if ju held k then lY held (n+1) (gJ held k) else k)=_;rw[aR (show ju held k=true from h1 0 (by omega)),ih n (gJ held k) (by omega) (fun m hm=>by grind) (by grind),shift]
def bE (k:aN) (held:List Int):Nat×aN:=match pk k.frames with
 | some i=>(i,k)
 | none=>((lY held 70 k).hand.toNat,{ dh (lY held 70 k) (lY held 70 k).hand.toNat with hand:=fM (lY held 70 k) })
structure oC (k:aN) (held:List Int) (g:Nat×aN):Prop where
 right:bc g.2
 kept:fp k g.2
 lt:g.1<k.frames.length
 free:ck g.2.aj 1 g.1=[]
 IJ:∀i:Nat,(i:Int)∈held->(au k.frames i).refs≠0->i≠g.1/\au g.2.frames i=au k.frames i
 Hf:∀j,j<k.aj.length->∀p,(∀e,bD (ak k.aj j).aU p=some e->¬(e.kind=1/\e.loc=(g.1:Int)))->bD (ak g.2.aj j).aU p=bD (ak k.aj j).aU p
 slot:∀n:Nat,ck k.aj 2 n≠[]->br g.2.slots n=br k.slots n
theorem ll {k:aN} (h:bc k) {held:List Int} (hl:held.length<=2):oC k held (bE k held):=by
 unfold bE;cases hf:pk k.frames with
 | some i =>
  obtain⟨h1,h2,_⟩:=C5.1 hf;have hr:(au k.frames i).refs=0:=by
   grind [au]
  exact⟨h,fp.refl k,h1,(h.yS i h1).nil hr,fun n _ hn=>⟨fun e=>hn (by grind),rfl⟩,fun j _ p _=>rfl,fun _ _=>rfl⟩
 | none =>
  have hF:vU k:=fun i hi hr=>by
   have:=KC.1 hf (au k.frames i) (jc hi)
   grind
  obtain⟨T,hT,t1,t2⟩:=yE held hl h hF;have hc:lY held 70 k=bK held T k:=yD held T 69 k (by omega) t1 t2;rw[hc];have t:=zh held h hF T;obtain⟨k1,hk1⟩:=ex (bK held T k);have tr:=t.right;have tf:=t.full;have tk:=t.kept;have ts:=t.aj;have tl:=t.slots;have th:=t.IJ;rw[<- hk1] at t2 tr tf tk ts tl th ⊢;obtain⟨i,hi⟩:=ex k1.hand.toNat
  have hh:=tr.hand;have hi1:i<k1.frames.length:=by omega
  have hr:=tf i hi1;have a1:=tr.aside hi1 hr;have a2:=N9 tr hi1 hr;have h3:=tr.c.1.1;have a3:(dh k1 i).frames.length=k1.frames.length:=a2.nf;rw[<- hi];have hb:bc { dh k1 i with hand:=fM k1 }:=a1.turn (by simp_all [Ez]);have hkk:fp (dh k1 i) { dh k1 i with hand:=fM k1 }:=⟨rfl,rfl,rfl,rfl,fun _ _=>rfl,fun _ _=>rfl,fun _ _ _=>rfl⟩;have tq:=tk.nf;refine⟨hb,tk.trans (a2.trans hkk),by grind,Oa k1 i,fun n hn _=>?_,fun j hj p he=>?_,fun n hn=>?_⟩
  · grind [ju,AY,iD]
  · grind [Ro]
  grind [N6]
open Go.RowKit
def jq (k:aN) (j:Nat) (p:Int):Bool:=(bh (ak k.aj j).bk p).1.zero
def dx (k:aN) (j:Nat) (p:Int):Prop:=(bh (ak k.aj j).bk p).2=true
def cI (k:aN) (j:Nat) (p:Int) (held:List Int):Nat×aN:=match bD (ak k.aj j).aU p with
 | some e=>if e.kind=1 then (e.loc.toNat,k) else ((bE k held).1,dR (bE k held).2 j p (bE k held).1 (br (bE k held).2.slots e.loc.toNat).data true)
 | none=>((bE k held).1,dR (bE k held).2 j p (bE k held).1 (dY (bE k held).2.aD p (jq (bE k held).2 j p)) false)
def iB (k:aN) (j:Nat) (p:Int) (a:Nat) (held:List Int):Nat×aN:=if (au k.frames a).refs=1 then (a,k) else ((bE k (held++[(a:Int)])).1,dR (bE k (held++[(a:Int)])).2 j p (bE k (held++[(a:Int)])).1 (au (bE k (held++[(a:Int)])).2.frames a).data true)
def qy (way:Int) (f:jm):jm:=⟨f.data,f.refs,f.eX || decide (way=1),true⟩
def Md (k:aN) (way:Int) (i:Nat):aN:={ k with frames:=k.frames.set i (qy way (au k.frames i)) }
def fQ (k:aN) (j:Nat) (p way:Int) (held:List Int):Nat×aN:=if way=1 then iB (cI k j p held).2 j p (cI k j p held).1 held else cI k j p held
def cQ (k:aN) (j:Nat) (p way:Int) (held:List Int):Nat×aN:=((fQ k j p way held).1,Md (fQ k j p way held).2 way (fQ k j p way held).1)
structure ft (k:aN) (j:Nat) (p:Int) (held:List Int) (r:Nat×aN):Prop where
 right:bc r.2
 kept:fp k r.2
 lt:r.1<k.frames.length
 here:bD (ak r.2.aj j).aU p=some ⟨p,1,r.1⟩
 stay:∀j',j'<k.aj.length->∀q e,bD (ak k.aj j').aU q=some e->e.kind=1->e.loc∈held->¬(j'=j/\q=p)->bD (ak r.2.aj j').aU q=some e
theorem qx {k:aN} {j:Nat} {p:Int} {i:Nat} {d:ByteArray} {dy:Bool} (m:je k j p i d dy) (n:Nat) (q:Int):bD (ak (dR k j p i d dy).aj n).aU q=if j=n/\q=p then some ⟨p,1,i⟩ else bD (ak k.aj n).aU q:=by
 obtain⟨_,_,_,_,f5,_,_⟩:=mN k j p i d dy m;rw[f5,lO _ _ _ _ m.hj];by_cases c:j=n
 · rw[aR c];show bD (iK (ak k.aj j).aU ⟨p,1,i⟩) q=_;rw[Ma (m.right.sp m.hj).kP]
   grind
 grind
theorem oC.stay {k:aN} (h:bc k) {held:List Int} {g:Nat×aN} (G:oC k held g) {j:Nat} (hj:j<k.aj.length) {q:Int} {e:bG} (he:bD (ak k.aj j).aU q=some e) (hn:e.kind=1->e.loc∈held):bD (ak g.2.aj j).aU q=some e:=by
 have hm:=(gh (h.sp hj).kP).1 he;rw[G.Hf j hj q ?_,he];intro x hx c;rw[he] at hx;injection hx with hx;subst hx;have hb:=(ic h hj hm.1).resolve_right (fun y=>by omega);have hne:(au k.frames e.loc.toNat).refs≠0:=fun z=>by
  have:=jb hj hm.1;rw[c.1,<- hb.2.1,(h.yS _ hb.2.2).nil z] at this
  grind
 have:=(G.IJ e.loc.toNat (by grind) hne).1;omega
theorem oC.mapped {k:aN} {held:List Int} {g:Nat×aN} (G:oC k held g) {j:Nat} (hj:j<k.aj.length) {p:Int} (hp:dx k j p):(bh (ak g.2.aj j).bk p).2=true:=by rw[G.kept.bk j hj];exact hp
theorem Ct (hs:List bR) (hr:ed hs=true) (p:Int) (h:(cY hs p).isSome=true):(eO hs p).size=16:=by
 unfold eO;cases g:cY hs p with
 | none=>grind
 | some s =>
  have hm:s∈hs:=Kz g;obtain⟨i,hi,e⟩:=gU tE hm;have hb:=(ng hs hs.length hr i hi).1;rw[show aV hs i=s from e] at hb;unfold cu jY at hb;simp only[cR,gP] at hb;exact sA s.data s.cM hb.1.2.2 s.cM.length hb.2
theorem Ac {k:aN} (h:bc k) {j:Nat} (hj:j<k.aj.length) {p:Int} (hp:dx k j p):(dY k.aD p (jq k j p)).size=16:=by
 unfold dY;cases z:jq k j p with
 | true=>rfl
 | false=>exact Ct _ h.kP p ((h.sp hj).aD p hp z)
theorem sP {k:aN} (h:bc k) {j:Nat} (hj:j<k.aj.length) {p:Int} (hp:dx k j p) {held:List Int} (hl:held.length<=2):ft k j p held (cI k j p held):=by
 have hsp:=h.sp hj;have G:=ll h hl;unfold cI;cases g:bD (ak k.aj j).aU p with
 | none =>
  dsimp only;have hent:bD (ak (bE k held).2.aj j).aU p=none:=by grind [oC.Hf]
  have hpk:dY (bE k held).2.aD p (jq (bE k held).2 j p)=dO (bE k held).2 j p:=by unfold dO;rw[hent];rfl
  have hj':j<(bE k held).2.aj.length:=by rw[G.kept.np];exact hj
  have m:je (bE k held).2 j p (bE k held).1 (dY (bE k held).2.aD p (jq (bE k held).2 j p)) false:=⟨G.right,hj',G.mapped hj hp,by rw[G.kept.nf];exact G.lt,G.free,Ac G.right hj' (G.mapped hj hp),fun _=>rfl⟩;refine⟨uq m,G.kept.trans (zZ m hpk),G.lt,by grind [qx],fun j' hj2 q e he hk hin hne=>?_⟩
  grind [qx,oC.stay]
 | some e =>
  have he:=(gh hsp.kP).1 g;dsimp only;by_cases c:e.kind=1
  · rw[aR c];have hb:=(ic h hj he.1).resolve_right (fun y=>by omega);refine⟨h,fp.refl k,hb.2.2,?_,fun j' hj2 q e he hk hin hne=>he⟩;show bD (ak k.aj j).aU p=some ⟨p,1,(e.loc.toNat:Int)⟩;rw[g,hb.2.1,<- c,<- he.2]
  · rw[bf c];have hb:=(ic h hj he.1).resolve_left (fun y=>c y.1);have hent:bD (ak (bE k held).2.aj j).aU p=some e:=by grind [oC.Hf]
    have hj':j<(bE k held).2.aj.length:=by rw[G.kept.np];exact hj
    have he':=(gh (G.right.sp hj').kP).1 hent;have hpk:(br (bE k held).2.slots e.loc.toNat).data=dO (bE k held).2 j p:=by grind [dO]
    have hsz:(br (bE k held).2.slots e.loc.toNat).data.size=16:=(G.right.slt e.loc.toNat (by grind [oC.kept,fp.ns])).size (fun z=>by
     grind [jb])
    have m:je (bE k held).2 j p (bE k held).1 (br (bE k held).2.slots e.loc.toNat).data true:=⟨G.right,hj',G.mapped hj hp,by rw[G.kept.nf];exact G.lt,G.free,hsz,fun y=>by cases y⟩;refine⟨uq m,G.kept.trans (zZ m hpk),G.lt,by grind [qx],fun j' hj2 q e he hk hin hne=>?_⟩
    grind [qx,oC.stay]
theorem GL {k:aN} (h:bc k) {j:Nat} (hj:j<k.aj.length) {p:Int} (hp:dx k j p) {a:Nat} (ha:bD (ak k.aj j).aU p=some ⟨p,1,a⟩) {held:List Int} (hl:held.length<=1):ft k j p held (iB k j p a held)/\(au (iB k j p a held).2.frames (iB k j p a held).1).refs=1:=by
 have hsp:=h.sp hj;have he:=(gh hsp.kP).1 ha;have hb:=(ic h hj he.1).resolve_right (fun y=>by grind);have hat:a<k.frames.length:=by grind
 unfold iB;by_cases c:(au k.frames a).refs=1
 · rw[aR c];exact⟨⟨h,fp.refl k,hat,ha,fun j' hj2 q e he hk hin hne=>he⟩,c⟩
 · rw[bf c];have G:=ll h (held:=held++[(a:Int)]) (by grind);obtain⟨g,hg⟩:=ex (bE k (held++[(a:Int)]));rw[<- hg] at G ⊢;have hent:bD (ak g.2.aj j).aU p=some ⟨p,1,a⟩:=G.stay h hj ha (fun _=>kq.2 (.inr (by simp)));have hj':j<g.2.aj.length:=by rw[G.kept.np];exact hj
   have he':=(gh (G.right.sp hj').kP).1 hent;have hpk:(au g.2.frames a).data=dO g.2 j p:=by grind [dO]
   have hsz:(au g.2.frames a).data.size=16:=(G.right.yS a (by rw[G.kept.nf];exact hat)).size (fun z=>by
    have:=jb hj' he'.1
    grind)
   have m:je g.2 j p g.1 (au g.2.frames a).data true:=⟨G.right,hj',G.mapped hj hp,by rw[G.kept.nf];exact G.lt,G.free,hsz,fun y=>by cases y⟩;refine⟨⟨uq m,G.kept.trans (zZ m hpk),G.lt,by grind [qx],fun j' hj2 q e he hk hin hne=>?_⟩,?_⟩
   · grind [qx,oC.stay]
   grind [mN]
theorem Ug {k:aN} {j:Nat} {p:Int} {held:List Int} {r:Nat×aN} (b:ft k j p held r) (hj:j<k.aj.length) (way:Int):ft k j p held (r.1,Md r.2 way r.1):=by
 have h:=b.right;have hlt:r.1<r.2.frames.length:=by rw[b.kept.nf];exact b.lt
 have hj':j<r.2.aj.length:=by rw[b.kept.np];exact hj
 have he:=(gh (h.sp hj').kP).1 b.here;have hL:ck r.2.aj 1 r.1≠[]:=fun z=>by
  have:=jb hj' he.1
  grind
 have hf:=h.yS r.1 hlt;have hR:bc (Md r.2 way r.1):=h.frame (f:=qy way (au r.2.frames r.1)) ⟨hf.refs,fun e=>absurd e hL,hf.one,hf.size,fun d=>hf.fill (by
  have d:((au r.2.frames r.1).eX || decide (way=1))=false:=d
  grind)⟩
 refine⟨hR,b.kept.trans ⟨rfl,iG,rfl,rfl,fun _ _=>rfl,fun _ _=>rfl,fun n hn q=>?_⟩,b.lt,b.here,b.stay⟩;unfold dO;show(match bD (ak r.2.aj n).aU q with
  | some e=>if e.kind=1 then (au (r.2.frames.set r.1 (qy way (au r.2.frames r.1))) e.loc.toNat).data else (br r.2.slots e.loc.toNat).data
  | none=>_)=_
 cases bD (ak r.2.aj n).aU q with
 | none=>rfl
 | some e =>
  show(if e.kind=1 then _ else _)=if e.kind=1 then _ else _
  rw[iD _ _ _ _ hlt];by_cases c:r.1=e.loc.toNat
  · rw[aR c,<- c];rfl
  grind
theorem ft.trans {k:aN} {j:Nat} {p:Int} {held:List Int} {r s:Nat×aN} (a:ft k j p held r) (b:ft r.2 j p held s):ft k j p held s :=
 ⟨b.right,a.kept.trans b.kept,by have:=b.lt;grind [kept,fp.nf],b.here,fun j' hj' q e he h1 h2 h3=>b.stay j' (by grind [kept,fp.np]) q e (a.stay j' hj' q e he h1 h2 h3) h1 h2 h3⟩
theorem fp.mapped {k k':aN} (h:fp k k') {j:Nat} (hj:j<k.aj.length) {p:Int} (hp:dx k j p):dx k' j p:=by grind [dx,bk]
theorem mj {k:aN} (h:bc k) {j:Nat} (hj:j<k.aj.length) {p:Int} (hp:dx k j p) (way:Int) {held:List Int} (hl:held.length<=1):ft k j p held (cQ k j p way held)/\(way=1->(au (cQ k j p way held).2.frames (cQ k j p way held).1).refs=1/\(au (cQ k j p way held).2.frames (cQ k j p way held).1).eX=true):=by
 have P:=sP h hj hp (held:=held) (by omega);have hT:ft k j p held (fQ k j p way held)/\(way=1->(au (fQ k j p way held).2.frames (fQ k j p way held).1).refs=1):=by
  grind [fQ,GL,ft.right,ft.kept,fp.np,fp.mapped,ft.here,ft.trans]
 refine⟨Ug hT.1 hj way,fun c=>?_⟩;have hlt:(fQ k j p way held).1<(fQ k j p way held).2.frames.length:=by rw[hT.1.kept.nf];exact hT.1.lt
 have e:au (cQ k j p way held).2.frames (cQ k j p way held).1=qy way (au (fQ k j p way held).2.frames (fQ k j p way held).1):=by
  show au ((fQ k j p way held).2.frames.set _ _) (fQ k j p way held).1=_
  grind [iD]
 grind [qy]
open Go.RowKit
structure eN where
 refs:Int
 page:Int
 zero:Bool
def dw:eN:=⟨0,0,false⟩
def cU (l:List eN) (i:Nat):eN:=l.getD i dw
def mM (us:List eN) (e:bG) (z:Bool):Bool:=decide (0<=e.loc/\e.loc<(us.length:Int))&&!(decide (0<(cU us e.loc.toNat).refs)&&(decide ((cU us e.loc.toNat).page≠e.page) || (cU us e.loc.toNat).zero != z))
def pJ (us:List eN) (e:bG) (z:Bool):List eN:=us.set e.loc.toNat ⟨(cU us e.loc.toNat).refs+1,e.page,z⟩
def uw (ar:List aZ) (last:Int) (uf us:List eN) (e:bG):Bool:=(bh ar e.page).2&&(decide (last<e.page)&&(if e.kind=1 then mM uf e (bh ar e.page).1.zero else if e.kind=2 then mM us e (bh ar e.page).1.zero else false))
def qz (ar:List aZ) (u:List eN×List eN) (e:bG):List eN×List eN:=if e.kind=1 then (pJ u.1 e (bh ar e.page).1.zero,u.2) else (u.1,pJ u.2 e (bh ar e.page).1.zero)
def nC (es:List bG) (k:Nat):Int:=if k=0 then 0 else (aH es (k-1)).page
def iL (ar:List aZ) (es:List bG) (u:List eN×List eN):Nat->List eN×List eN
 | 0=>u
 | k+1=>qz ar (iL ar es u k) (aH es k)
def jd (ar:List aZ) (es:List bG) (u:List eN×List eN):Nat->Bool
 | 0=>true
 | k+1=>jd ar es u k&&uw ar (nC es k) (iL ar es u k).1 (iL ar es u k).2 (aH es k)
def pj (hs:List bR) (ar:List aZ):Bool:=ar.all fun a=>(List.range a.bC.toNat).all fun n=>a.zero || decide ((eO hs (a.page+(n:Int))).size≠0)
def nR (hs:List bR) (s:cO):Bool:=if s.live then decide (bB s.bk=0)&&pj hs s.bk else decide (s.bk.length=0)&&decide (s.aU.length=0)
def jE (ss:List cO) (u:List eN×List eN):Nat->List eN×List eN
 | 0=>u
 | k+1=>iL (ak ss k).bk (ak ss k).aU (jE ss u k) (ak ss k).aU.length
def mh (hs:List bR) (ss:List cO) (u:List eN×List eN):Nat->Bool
 | 0=>true
 | k+1=>mh hs ss u k&&(nR hs (ak ss k)&&jd (ak ss k).bk (ak ss k).aU (jE ss u k) (ak ss k).aU.length)
def lj (f:jm):Bool:=decide (f.data.size=0/\f.refs=0/\f.eX=false/\f.seen=false)
def lW (f:lD):Bool:=decide (f.data.size=0/\f.refs=0)
def ja (hs:List bR) (f:jm) (u:eN):Bool:=if u.refs=0 then lj f else decide (f.refs=u.refs/\f.data.size=16)&&(f.eX || decide (f.data=dY hs u.page u.zero))
def kG (s:lD) (u:eN):Bool:=if u.refs=0 then lW s else decide (s.refs=u.refs/\s.data.size=16)
def wQ (k:aN):List eN×List eN:=jE k.aj (List.replicate k.frames.length dw,List.replicate k.slots.length dw) k.aj.length
def zj (k:aN):Bool:=ed k.aD&&(decide (0<=k.hand/\k.hand<(k.frames.length:Int))&&(mh k.aD k.aj (List.replicate k.frames.length dw,List.replicate k.slots.length dw) k.aj.length&&(decide (fL k.aj<=(k.slots.length:Int))&&((List.range k.frames.length).all (fun i=>ja k.aD (au k.frames i) (cU (wQ k).1 i))&&(List.range k.slots.length).all (fun i=>kG (br k.slots i) (cU (wQ k).2 i))))))
def eZ (k:aN):Int:=if lu k=false then 2 else if zj k then 0 else 1
def uS (L:List (Int×Bool)) (u:eN):Prop:=u.refs=L.length/\∀x∈L,x=(u.page,u.zero)
def uy (N:Int->Int->List (Int×Bool)) (nf ns:Nat) (u:List eN×List eN):Prop:=(u.1.length=nf/\u.2.length=ns)/\(∀i:Nat,i<nf->uS (N 1 i) (cU u.1 i))/\∀i:Nat,i<ns->uS (N 2 i) (cU u.2 i)
theorem Ch (l:List eN) (j n:Nat) (s:eN) (hj:j<l.length):cU (l.set j s) n=if j=n then s else cU l n:=by
 grind [cU]
theorem I9 {L:List (Int×Bool)} {u:eN} (h:uS L u) {p:Int} {z:Bool} (hc:¬(0<u.refs/\(u.page≠p∨u.zero≠z))):uS (L++[(p,z)]) ⟨u.refs+1,p,z⟩:=by
 refine⟨by show u.refs+1=_;rw[h.1,fk];rfl,fun x hx=>?_⟩;rcases kq.1 hx with g | g
 · have hpos:0<u.refs:=by rw[h.1];grind
   have e:=h.2 x g
   grind
 grind
theorem vN {us:List eN} {e:bG} {z:Bool}:mM us e z=true↔(0<=e.loc/\e.loc<(us.length:Int))/\¬(0<(cU us e.loc.toNat).refs/\((cU us e.loc.toNat).page≠e.page∨(cU us e.loc.toNat).zero≠z)):=by
 grind [mM]
theorem Ui {N:Int->Int->List (Int×Bool)} {nf ns:Nat} {u:List eN×List eN} (h:uy N nf ns u) {ar:List aZ} {last:Int} {e:bG} (hb:uw ar last u.1 u.2 e=true) :
  uy (fun kd i=>N kd i++iP ar kd i [e]) nf ns (qz ar u e)/\pW nf ns ar e/\last<e.page:=by
 unfold uw at hb;rw[cR,cR,gP] at hb;obtain⟨h1,h2,h3⟩:=hb;obtain⟨⟨l1,l2⟩,s1,s2⟩:=h;by_cases c:e.kind=1
 · rw[aR c] at h3;obtain⟨b,hc⟩:=vN.1 h3;refine⟨⟨⟨?_,?_⟩,fun i hi=>?_,fun i hi=>?_⟩,⟨h1,.inl ⟨c,b.1,by omega⟩⟩,h2⟩
   · grind [qz,pJ]
   · grind [qz]
   · grind [qz,pJ,Ch,ot,I9,lQ]
   grind [qz,lQ]
 · rw[bf c] at h3;by_cases c2:e.kind=2
   · rw[aR c2] at h3;obtain⟨b,hc⟩:=vN.1 h3;refine⟨⟨⟨?_,?_⟩,fun i hi=>?_,fun i hi=>?_⟩,⟨h1,.inr ⟨c2,b.1,by omega⟩⟩,h2⟩
     · grind [qz]
     · grind [qz,pJ]
     · grind [qz,lQ]
     grind [qz,pJ,Ch,ot,I9,lQ]
   grind
theorem Uk {N:Int->Int->List (Int×Bool)} {nf ns:Nat} {u:List eN×List eN} (h:uy N nf ns u) {ar:List aZ} {last:Int} {e:bG} (he:pW nf ns ar e) (hl:last<e.page) (ho:∀x∈N e.kind e.loc,x=(e.page,(bh ar e.page).1.zero)):uw ar last u.1 u.2 e=true:=by
 obtain⟨⟨l1,l2⟩,s1,s2⟩:=h;unfold uw;rw[he.1,dI hl,lT,lT];have key:∀(us:List eN) (n:Nat),us.length=n->(0<=e.loc/\e.loc<(n:Int))->uS (N e.kind (e.loc.toNat:Int)) (cU us e.loc.toNat)->mM us e (bh ar e.page).1.zero=true:=fun us n hn hb hs=>by
  rw[vN];refine⟨by omega,fun ⟨a,b⟩=>?_⟩;rw[hs.1] at a;obtain⟨x,hx⟩:=List.exists_mem_of_length_pos (show 0<(N e.kind (e.loc.toNat:Int)).length by omega);have e1:=hs.2 x hx
  grind
 rcases he.2 with g | g
 · grind
 grind
theorem vO (es:List bG) (k:Nat) (hk:k<es.length):es.take (k+1)=es.take k++[aH es k]:=by
 grind [List.take_add_one,aH]
theorem Cv {N:Int->Int->List (Int×Bool)} {nf ns:Nat} {u:List eN×List eN} (h:uy N nf ns u) (ar:List aZ) (es:List bG):∀k,k<=es.length->jd ar es u k=true->uy (fun kd i=>N kd i++iP ar kd i (es.take k)) nf ns (iL ar es u k)/\∀i,i<k->pW nf ns ar (aH es i)/\nC es i<(aH es i).page
 | 0,_,_=>⟨by
  have e:(fun kd i=>N kd i++iP ar kd i (es.take 0))=N:=by grind [iP]
  rw[e];exact h,fun i hi=>by omega⟩
 | k+1,hk,hb=>by
  unfold jd at hb;rw[cR] at hb;obtain⟨a1,a2⟩:=Cv h ar es k (by omega) hb.1;obtain⟨b1,b2,b3⟩:=Ui a1 hb.2;refine⟨?_,fun i hi=>?_⟩
  · have e:(fun kd i=>N kd i++iP ar kd i (es.take (k+1)))=fun kd i=>(N kd i++iP ar kd i (es.take k))++iP ar kd i [aH es k]:=by
     grind [vO,kH]
    rw[e];exact b1
  grind
theorem GK {N:Int->Int->List (Int×Bool)} {nf ns:Nat} {u:List eN×List eN} (h:uy N nf ns u) (ar:List aZ) (es:List bG) (he:∀i,i<es.length->pW nf ns ar (aH es i)/\nC es i<(aH es i).page) (ho:∀kd i,∀x∈N kd i++iP ar kd i es,∀y∈N kd i++iP ar kd i es,x=y):∀k,k<=es.length->jd ar es u k=true
 | 0,_=>rfl
 | k+1,hk=>by
  have ih:=GK h ar es he ho k (by omega);unfold jd;rw[ih,lT];obtain⟨a1,_⟩:=Cv h ar es k (by omega) ih;refine Uk a1 (he k (by omega)).1 (he k (by omega)).2 fun x hx=>?_
  have hm:(aH es k)∈es:=jc (by omega);refine ho (aH es k).kind (aH es k).loc x ?_ _ (kq.2 (.inr (Ij.2 ⟨_,hm,rfl,rfl,rfl⟩)))
  grind [Ij]
open Go.RowKit
def tA (k:Nat) (n:Int):ByteArray:=⟨(Lib.leBytes k (uV n)).toArray⟩
theorem wF (k:Nat) (n:Int):(tA k n).size=k:=by
 grind [tA,Lib.size_eq,Lib.leBytes_length]
structure uQ where
 op:Int
 a:Int
 b:Int
 c:Int
 m:Int
def uQ.cells (i:uQ):Array Value:=#[I i.op,I i.a,I i.b,I i.c,I i.m]
def Ho (n:Int):Prop:=0<=n/\n<=255
instance (n:Int):Decidable (Ho n):=by unfold Ho;infer_instance
def uQ.fits (i:uQ):Prop:=Ho i.op/\Ho i.a/\Ho i.b/\Ho i.c/\-2147483648<=i.m/\i.m<=2147483647
instance (i:uQ):Decidable i.fits:=by unfold uQ.fits;infer_instance
def uQ.bytes (i:uQ):ByteArray:=(((tA 1 i.op++tA 1 i.a)++tA 1 i.b)++tA 1 i.c)++tA 4 i.m
open Go.RowKit
open Go.RowKit
theorem xo:∀(l:List Int),(∀k,0<k->k<l.length->l.getD (k-1) 0<l.getD k 0)->l.Pairwise (·<·)
 | [],_=>List.Pairwise.nil
 | [a],_=>List.pairwise_singleton _ _
 | a::b::r,h=>by
  have ih:=xo (b::r) (fun k h1 h2=>by
   have:=h (k+1) (by omega) (by grind)
   grind)
  have h0:a<b:=h 1 (by omega) (by simp)
  grind [List.pairwise_cons]
theorem EK {l:List Int} (h:l.Pairwise (·<·)) (k:Nat) (h1:0<k) (h2:k<l.length):l.getD (k-1) 0<l.getD k 0:=by
 grind [List.pairwise_iff_getElem]
open Go.RowKit
theorem Ae (es:List bG) (k:Nat):(es.map (·.page)).getD k 0=(aH es k).page:=by
 unfold aH;rw[lU,lU,List.getElem?_map];cases es[k]? <;> rfl
theorem nU {ar:List aZ} {p:Int} (h:(bh ar p).2=true):1<=p/\p<256:=by
 have:=pC (p7 h) h;omega
theorem Cm {nf ns:Nat} {ar:List aZ} {es:List bG}:(∀i,i<es.length->pW nf ns ar (aH es i)/\nC es i<(aH es i).page)↔(∀e∈es,pW nf ns ar e)/\iw es:=by
 constructor
 · intro h;refine⟨fun e he=>?_,xo _ fun k h1 h2=>?_⟩
   · obtain⟨i,hi,rfl⟩:=gU dW he;exact(h i hi).1
   grind [Ae,nC]
 · rintro⟨h1,h2⟩ i hi;have he:=h1 (aH es i) (jc hi);refine⟨he,?_⟩;unfold nC;by_cases c:i=0
   · rw[aR c];have:=nU he.1;omega
   · rw[bf c,<- Ae,<- Ae];exact EK h2 i (by omega) (by grind)
theorem Cs {hs:List bR} (hr:ed hs=true) (p:Int):(eO hs p).size≠0↔(cY hs p).isSome=true:=by
 constructor
 · intro h;unfold eO at h;cases g:cY hs p with
   | some s=>rfl
   | none=>rw[g] at h;exact absurd rfl h
 grind [Ct]
theorem WH {ar:List aZ} (hc:bB ar=0) (p:Int):(bh ar p).2=true↔∃a∈ar,a.page<=p/\p<a.page+a.bC/\bh ar p=(a,true):=by
 grind [bh,x9,bl,xu]
theorem WG {ar:List aZ} (hc:bB ar=0) {a:aZ} (ha:a∈ar) {p:Int} (h1:a.page<=p) (h2:p<a.page+a.bC):bh ar p=(a,true):=by
 obtain⟨k,hk,e⟩:=gU rM ha;have e:bl ar k=a:=e;have hit:fP (bl ar k) p=true:=by grind [xu]
 grind [bh,IV,x9,Ls]
theorem Jf {hs:List bR} (hr:ed hs=true) {ar:List aZ} (hc:bB ar=0):pj hs ar=true↔∀p,(bh ar p).2=true->(bh ar p).1.zero=false->(cY hs p).isSome=true:=by
 unfold pj;rw[tZ];constructor
 · intro h p hp hz;obtain⟨a,ha,h1,h2,e⟩:=(WH hc p).1 hp;rw[e] at hz;have hz:a.zero=false:=hz;have:=h a ha;rw[tZ] at this;have:=this (p-a.page).toNat (vk.2 (by omega))
   grind [Cs]
 · intro h a ha;rw[tZ];intro n hn;have hn:=vk.1 hn;have e:=WG hc ha (p:=a.page+(n:Int)) (by omega) (by omega)
   grind [Cs]
theorem Ww (ss:List cO) (k:Nat) (hk:k<ss.length):ss.take (k+1)=ss.take k++[ak ss k]:=by
 grind [List.take_add_one,ak]
theorem yA (ss:List cO) (k:Nat) (hk:k<ss.length) (kd a:Int):ck (ss.take (k+1)) kd a=ck (ss.take k) kd a++iz (ak ss k) kd a:=by
 grind [Ww,JS,km,Rb]
theorem I8 (nf ns:Nat):uy (fun _ _=>[]) nf ns (List.replicate nf dw,List.replicate ns dw):=by
 have h:∀n i,cU (List.replicate n dw) i=dw:=fun n i=>by
  grind [cU]
 refine⟨⟨pG,pG⟩,fun i _=>?_,fun i _=>?_⟩
 · grind [uS,dw]
 grind [uS,dw]
theorem aa8 {hs:List bR} (hr:ed hs=true) {nf ns:Nat} {s:cO} (h1:nR hs s=true) (h2:(∀e∈s.aU,pW nf ns s.bk e)/\iw s.aU):rH hs nf ns s:=by
 unfold nR at h1;by_cases c:s.live=true
 · rw[aR c,cR,gP] at h1;exact⟨fun d=>(by grind),h1.1,h2.2,h2.1,(Jf hr h1.1).1 h1.2⟩
 · rw[bf c,cR,gP,gP] at h1;have ha:=iT h1.1;refine⟨fun _=>⟨ha,iT h1.2⟩,by rw[ha];rfl,h2.2,h2.1,fun p hp=>?_⟩;rw[ha] at hp;cases hp
theorem aa9 {hs:List bR} (hr:ed hs=true) {nf ns:Nat} {s:cO} (h:rH hs nf ns s):nR hs s=true:=by
 grind [nR,Jf,rH.bk,rH.aD,rH.dead]
theorem wS {hs:List bR} (hr:ed hs=true) {nf ns:Nat} {u:List eN×List eN} (h:uy (fun _ _=>[]) nf ns u) (ss:List cO):∀k,k<=ss.length->mh hs ss u k=true->uy (fun kd i=>ck (ss.take k) kd i) nf ns (jE ss u k)/\∀i,i<k->rH hs nf ns (ak ss i)
 | 0,_,_=>⟨by
  have e:(fun kd i=>ck (ss.take 0) kd i)=fun _ _=>[]:=by rfl
  rw[e];exact h,fun i hi=>by omega⟩
 | k+1,hk,hb=>by
  unfold mh at hb;rw[cR,cR] at hb;obtain⟨a1,a2⟩:=wS hr h ss k (by omega) hb.1;obtain⟨b1,b2⟩:=Cv a1 (ak ss k).bk (ak ss k).aU _ (aI _) hb.2.2;refine⟨?_,fun i hi=>?_⟩
  · have e:(fun kd i=>ck (ss.take (k+1)) kd i)=fun kd i=>ck (ss.take k) kd i++iP (ak ss k).bk kd i ((ak ss k).aU.take (ak ss k).aU.length):=by
     funext kd i;rw[yA ss k (by omega),qd];rfl
    rw[e];exact b1
  · by_cases c:i=k
    · simp_all [aa8,Cm]
    grind
theorem Ra {ss:List cO} {k:Nat} {kd a:Int} {x:Int×Bool} (h:x∈ck (ss.take k) kd a):x∈ck ss kd a:=by
 grind [nA]
theorem Ja {hs:List bR} (hr:ed hs=true) {nf ns:Nat} {u:List eN×List eN} (h:uy (fun _ _=>[]) nf ns u) (ss:List cO) (hsp:∀i,i<ss.length->rH hs nf ns (ak ss i)) (ho:∀kd i,∀x∈ck ss kd i,∀y∈ck ss kd i,x=y):∀k,k<=ss.length->mh hs ss u k=true
 | 0,_=>rfl
 | k+1,hk=>by
  have ih:=Ja hr h ss hsp ho k (by omega);unfold mh;obtain⟨a1,_⟩:=wS hr h ss k (by omega) ih;have g:=hsp k (by omega);rw[ih,aa9 hr g,lT,lT];refine GK a1 _ _ (Cm.2 ⟨g.Hf,g.kP⟩) (fun kd i x hx y hy=>?_) _ (aI _);have key:∀z,z∈ck (ss.take k) kd i++iP (ak ss k).bk kd i (ak ss k).aU->z∈ck ss kd i:=fun z hz=>by
   refine Ra (k:=k+1) ?_;rw[yA ss k (by omega)];exact hz
  grind
theorem xc (f:jm):lj f=true↔f=eW:=by
 unfold lj;rw[gP];constructor
 · rintro⟨h1,h2,h3,h4⟩;obtain⟨⟨⟨d⟩⟩,r,a,b⟩:=f;simp only at h2 h3 h4;subst h2 h3 h4;have:d=[]:=iT h1;subst this;rfl
 · rintro rfl;exact⟨rfl,rfl,rfl,rfl⟩
theorem xY (f:lD):lW f=true↔f=jS:=by
 unfold lW;rw[gP];constructor
 · rintro⟨h1,h2⟩;obtain⟨⟨⟨d⟩⟩,r⟩:=f;simp only at h2;subst h2;have:d=[]:=iT h1;subst this;rfl
 · rintro rfl;exact⟨rfl,rfl⟩
theorem L3 {L:List (Int×Bool)} {u:eN} (h:uS L u):∀x∈L,∀y∈L,x=y:=fun x hx y hy=>(h.2 x hx).trans (h.2 y hy).symm
theorem wR {L:List (Int×Bool)} {u:eN} (h:uS L u):u.refs=0↔L=[]:=by
 rw[h.1]
 simp_all
theorem Pj {hs:List bR} {L:List (Int×Bool)} {u:eN} (h:uS L u) (f:jm):ja hs f u=true↔kI hs L f:=by
 unfold ja;by_cases c:u.refs=0
 · grind [wR,xc,kI.none,kI.zero]
 · have hL:L≠[]:=fun e=>c ((wR h).2 e)
   rw[bf c,cR,gP,zu,gP];constructor
   · rintro⟨⟨h1,h2⟩,h3⟩;refine⟨h1.trans h.1,fun e=>absurd e hL,L3 h,fun _=>h2,fun d x hx=>?_⟩;rw[h.2 x hx]
     grind
   · intro g;refine⟨⟨g.refs.trans h.1.symm,g.size hL⟩,?_⟩;cases d:f.eX with
     | true=>grind
     | false =>
      obtain⟨x,hx⟩:=E7 _ hL;have:=g.fill d x hx;rw[h.2 x hx] at this
      grind
theorem Pd {L:List (Int×Bool)} {u:eN} (h:uS L u) (f:lD):kG f u=true↔l7 L f:=by
 unfold kG;by_cases c:u.refs=0
 · grind [wR,xY,l7.none,l7.zero]
 · have hL:L≠[]:=fun e=>c ((wR h).2 e)
   rw[bf c,gP];constructor
   · rintro⟨h1,h2⟩;exact⟨h1.trans h.1,fun e=>absurd e hL,L3 h,fun _=>h2⟩
   · intro g;exact⟨g.refs.trans h.1.symm,g.size hL⟩
theorem Jh (k:aN) (hc:lu k=true):zj k=true↔bc k:=by
 unfold zj;simp only[cR,gP,tZ,vk];have hz:=I8 k.frames.length k.slots.length;have hn:(fun kd i=>ck (k.aj.take k.aj.length) kd i)=fun kd i=>ck k.aj kd i:=by grind
 constructor
 · rintro⟨h1,h2,h3,h4,h5,h6⟩;obtain⟨a1,a2⟩:=wS h1 hz k.aj _ (aI _) h3;rw[hn] at a1;refine⟨hc,h1,h2,fun s hs=>?_,h4,fun i hi=>(Pj (a1.2.1 i hi) _).1 (h5 i hi),fun i hi=>(Pd (a1.2.2 i hi) _).1 (h6 i hi)⟩;obtain⟨j,hj,rfl⟩:=gU sM hs;exact a2 j hj
 · intro h;have ho:∀kd i,∀x∈ck k.aj kd i,∀y∈ck k.aj kd i,x=y:=fun kd i x hx y hy=>by
    obtain⟨s,hs,e,he,g1,g2,_⟩:=nA.1 hx;obtain⟨j,hj,rfl⟩:=gU sM hs;rcases ic h hj he with b | b
    · have:=(h.yS e.loc.toNat b.2.2).one x (by grind) y (by grind);omega
    grind [bc.slt,l7.one]
   have hb:=Ja h.kP hz k.aj (fun i hi=>h.sp hi) ho _ (aI _);obtain⟨a1,_⟩:=wS h.kP hz k.aj _ (aI _) hb;rw[hn] at a1;exact⟨h.kP,h.hand,hb,h.room,fun i hi=>(Pj (a1.2.1 i hi) _).2 (h.yS i hi),fun i hi=>(Pd (a1.2.2 i hi) _).2 (h.slt i hi)⟩
theorem nJ (k:aN):eZ k=0↔bc k:=by
 grind [eZ,Jh,bc.counts]
end Go.Proofs.YtpgifpeohlllfaaGreat
