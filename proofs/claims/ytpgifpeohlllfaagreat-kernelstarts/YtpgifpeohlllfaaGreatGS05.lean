import Derived.Test.YtpgifpeohlllfaaGreatGS00
import Derived.Test.YtpgifpeohlllfaaGreatGS04
import Derived.Test.YtpgifpeohlllfaaGreatGS02
set_option maxHeartbeats 20000000
set_option linter.unusedVariables false
set_option maxRecDepth 100000
set_option linter.unusedSimpArgs false
namespace Go.Proofs.YtpgifpeohlllfaaGreat
namespace KM
open Go.RowKit
theorem II {i:Int} {es:List En} (h:kI es) (p:Int):bc (yj i es) p=(bc es p).filter fun e=>!jc i e:=by
 cases g:bc es p with
 | none=>rw[Option.filter_none,kW];rw[kW] at g;exact fun e he=>g e (s8.1 he).1
 | some e =>
  have he:=(dH h).1 g
  by_cases c:e.kind=1/\e.loc=i
  · rw[Option.filter_some,iC.2 c,if_neg (by simp),kW]
    intro x hx hp
    have hx:=s8.1 hx
    have:some x=some e:=((dH h).2 ⟨hx.1,hp⟩).symm.trans g
    injection this with this
    exact hx.2 (by rw[this];exact c)
  · rw[Option.filter_some,jn.2 c,if_pos (by simp),dH (D9 h)]
    exact⟨s8.2 ⟨he.1,c⟩,he.2⟩
theorem Dy {i s:Int} {es:List En} (h:kI es) (p:Int):bc (gw i s es) p=(bc es p).map fun e=>if jc i e then ⟨e.page,2,s⟩ else e:=by
 cases g:bc es p with
 | none =>
  rw[Option.map_none,kW];rw[kW] at g
  intro x hx
  rcases pJ.1 hx with y | ⟨y,hy,_,rfl⟩
  · exact g x y.1
  · exact g y hy
 | some e =>
  have he:=(dH h).1 g
  rw[Option.map_some,dH (Aq h)]
  by_cases c:e.kind=1/\e.loc=i
  · rw[iC.2 c,if_pos rfl]
    exact⟨pJ.2 (.inr ⟨e,he.1,c,rfl⟩),he.2⟩
  · rw[jn.2 c,if_neg (by simp)]
    exact⟨pJ.2 (.inl ⟨he.1,c⟩),he.2⟩
theorem jL (f:Sp->Sp) (l:List Sp) (j:Nat) (hj:j<l.length):au (l.map f) j=f (au l j):=getD_map f Fw Fw l j hj
structure Kept (k k':Kn):Prop where
 ak:k'.ak=k.ak
 nf:k'.frames.length=k.frames.length
 ns:k'.slots.length=k.slots.length
 np:k'.aj.length=k.aj.length
 live:∀j,j<k.aj.length->(au k'.aj j).live=(au k.aj j).live
 aD:∀j,j<k.aj.length->(au k'.aj j).aD=(au k.aj j).aD
 Cn:∀j,j<k.aj.length->∀p,dB k' j p=dB k j p
theorem Kept.refl (k:Kn):Kept k k:=⟨rfl,rfl,rfl,rfl,fun _ _=>rfl,fun _ _=>rfl,fun _ _ _=>rfl⟩
theorem Kept.trans {a b c:Kn} (h:Kept a b) (g:Kept b c):Kept a c :=
 ⟨g.ak.trans h.ak,g.nf.trans h.nf,g.ns.trans h.ns,g.np.trans h.np,fun j hj=>(g.live j (by rw[h.np];exact hj)).trans (h.live j hj),fun j hj=>(g.aD j (by rw[h.np];exact hj)).trans (h.aD j hj),fun j hj p=>(g.Cn j (by rw[h.np];exact hj) p).trans (h.Cn j hj p)⟩
theorem Lv {k:Kn} (h:aU k) {i:Nat} (hi:i<k.frames.length) (hd:(aI k.frames i).b9=false):Kept k (rA k i):=by
 refine⟨rfl,List.length_set,rfl,List.length_map ..,fun j hj=>?_,fun j hj=>?_,fun j hj p=>?_⟩
 · show(au (k.aj.map (nX i)) j).live=_;rw[jL _ _ _ hj];rfl
 · show(au (k.aj.map (nX i)) j).aD=_;rw[jL _ _ _ hj];rfl
 · have hsp:=h.sp hj
   unfold dB
   show(match bc (au (k.aj.map (nX i)) j).aA p with
    | some e=>if e.kind=1 then (aI (k.frames.set i kY) e.loc.toNat).data else (bG k.slots e.loc.toNat).data
    | none=>dY k.ak p (AM.aT (au (k.aj.map (nX i)) j).aD p).1.zero)=_
   rw[jL _ _ _ hj]
   show(match bc (yj i (au k.aj j).aA) p with
    | some e=>if e.kind=1 then (aI (k.frames.set i kY) e.loc.toNat).data else (bG k.slots e.loc.toNat).data
    | none=>dY k.ak p (AM.aT (au k.aj j).aD p).1.zero)=_
   rw[II hsp.eN]
   cases g:bc (au k.aj j).aA p with
   | none=>rfl
   | some e =>
    have he:=(dH hsp.eN).1 g
    have hb:=fV h hj he.1
    by_cases c:e.kind=1/\e.loc=(i:Int)
    · rw[Option.filter_some,iC.2 c,if_neg (by simp)]
      show _=if e.kind=1 then _ else _
      rw[if_pos c.1,show e.loc.toNat=i by omega]
      have:=fO hj he.1
      rw[c.1,c.2] at this
      have:=(h.nz i hi).fill hd _ this
      rw[this,he.2]
    · rw[Option.filter_some,jn.2 c,if_pos (by simp)]
      show(if e.kind=1 then _ else _)=if e.kind=1 then _ else _
      by_cases c1:e.kind=1
      · rw[if_pos c1,if_pos c1,eU _ _ _ _ hi,if_neg (fun e1=>c ⟨c1,by omega⟩)]
      · rw[if_neg c1,if_neg c1]
theorem JS {k:Kn} (h:aU k) {i s:Nat} (hi:i<k.frames.length) (hs:s<k.slots.length) (hf:names k.aj 2 s=[]):Kept k (xB k i s):=by
 refine⟨rfl,List.length_set,List.length_set,List.length_map ..,fun j hj=>?_,fun j hj=>?_,fun j hj p=>?_⟩
 · show(au (k.aj.map (ie i s)) j).live=_;rw[jL _ _ _ hj];rfl
 · show(au (k.aj.map (ie i s)) j).aD=_;rw[jL _ _ _ hj];rfl
 · have hsp:=h.sp hj
   unfold dB
   show(match bc (au (k.aj.map (ie i s)) j).aA p with
    | some e=>if e.kind=1 then (aI (k.frames.set i kY) e.loc.toNat).data else (bG (k.slots.set s ⟨(aI k.frames i).data,(aI k.frames i).refs⟩) e.loc.toNat).data
    | none=>dY k.ak p (AM.aT (au (k.aj.map (ie i s)) j).aD p).1.zero)=_
   rw[jL _ _ _ hj]
   show(match bc (gw i s (au k.aj j).aA) p with
    | some e=>if e.kind=1 then (aI (k.frames.set i kY) e.loc.toNat).data else (bG (k.slots.set s ⟨(aI k.frames i).data,(aI k.frames i).refs⟩) e.loc.toNat).data
    | none=>dY k.ak p (AM.aT (au k.aj j).aD p).1.zero)=_
   rw[Dy hsp.eN]
   cases g:bc (au k.aj j).aA p with
   | none=>rfl
   | some e =>
    have he:=(dH hsp.eN).1 g
    have hb:=fV h hj he.1
    by_cases c:e.kind=1/\e.loc=(i:Int)
    · rw[Option.map_some,iC.2 c,if_pos rfl]
      show(if (2:Int)=1 then _ else (bG (k.slots.set s _) (s:Int).toNat).data)=if e.kind=1 then _ else _
      rw[if_neg (by omega),if_pos c.1,Int.toNat_natCast,nO _ _ _ _ hs,if_pos rfl,show e.loc.toNat=i by omega]
    · rw[Option.map_some,jn.2 c,if_neg (by simp)]
      show(if e.kind=1 then _ else _)=if e.kind=1 then _ else _
      by_cases c1:e.kind=1
      · rw[if_pos c1,if_pos c1,eU _ _ _ _ hi,if_neg (fun e1=>c ⟨c1,by omega⟩)]
      · rw[if_neg c1,if_neg c1,nO _ _ _ _ hs,if_neg (fun e1=>by
         have:=fO hj he.1
         rw[show e.kind=2 by omega,show e.loc=(s:Int) by omega,hf] at this
         cases this)]
theorem H6 {k:Kn} (h:aU k) {i:Nat} (hi:i<k.frames.length) (hr:(aI k.frames i).refs≠0):Kept k (cT k i):=by
 unfold cT
 by_cases c:(aI k.frames i).b9=true
 · rw[if_pos c]
   obtain⟨s,h1,h2,h3⟩:=h.slot hi hr
   rw[h1]
   exact JS h hi h2 h3
 · rw[if_neg c]
   exact Lv h hi (by simpa using c)
theorem H7 (k:Kn) (i:Nat):names (cT k i).aj 1 i=[]:=by
 unfold cT
 by_cases c:(aI k.frames i).b9=true
 · rw[if_pos c]
   cases rq k.slots with
   | none=>exact ju (nX i) 1 i _ (fun s _=>ow s.aD i s.aA)
   | some s=>exact ju (ie i s) 1 i _ (fun sp _=>vd sp.aD i s sp.aA)
 · rw[if_neg c]
   exact ju (nX i) 1 i _ (fun s _=>ow s.aD i s.aA)
theorem tP (k:Kn) (i:Nat):(cT k i).frames=k.frames.set i kY/\(cT k i).hand=k.hand:=by
 unfold cT
 by_cases c:(aI k.frames i).b9=true
 · rw[if_pos c]
   cases rq k.slots with
   | none=>exact⟨rfl,rfl⟩
   | some s=>exact⟨rfl,rfl⟩
 · rw[if_neg c];exact⟨rfl,rfl⟩
theorem LK {k:Kn} (h:aU k) (i:Nat) {j:Nat} (hj:j<k.aj.length) (p:Int) (hn:∀e,bc (au k.aj j).aA p=some e->¬(e.kind=1/\e.loc=(i:Int))):bc (au (cT k i).aj j).aA p=bc (au k.aj j).aA p:=by
 have hr:=(h.sp hj).eN
 have hD:bc (au (k.aj.map (nX i)) j).aA p=bc (au k.aj j).aA p:=by
  rw[jL _ _ _ hj]
  show bc (yj i (au k.aj j).aA) p=_
  rw[II hr]
  cases g:bc (au k.aj j).aA p with
  | none=>rfl
  | some e=>rw[Option.filter_some,jn.2 (hn e g),if_pos (by simp)]
 unfold cT
 by_cases c:(aI k.frames i).b9=true
 · rw[if_pos c]
   cases rq k.slots with
   | none=>exact hD
   | some s =>
    show bc (au (k.aj.map (ie i s)) j).aA p=_
    rw[jL _ _ _ hj]
    show bc (gw i s (au k.aj j).aA) p=_
    rw[Dy hr]
    cases g:bc (au k.aj j).aA p with
    | none=>rfl
    | some e=>rw[Option.map_some,jn.2 (hn e g),if_neg (by simp)]
 · rw[if_neg c];exact hD
theorem H5 {k:Kn} (h:aU k) {i:Nat} (hi:i<k.frames.length) (hr:(aI k.frames i).refs≠0) (n:Nat) (hn:names k.aj 2 n≠[]):bG (cT k i).slots n=bG k.slots n:=by
 unfold cT
 by_cases c:(aI k.frames i).b9=true
 · rw[if_pos c]
   obtain⟨s,h1,h2,h3⟩:=h.slot hi hr
   rw[h1]
   show bG (k.slots.set s _) n=_
   rw[nO _ _ _ _ h2,if_neg (fun e=>hn (by rw[<- e];exact h3))]
 · rw[if_neg c];rfl
theorem uw {k:Kn} {j:Nat} {p:Int} {i:Nat} {d:ByteArray} {dy:Bool} (m:kQ k j p i d dy) (hd:d=dB k j p):Kept k (cW k j p i d dy):=by
 have h:=m.right
 have hsp:=h.sp m.hj
 have hR:=oD m
 obtain⟨f1,f2,f3,f4,f5,f6,f7⟩:=iB k j p i d dy m
 have hat:∀n,au (cW k j p i d dy).aj n=if j=n then dV (au k.aj j) (mK (au k.aj j).aA ⟨p,1,i⟩) else au k.aj n:=fun n=>by rw[f5,gL _ _ _ _ m.hj]
 have rX:(cW k j p i d dy).aj.length=k.aj.length:=by rw[f5,List.length_set]
 refine⟨f3,f1,f2,rX,fun n hn=>?_,fun n hn=>?_,fun n hn q=>?_⟩
 · rw[hat];by_cases c:j=n
   · rw[if_pos c,<- c];rfl
   · rw[if_neg c]
 · rw[hat];by_cases c:j=n
   · rw[if_pos c,<- c];rfl
   · rw[if_neg c]
 · have acG:(au (cW k j p i d dy).aj n).aD=(au k.aj n).aD:=by
    rw[hat];by_cases c:j=n
    · rw[if_pos c,<- c];rfl
    · rw[if_neg c]
   have hent:bc (au (cW k j p i d dy).aj n).aA q=if j=n/\q=p then some ⟨p,1,i⟩ else bc (au k.aj n).aA q:=by
    rw[hat]
    by_cases c:j=n
    · rw[if_pos c]
      show bc (mK (au k.aj j).aA ⟨p,1,i⟩) q=_
      rw[IG hsp.eN]
      by_cases c2:q=p
      · rw[if_pos c2,if_pos ⟨c,c2⟩]
      · rw[if_neg c2,if_neg (fun g=>c2 g.2),c]
    · rw[if_neg c,if_neg (fun g=>c g.1)]
   by_cases c:j=n/\q=p
   · obtain⟨rfl,rfl⟩:=c
     rw[<- hd]
     unfold dB
     rw[hent,if_pos ⟨rfl,rfl⟩]
     show(aI (cW k j q i d dy).frames (i:Int).toNat).data=d
     rw[f6,Int.toNat_natCast,if_pos rfl]
   · rw[if_neg c] at hent
     have hn':n<(cW k j p i d dy).aj.length:=by rw[rX];exact hn
     have abY:=h.sp hn
     unfold dB
     rw[hent,acG,f3]
     cases g:bc (au k.aj n).aA q with
     | none=>rfl
     | some e =>
      have he:=(dH abY.eN).1 g
      have hb:=fV h hn he.1
      have he':=(dH (hR.sp hn').eN).1 (hent.trans g)
      have qy:=fO hn' he'.1
      have Yp:=fO hn he.1
      show(if e.kind=1 then _ else _)=if e.kind=1 then _ else _
      by_cases c1:e.kind=1
      · rw[if_pos c1,if_pos c1,f6]
        have hb:=hb.resolve_right (fun x=>by omega)
        have hni:e.loc.toNat≠i:=fun e1=>by
         rw[c1,show e.loc=(i:Int) by omega,m.free] at Yp;cases Yp
        rw[if_neg hni]
        have hF:=hR.nz e.loc.toNat (by rw[f1];exact hb.2.2)
        rw[f6,if_neg hni] at hF
        have hne:names (cW k j p i d dy).aj 1 (e.loc.toNat:Int)≠[]:=fun e1=>by
         rw[c1,<- hb.2.1,e1] at qy;cases qy
        cases g2:bc (au k.aj j).aA p with
        | none=>rfl
        | some e2 =>
         rw[g2] at hF
         have hF:wj _ _ (if e2.kind=1/\e2.loc=(e.loc.toNat:Int) then lq (aI k.frames e.loc.toNat) else aI k.frames e.loc.toNat):=hF
         show(if e2.kind=1/\e2.loc=(e.loc.toNat:Int) then lq (aI k.frames e.loc.toNat) else aI k.frames e.loc.toNat).data=_
         by_cases c3:e2.kind=1/\e2.loc=(e.loc.toNat:Int)
         · rw[if_pos c3] at hF ⊢
           unfold lq at hF ⊢
           by_cases c4:(aI k.frames e.loc.toNat).refs-1=0
           · rw[if_pos c4] at hF
             exact absurd (hF.nil rfl) hne
           · rw[if_neg c4]
         · rw[if_neg c3]
      · rw[if_neg c1,if_neg c1,f7]
        have hb:=hb.resolve_left (fun x=>c1 x.1)
        have hF:=hR.slt e.loc.toNat (by rw[f2];exact hb.2.2)
        rw[f7] at hF
        have hne:names (cW k j p i d dy).aj 2 (e.loc.toNat:Int)≠[]:=fun e1=>by
         rw[hb.1,<- hb.2.1,e1] at qy;cases qy
        cases g2:bc (au k.aj j).aA p with
        | none=>rfl
        | some e2 =>
         rw[g2] at hF
         have hF:Fh _ (if e2.kind=2/\e2.loc=(e.loc.toNat:Int) then n7 (bG k.slots e.loc.toNat) else bG k.slots e.loc.toNat):=hF
         show(if e2.kind=2/\e2.loc=(e.loc.toNat:Int) then n7 (bG k.slots e.loc.toNat) else bG k.slots e.loc.toNat).data=_
         by_cases c3:e2.kind=2/\e2.loc=(e.loc.toNat:Int)
         · rw[if_pos c3] at hF ⊢
           unfold n7 at hF ⊢
           by_cases c4:(bG k.slots e.loc.toNat).refs-1=0
           · rw[if_pos c4] at hF
             exact absurd (hF.nil rfl) hne
           · rw[if_neg c4]
         · rw[if_neg c3]
def gA (k:Kn):Int:=(k.hand+1)%(k.frames.length:Int)
def ki (held:List Int) (k:Kn):Bool:=held.contains k.hand || (aI k.frames k.hand.toNat).seen
def unseen (f:Fr):Fr:={ f with seen:=false }
def gK (held:List Int) (k:Kn):Kn:={ k with hand:=gA k,frames:=if held.contains k.hand then k.frames else k.frames.set k.hand.toNat (unseen (aI k.frames k.hand.toNat)) }
def bC (held:List Int):Nat->Kn->Kn
 | 0,k=>k
 | n+1,k=>gK held (bC held n k)
def jW (held:List Int):Nat->Kn->Kn
 | 0,k=>k
 | n+1,k=>if ki held k then jW held n (gK held k) else k
def Full (k:Kn):Prop:=∀i,i<k.frames.length->(aI k.frames i).refs≠0
theorem Iy (held:List Int) (k:Kn):(gK held k).frames.length=k.frames.length:=by
 unfold gK
 by_cases c:held.contains k.hand=true
 · rw[if_pos c]
 · rw[if_neg c];exact List.length_set
theorem Iz (held:List Int) {k:Kn} (hh:0<=k.hand/\k.hand<k.frames.length) (n:Nat):aI (gK held k).frames n=if (n:Int)=k.hand/\held.contains k.hand=false then unseen (aI k.frames n) else aI k.frames n:=by
 unfold gK
 by_cases c:held.contains k.hand=true
 · rw[if_pos c,if_neg (by rw[c];simp)]
 · show aI (if _ then _ else _) n=_
   rw[if_neg c,eU _ _ _ _ (by omega)]
   by_cases d:k.hand.toNat=n
   · rw[if_pos d,if_pos ⟨by omega,by simpa using c⟩,d]
   · rw[if_neg d,if_neg (by omega)]
theorem IM {k:Kn} (h3:3<=k.frames.length):0<=gA k/\gA k<k.frames.length:=⟨Int.emod_nonneg _ (by omega),Int.emod_lt_of_pos _ (by omega)⟩
theorem Gc (held:List Int) {k:Kn} (h:aU k) (hf:Full k):aU (gK held k)/\Full (gK held k)/\Kept k (gK held k)/\(gK held k).aj=k.aj/\(gK held k).slots=k.slots:=by
 have h3:=h.c.1.1
 have hn:=IM h3
 have hat:=Iz held h.hand
 refine⟨?_,fun i hi=>?_,⟨rfl,Iy held k,rfl,rfl,fun _ _=>rfl,fun _ _=>rfl,fun j hj p=>?_⟩,rfl,rfl⟩
 · unfold gK
   by_cases c:held.contains k.hand=true
   · rw[if_pos c];exact h.turn hn
   · rw[if_neg c]
     have hi:k.hand.toNat<k.frames.length:=by have:=h.hand;omega
     have:=(h.nz _ hi)
     have g:=h.frame (this.seen false (this.ne (hf _ hi)))
     exact aU.turn g (x:=gA k) (by show 0<=gA k/\gA k<((k.frames.set _ _).length:Int);rw[List.length_set];exact hn)
 · rw[Iy] at hi
   rw[hat]
   have:=hf i hi
   by_cases c:(i:Int)=k.hand/\held.contains k.hand=false
   · rw[if_pos c];exact this
   · rw[if_neg c];exact this
 · unfold dB
   show(match bc (au k.aj j).aA p with
    | some e=>if e.kind=1 then (aI (gK held k).frames e.loc.toNat).data else (bG k.slots e.loc.toNat).data
    | none=>_)=_
   have acw:∀n,(aI (gK held k).frames n).data=(aI k.frames n).data:=fun n=>by
    rw[hat]
    by_cases c:(n:Int)=k.hand/\held.contains k.hand=false
    · rw[if_pos c];rfl
    · rw[if_neg c]
   cases bc (au k.aj j).aA p with
   | none=>rfl
   | some e =>
    show(if e.kind=1 then (aI (gK held k).frames e.loc.toNat).data else _)=_
    rw[acw]
structure VC (held:List Int) (k:Kn) (n:Nat):Prop where
 right:aU (bC held n k)
 full:Full (bC held n k)
 kept:Kept k (bC held n k)
 aj:(bC held n k).aj=k.aj
 slots:(bC held n k).slots=k.slots
 hand:(bC held n k).hand=(k.hand+n)%(k.frames.length:Int)
 yN:∀i:Nat,(i:Int)∈held->aI (bC held n k).frames i=aI k.frames i
 past:∀m:Nat,m<n->∀i:Nat,(i:Int)=(k.hand+m)%(k.frames.length:Int)->(i:Int)∈held∨(aI (bC held n k).frames i).seen=false
theorem B0 (held:List Int) {k:Kn} (h:aU k) (hf:Full k):∀n,VC held k n
 | 0=>⟨h,hf,Kept.refl k,rfl,rfl,by have:=h.hand;show k.hand=(k.hand+((0:Nat):Int))%_;rw[Int.emod_eq_of_lt] <;> omega,fun _ _=>rfl,fun m hm=>by omega⟩
 | n+1=>by
  have t:=B0 held h hf n
  obtain⟨s1,s2,s3,s4,s5⟩:=Gc held t.right t.full
  have hat:=Iz held t.right.hand
  have l6:=t.kept.nf
  have hN:=h.c.1.1
  refine⟨s1,s2,t.kept.trans s3,s4.trans t.aj,s5.trans t.slots,?_,fun i hi=>?_,fun m hm i hi=>?_⟩
  · show gA (bC held n k)=_
    unfold gA
    rw[l6,t.hand,Int.emod_add_emod]
    congr 1
    omega
  · show aI (gK held (bC held n k)).frames i=_
    rw[hat,if_neg,t.yN i hi]
    intro g
    have:held.contains (bC held n k).hand=true:=by rw[List.contains_iff_mem,<- g.1];exact hi
    rw[this] at g
    cases g.2
  · show _∨(aI (gK held (bC held n k)).frames i).seen=false
    rw[hat]
    by_cases c:(i:Int)=(bC held n k).hand/\held.contains (bC held n k).hand=false
    · rw[if_pos c];exact .inr rfl
    · rw[if_neg c]
      by_cases d:m=n
      · subst d
        have e1:(i:Int)=(bC held m k).hand:=hi.trans t.hand.symm
        have:held.contains (bC held m k).hand=true:=by
         cases q:held.contains (bC held m k).hand with
         | true=>rfl
         | false=>exact absurd ⟨e1,q⟩ c
        rw[List.contains_iff_mem,<- e1] at this
        exact .inl this
      · exact t.past m (by omega) i hi
theorem third {held:List Int} (hl:held.length<=2) (a b c:Int) (h1:a≠b) (h2:a≠c) (h3:b≠c):a∉held∨b∉held∨c∉held:=by
 by_cases ha:a∈held
 · by_cases hb:b∈held
   · right;right
     intro hc
     have l1:=List.length_erase_of_mem ha
     have hb':b∈held.erase a:=(List.mem_erase_of_ne (fun e=>h1 e.symm)).2 hb
     have hc':c∈held.erase a:=(List.mem_erase_of_ne (fun e=>h2 e.symm)).2 hc
     have l2:=List.length_erase_of_mem hb'
     have hc'':c∈(held.erase a).erase b:=(List.mem_erase_of_ne (fun e=>h3 e.symm)).2 hc'
     have:=List.length_pos_of_mem hc''
     have:=List.length_pos_of_mem ha
     omega
   · exact .inr (.inl hb)
 · exact .inl ha
theorem ux {x n:Int} (h0:0<=x) (h1:x<2*n) (hn:0<n):(x<n/\x%n=x)∨(n<=x/\x%n=x-n):=by
 by_cases c:x<n
 · exact .inl ⟨c,Int.emod_eq_of_lt h0 c⟩
 · right
   refine⟨by omega,?_⟩
   rw[<- Int.sub_emod_right x n]
   exact Int.emod_eq_of_lt (by omega) (by omega)
theorem zh (held:List Int) (hl:held.length<=2) {k:Kn} (h:aU k) (hf:Full k):∃T,T<=66/\(∀m,m<T->ki held (bC held m k)=true)/\ki held (bC held T k)=false:=by
 have hN:=h.c.1
 have hex:∃T,T<=66/\ki held (bC held T k)=false:=by
  have hh:=h.hand
  obtain⟨N,hNe⟩:∃N:Int,N=(k.frames.length:Int):=⟨_,rfl⟩
  have hit:∀x:Nat,x<3->(k.hand+x)%N∉held->∃T,T<=66/\ki held (bC held T k)=false:=fun x hx hno=>by
   have t:=B0 held h hf (k.frames.length+x)
   have hm:0<=(k.hand+x)%N/\(k.hand+x)%N<N:=⟨Int.emod_nonneg _ (by omega),Int.emod_lt_of_pos _ (by omega)⟩
   have YC:(bC held (k.frames.length+x) k).hand=(k.hand+x)%N:=by
    rw[t.hand,<- hNe,<- Int.add_emod_right (k.hand+x) N,hNe]
    congr 1
    omega
   refine⟨k.frames.length+x,by omega,?_⟩
   unfold ki
   rw[YC]
   have hi:(((k.hand+x)%N).toNat:Int)=(k.hand+x)%N:=by omega
   have:=t.past x (by omega) ((k.hand+x)%N).toNat (by rw[hi,<- hNe])
   rw[hi] at this
   have c1:held.contains ((k.hand+x)%N)=false:=by
    cases q:held.contains ((k.hand+x)%N) with
    | false=>rfl
    | true=>exact absurd (List.contains_iff_mem.1 q) hno
   rw[c1,this.resolve_left hno]
   rfl
  have d0:=ux (x:=k.hand+(0:Nat)) (n:=N) (by omega) (by omega) (by omega)
  have d1:=ux (x:=k.hand+(1:Nat)) (n:=N) (by omega) (by omega) (by omega)
  have d2:=ux (x:=k.hand+(2:Nat)) (n:=N) (by omega) (by omega) (by omega)
  rcases third hl ((k.hand+(0:Nat))%N) ((k.hand+(1:Nat))%N) ((k.hand+(2:Nat))%N) (by omega) (by omega) (by omega) with g | g | g
  · exact hit 0 (by omega) g
  · exact hit 1 (by omega) g
  · exact hit 2 (by omega) g
 obtain⟨T,hT,hp⟩:=hex
 clear hN
 induction T using Nat.strongRecOn with
 | _ T ih =>
  by_cases c:∃m,m<T/\ki held (bC held m k)=false
  · obtain⟨m,hm,hq⟩:=c
    exact ih m hm (by omega) hq
  · exact⟨T,hT,fun m hm=>by
     cases q:ki held (bC held m k) with
     | true=>rfl
     | false=>exact absurd ⟨m,hm,q⟩ c,hp⟩
theorem zg (held:List Int):∀(T n:Nat) (k:Kn),T<=n->(∀m,m<T->ki held (bC held m k)=true)->ki held (bC held T k)=false->jW held (n+1) k=bC held T k:=fun T=>by
 have shift:∀m k,bC held m (gK held k)=bC held (m+1) k:=fun m k=>by
  induction m with
  | zero=>rfl
  | succ m ih=>show gK held _=gK held _;rw[ih]
 induction T with
 | zero =>
  intro n k _ _ h
  show(if ki held k then _ else k)=k
  rw[if_neg (by rw[show ki held k=false from h];simp)]
 | succ T ih =>
  intro n k hn h1 h2
  obtain⟨n,rfl⟩:∃m,n=m+1:=⟨n-1,by omega⟩
  show(if ki held k then jW held (n+1) (gK held k) else k)=_
  rw[if_pos (show ki held k=true from h1 0 (by omega)),ih n (gK held k) (by omega) (fun m hm=>by rw[shift];exact h1 (m+1) (by omega)) (by rw[shift];exact h2),shift]
def bR (k:Kn) (held:List Int):Nat×Kn:=match vJ k.frames with
 | some i=>(i,k)
 | none=>((jW held 70 k).hand.toNat,{ cT (jW held 70 k) (jW held 70 k).hand.toNat with hand:=gA (jW held 70 k) })
structure Z9 (k:Kn) (held:List Int) (g:Nat×Kn):Prop where
 right:aU g.2
 kept:Kept k g.2
 lt:g.1<k.frames.length
 free:names g.2.aj 1 g.1=[]
 yN:∀i:Nat,(i:Int)∈held->(aI k.frames i).refs≠0->i≠g.1/\aI g.2.frames i=aI k.frames i
 vW:∀j,j<k.aj.length->∀p,(∀e,bc (au k.aj j).aA p=some e->¬(e.kind=1/\e.loc=(g.1:Int)))->bc (au g.2.aj j).aA p=bc (au k.aj j).aA p
 slot:∀n:Nat,names k.aj 2 n≠[]->bG g.2.slots n=bG k.slots n
theorem m6 {k:Kn} (h:aU k) {held:List Int} (hl:held.length<=2):Z9 k held (bR k held):=by
 unfold bR
 cases hf:vJ k.frames with
 | some i =>
  obtain⟨h1,h2,_⟩:=List.findIdx?_eq_some_iff_getElem.1 hf
  have hr:(aI k.frames i).refs=0:=by
   unfold aI
   rw[List.getD_eq_getElem?_getD,List.getElem?_eq_getElem h1]
   exact of_decide_eq_true h2
  exact⟨h,Kept.refl k,h1,(h.nz i h1).nil hr,fun n _ hn=>⟨fun e=>hn (by rw[e];exact hr),rfl⟩,fun j _ p _=>rfl,fun _ _=>rfl⟩
 | none =>
  have hF:Full k:=fun i hi hr=>by
   have:=List.findIdx?_eq_none_iff.1 hf (aI k.frames i) (dX hi)
   simp[hr] at this
  obtain⟨T,hT,t1,t2⟩:=zh held hl h hF
  have hc:jW held 70 k=bC held T k:=zg held T 69 k (by omega) t1 t2
  rw[hc]
  have t:=B0 held h hF T
  obtain⟨k1,hk1⟩:=ex (bC held T k)
  have tr:=t.right;have tf:=t.full;have tk:=t.kept;have ts:=t.aj;have tl:=t.slots;have th:=t.yN
  rw[<- hk1] at t2 tr tf tk ts tl th ⊢
  obtain⟨i,hi⟩:=ex k1.hand.toNat
  have hh:=tr.hand
  have hi1:i<k1.frames.length:=by omega
  have hr:=tf i hi1
  have a1:=tr.aside hi1 hr
  have a2:=H6 tr hi1 hr
  have h3:=tr.c.1.1
  have a3:(cT k1 i).frames.length=k1.frames.length:=a2.nf
  rw[<- hi]
  have hb:aU { cT k1 i with hand:=gA k1 }:=a1.turn (by rw[a3];exact IM h3)
  have hkk:Kept (cT k1 i) { cT k1 i with hand:=gA k1 }:=⟨rfl,rfl,rfl,rfl,fun _ _=>rfl,fun _ _=>rfl,fun _ _ _=>rfl⟩
  have l6:=tk.nf
  refine⟨hb,tk.trans (a2.trans hkk),by show i<_;omega,H7 k1 i,fun n hn _=>?_,fun j hj p he=>?_,fun n hn=>?_⟩
  · have hne:n≠i:=fun e=>by
     unfold ki at t2
     have:held.contains k1.hand=true:=List.contains_iff_mem.2 (by rw[show k1.hand=(n:Int) by omega];exact hn)
     rw[this] at t2
     cases t2
    refine⟨hne,?_⟩
    show aI (cT k1 i).frames n=_
    rw[(tP k1 i).1,eU _ _ _ _ hi1,if_neg (fun e=>hne e.symm),th n hn]
  · show bc (au (cT k1 i).aj j).aA p=_
    rw[LK tr i (by rw[ts];exact hj) p (by rw[ts];exact he),ts]
  · show bG (cT k1 i).slots n=_
    rw[H5 tr hi1 hr n (by rw[ts];exact hn),tl]
def zeroAt (k:Kn) (j:Nat) (p:Int):Bool:=(AM.aT (au k.aj j).aD p).1.zero
def mapped (k:Kn) (j:Nat) (p:Int):Prop:=(AM.aT (au k.aj j).aD p).2=true
def bY (k:Kn) (j:Nat) (p:Int) (held:List Int):Nat×Kn:=match bc (au k.aj j).aA p with
 | some e=>if e.kind=1 then (e.loc.toNat,k) else ((bR k held).1,cW (bR k held).2 j p (bR k held).1 (bG (bR k held).2.slots e.loc.toNat).data true)
 | none=>((bR k held).1,cW (bR k held).2 j p (bR k held).1 (dY (bR k held).2.ak p (zeroAt (bR k held).2 j p)) false)
def ic (k:Kn) (j:Nat) (p:Int) (a:Nat) (held:List Int):Nat×Kn:=if (aI k.frames a).refs=1 then (a,k) else ((bR k (held++[(a:Int)])).1,cW (bR k (held++[(a:Int)])).2 j p (bR k (held++[(a:Int)])).1 (aI (bR k (held++[(a:Int)])).2.frames a).data true)
def mark (way:Int) (f:Fr):Fr:=⟨f.data,f.refs,f.b9 || decide (way=1),true⟩
def Nz (k:Kn) (way:Int) (i:Nat):Kn:={ k with frames:=k.frames.set i (mark way (aI k.frames i)) }
def iH (k:Kn) (j:Nat) (p way:Int) (held:List Int):Nat×Kn:=if way=1 then ic (bY k j p held).2 j p (bY k j p held).1 held else bY k j p held
def cj (k:Kn) (j:Nat) (p way:Int) (held:List Int):Nat×Kn:=((iH k j p way held).1,Nz (iH k j p way held).2 way (iH k j p way held).1)
structure j3 (k:Kn) (j:Nat) (p:Int) (held:List Int) (r:Nat×Kn):Prop where
 right:aU r.2
 kept:Kept k r.2
 lt:r.1<k.frames.length
 here:bc (au r.2.aj j).aA p=some ⟨p,1,r.1⟩
 stay:∀j',j'<k.aj.length->∀q e,bc (au k.aj j').aA q=some e->e.kind=1->e.loc∈held->¬(j'=j/\q=p)->bc (au r.2.aj j').aA q=some e
theorem lY {k:Kn} {j:Nat} {p:Int} {i:Nat} {d:ByteArray} {dy:Bool} (m:kQ k j p i d dy) (n:Nat) (q:Int):bc (au (cW k j p i d dy).aj n).aA q=if j=n/\q=p then some ⟨p,1,i⟩ else bc (au k.aj n).aA q:=by
 obtain⟨_,_,_,_,f5,_,_⟩:=iB k j p i d dy m
 rw[f5,gL _ _ _ _ m.hj]
 by_cases c:j=n
 · rw[if_pos c]
   show bc (mK (au k.aj j).aA ⟨p,1,i⟩) q=_
   rw[IG (m.right.sp m.hj).eN]
   by_cases c2:q=p
   · rw[if_pos c2,if_pos ⟨c,c2⟩]
   · rw[if_neg c2,if_neg (fun g=>c2 g.2),c]
 · rw[if_neg c,if_neg (fun g=>c g.1)]
theorem Z9.stay {k:Kn} (h:aU k) {held:List Int} {g:Nat×Kn} (G:Z9 k held g) {j:Nat} (hj:j<k.aj.length) {q:Int} {e:En} (he:bc (au k.aj j).aA q=some e) (hn:e.kind=1->e.loc∈held):bc (au g.2.aj j).aA q=some e:=by
 have hm:=(dH (h.sp hj).eN).1 he
 rw[G.vW j hj q ?_,he]
 intro x hx c
 rw[he] at hx
 injection hx with hx
 subst hx
 have hb:=(fV h hj hm.1).resolve_right (fun y=>by omega)
 have hne:(aI k.frames e.loc.toNat).refs≠0:=fun z=>by
  have:=fO hj hm.1
  rw[c.1,<- hb.2.1,(h.nz _ hb.2.2).nil z] at this
  cases this
 have:=(G.yN e.loc.toNat (by rw[hb.2.1];exact hn c.1) hne).1
 omega
theorem Z9.mapped {k:Kn} {held:List Int} {g:Nat×Kn} (G:Z9 k held g) {j:Nat} (hj:j<k.aj.length) {p:Int} (hp:mapped k j p):(AM.aT (au g.2.aj j).aD p).2=true:=by rw[G.kept.aD j hj];exact hp
theorem vR (hs:List LM.Sh) (hr:LM.cV hs=true) (p:Int) (h:(bU hs p).isSome=true):(filled hs p).size=16:=by
 unfold filled
 cases g:bU hs p with
 | none=>rw[g] at h;cases h
 | some s =>
  have hm:s∈hs:=List.mem_of_find?_eq_some g
  obtain⟨i,hi,e⟩:=eZ LM.L5 hm
  have hb:=(LM.jz hs hs.length hr i hi).1
  rw[show LM.aW hs i=s from e] at hb
  unfold LM.bN LM.jE at hb
  simp only[Bool.and_eq_true,decide_eq_true_eq] at hb
  exact LM.mU s.data s.bh hb.1.2.2 s.bh.length hb.2
theorem uI {k:Kn} (h:aU k) {j:Nat} (hj:j<k.aj.length) {p:Int} (hp:mapped k j p):(dY k.ak p (zeroAt k j p)).size=16:=by
 unfold dY
 cases z:zeroAt k j p with
 | true=>rfl
 | false=>exact vR _ h.eN p ((h.sp hj).ak p hp z)
theorem pP {k:Kn} (h:aU k) {j:Nat} (hj:j<k.aj.length) {p:Int} (hp:mapped k j p) {held:List Int} (hl:held.length<=2):j3 k j p held (bY k j p held):=by
 have hsp:=h.sp hj
 have G:=m6 h hl
 unfold bY
 cases g:bc (au k.aj j).aA p with
 | none =>
  dsimp only
  have hent:bc (au (bR k held).2.aj j).aA p=none:=by rw[G.vW j hj p (fun e he=>by rw[g] at he;cases he),g]
  have hpk:dY (bR k held).2.ak p (zeroAt (bR k held).2 j p)=dB (bR k held).2 j p:=by unfold dB;rw[hent];rfl
  have hj':j<(bR k held).2.aj.length:=by rw[G.kept.np];exact hj
  have m:kQ (bR k held).2 j p (bR k held).1 (dY (bR k held).2.ak p (zeroAt (bR k held).2 j p)) false:=⟨G.right,hj',G.mapped hj hp,by rw[G.kept.nf];exact G.lt,G.free,uI G.right hj' (G.mapped hj hp),fun _=>rfl⟩
  refine⟨oD m,G.kept.trans (uw m hpk),G.lt,by rw[lY m,if_pos ⟨rfl,rfl⟩],fun j' G8 q e he hk hin hne=>?_⟩
  rw[lY m,if_neg (fun x=>hne ⟨x.1.symm,x.2⟩)]
  exact G.stay h G8 he (fun _=>hin)
 | some e =>
  have he:=(dH hsp.eN).1 g
  dsimp only
  by_cases c:e.kind=1
  · rw[if_pos c]
    have hb:=(fV h hj he.1).resolve_right (fun y=>by omega)
    refine⟨h,Kept.refl k,hb.2.2,?_,fun j' G8 q e he hk hin hne=>he⟩
    show bc (au k.aj j).aA p=some ⟨p,1,(e.loc.toNat:Int)⟩
    rw[g,hb.2.1,<- c,<- he.2]
  · rw[if_neg c]
    have hb:=(fV h hj he.1).resolve_left (fun y=>c y.1)
    have hent:bc (au (bR k held).2.aj j).aA p=some e:=by rw[G.vW j hj p (fun x hx=>by rw[g] at hx;injection hx with hx;subst hx;exact fun y=>c y.1),g]
    have hj':j<(bR k held).2.aj.length:=by rw[G.kept.np];exact hj
    have he':=(dH (G.right.sp hj').eN).1 hent
    have hpk:(bG (bR k held).2.slots e.loc.toNat).data=dB (bR k held).2 j p:=by unfold dB;rw[hent];show _=if e.kind=1 then _ else _;rw[if_neg c]
    have hsz:(bG (bR k held).2.slots e.loc.toNat).data.size=16:=(G.right.slt e.loc.toNat (by rw[G.kept.ns];exact hb.2.2)).size (fun z=>by
     have:=fO hj' he'.1
     rw[hb.1,<- hb.2.1,z] at this
     cases this)
    have m:kQ (bR k held).2 j p (bR k held).1 (bG (bR k held).2.slots e.loc.toNat).data true:=⟨G.right,hj',G.mapped hj hp,by rw[G.kept.nf];exact G.lt,G.free,hsz,fun y=>by cases y⟩
    refine⟨oD m,G.kept.trans (uw m hpk),G.lt,by rw[lY m,if_pos ⟨rfl,rfl⟩],fun j' G8 q e he hk hin hne=>?_⟩
    rw[lY m,if_neg (fun x=>hne ⟨x.1.symm,x.2⟩)]
    exact G.stay h G8 he (fun _=>hin)
theorem Bv {k:Kn} (h:aU k) {j:Nat} (hj:j<k.aj.length) {p:Int} (hp:mapped k j p) {a:Nat} (ha:bc (au k.aj j).aA p=some ⟨p,1,a⟩) {held:List Int} (hl:held.length<=1):j3 k j p held (ic k j p a held)/\(aI (ic k j p a held).2.frames (ic k j p a held).1).refs=1:=by
 have hsp:=h.sp hj
 have he:=(dH hsp.eN).1 ha
 have hb:=(fV h hj he.1).resolve_right (fun y=>by have:=y.1;simp at this)
 have hat:a<k.frames.length:=by have:=hb.2.2;simpa using this
 unfold ic
 by_cases c:(aI k.frames a).refs=1
 · rw[if_pos c]
   exact⟨⟨h,Kept.refl k,hat,ha,fun j' G8 q e he hk hin hne=>he⟩,c⟩
 · rw[if_neg c]
   have G:=m6 h (held:=held++[(a:Int)]) (by rw[List.length_append,List.length_singleton];omega)
   obtain⟨g,hg⟩:=ex (bR k (held++[(a:Int)]))
   rw[<- hg] at G ⊢
   have hent:bc (au g.2.aj j).aA p=some ⟨p,1,a⟩:=G.stay h hj ha (fun _=>List.mem_append.2 (.inr (by simp)))
   have hj':j<g.2.aj.length:=by rw[G.kept.np];exact hj
   have he':=(dH (G.right.sp hj').eN).1 hent
   have hpk:(aI g.2.frames a).data=dB g.2 j p:=by unfold dB;rw[hent];show _=if (1:Int)=1 then (aI g.2.frames (a:Int).toNat).data else _;rw[if_pos rfl,Int.toNat_natCast]
   have hsz:(aI g.2.frames a).data.size=16:=(G.right.nz a (by rw[G.kept.nf];exact hat)).size (fun z=>by
    have:=fO hj' he'.1
    rw[z] at this
    cases this)
   have m:kQ g.2 j p g.1 (aI g.2.frames a).data true:=⟨G.right,hj',G.mapped hj hp,by rw[G.kept.nf];exact G.lt,G.free,hsz,fun y=>by cases y⟩
   refine⟨⟨oD m,G.kept.trans (uw m hpk),G.lt,by rw[lY m,if_pos ⟨rfl,rfl⟩],fun j' G8 q e he hk hin hne=>?_⟩,?_⟩
   · rw[lY m,if_neg (fun x=>hne ⟨x.1.symm,x.2⟩)]
     exact G.stay h G8 he (fun _=>List.mem_append.2 (.inl hin))
   · obtain⟨_,_,_,_,_,f6,_⟩:=iB _ _ _ _ _ _ m
     show(aI (cW g.2 j p g.1 _ true).frames g.1).refs=1
     rw[f6,if_pos rfl]
theorem Nw {k:Kn} {j:Nat} {p:Int} {held:List Int} {r:Nat×Kn} (b:j3 k j p held r) (hj:j<k.aj.length) (way:Int):j3 k j p held (r.1,Nz r.2 way r.1):=by
 have h:=b.right
 have hlt:r.1<r.2.frames.length:=by rw[b.kept.nf];exact b.lt
 have hj':j<r.2.aj.length:=by rw[b.kept.np];exact hj
 have he:=(dH (h.sp hj').eN).1 b.here
 have hL:names r.2.aj 1 r.1≠[]:=fun z=>by
  have:=fO hj' he.1
  rw[z] at this
  cases this
 have hf:=h.nz r.1 hlt
 have hR:aU (Nz r.2 way r.1):=h.frame (f:=mark way (aI r.2.frames r.1)) ⟨hf.refs,fun e=>absurd e hL,hf.one,hf.size,fun d=>hf.fill (by
  have d:((aI r.2.frames r.1).b9 || decide (way=1))=false:=d
  cases q:(aI r.2.frames r.1).b9 with
  | false=>rfl
  | true=>rw[q] at d;cases d)⟩
 refine⟨hR,b.kept.trans ⟨rfl,List.length_set,rfl,rfl,fun _ _=>rfl,fun _ _=>rfl,fun n hn q=>?_⟩,b.lt,b.here,b.stay⟩
 unfold dB
 show(match bc (au r.2.aj n).aA q with
  | some e=>if e.kind=1 then (aI (r.2.frames.set r.1 (mark way (aI r.2.frames r.1))) e.loc.toNat).data else (bG r.2.slots e.loc.toNat).data
  | none=>_)=_
 cases bc (au r.2.aj n).aA q with
 | none=>rfl
 | some e =>
  show(if e.kind=1 then _ else _)=if e.kind=1 then _ else _
  rw[eU _ _ _ _ hlt]
  by_cases c:r.1=e.loc.toNat
  · rw[if_pos c,<- c];rfl
  · rw[if_neg c]
theorem j3.trans {k:Kn} {j:Nat} {p:Int} {held:List Int} {r s:Nat×Kn} (a:j3 k j p held r) (b:j3 r.2 j p held s):j3 k j p held s :=
 ⟨b.right,a.kept.trans b.kept,by have:=b.lt;rw[a.kept.nf] at this;exact this,b.here,fun j' hj' q e he h1 h2 h3=>b.stay j' (by rw[a.kept.np];exact hj') q e (a.stay j' hj' q e he h1 h2 h3) h1 h2 h3⟩
theorem Kept.mapped {k k':Kn} (h:Kept k k') {j:Nat} (hj:j<k.aj.length) {p:Int} (hp:mapped k j p):KM.mapped k' j p:=by unfold KM.mapped;rw[h.aD j hj];exact hp
theorem kF {k:Kn} (h:aU k) {j:Nat} (hj:j<k.aj.length) {p:Int} (hp:mapped k j p) (way:Int) {held:List Int} (hl:held.length<=1):j3 k j p held (cj k j p way held)/\(way=1->(aI (cj k j p way held).2.frames (cj k j p way held).1).refs=1/\(aI (cj k j p way held).2.frames (cj k j p way held).1).b9=true):=by
 have P:=pP h hj hp (held:=held) (by omega)
 have hT:j3 k j p held (iH k j p way held)/\(way=1->(aI (iH k j p way held).2.frames (iH k j p way held).1).refs=1):=by
  unfold iH
  by_cases c:way=1
  · rw[if_pos c]
    have A:=Bv P.right (by rw[P.kept.np];exact hj) (P.kept.mapped hj hp) P.here hl
    exact⟨P.trans A.1,fun _=>A.2⟩
  · rw[if_neg c];exact⟨P,fun x=>absurd x c⟩
 refine⟨Nw hT.1 hj way,fun c=>?_⟩
 have hlt:(iH k j p way held).1<(iH k j p way held).2.frames.length:=by rw[hT.1.kept.nf];exact hT.1.lt
 have e:aI (cj k j p way held).2.frames (cj k j p way held).1=mark way (aI (iH k j p way held).2.frames (iH k j p way held).1):=by
  show aI ((iH k j p way held).2.frames.set _ _) (iH k j p way held).1=_
  rw[eU _ _ _ _ hlt,if_pos rfl]
 rw[e]
 exact⟨hT.2 c,by unfold mark;simp[c]⟩
structure Us where
 refs:Int
 page:Int
 zero:Bool
def gX:Us:=⟨0,0,false⟩
def dh (l:List Us) (i:Nat):Us:=l.getD i gX
def l9 (us:List Us) (e:En) (z:Bool):Bool:=decide (0<=e.loc/\e.loc<(us.length:Int))&&!(decide (0<(dh us e.loc.toNat).refs)&&(decide ((dh us e.loc.toNat).page≠e.page) || (dh us e.loc.toNat).zero != z))
def rE (us:List Us) (e:En) (z:Bool):List Us:=us.set e.loc.toNat ⟨(dh us e.loc.toNat).refs+1,e.page,z⟩
def j4 (ar:List AM.Ar) (last:Int) (uf us:List Us) (e:En):Bool:=(AM.aT ar e.page).2&&(decide (last<e.page)&&(if e.kind=1 then l9 uf e (AM.aT ar e.page).1.zero else if e.kind=2 then l9 us e (AM.aT ar e.page).1.zero else false))
def qQ (ar:List AM.Ar) (u:List Us×List Us) (e:En):List Us×List Us:=if e.kind=1 then (rE u.1 e (AM.aT ar e.page).1.zero,u.2) else (u.1,rE u.2 e (AM.aT ar e.page).1.zero)
def lu (es:List En) (k:Nat):Int:=if k=0 then 0 else (aN es (k-1)).page
def gS (ar:List AM.Ar) (es:List En) (u:List Us×List Us):Nat->List Us×List Us
 | 0=>u
 | k+1=>qQ ar (gS ar es u k) (aN es k)
def il (ar:List AM.Ar) (es:List En) (u:List Us×List Us):Nat->Bool
 | 0=>true
 | k+1=>il ar es u k&&j4 ar (lu es k) (gS ar es u k).1 (gS ar es u k).2 (aN es k)
def o7 (hs:List LM.Sh) (ar:List AM.Ar):Bool:=ar.all fun a=>(List.range a.aH.toNat).all fun n=>a.zero || decide ((filled hs (a.page+(n:Int))).size≠0)
def kL (hs:List LM.Sh) (s:Sp):Bool:=if s.live then decide (AM.aR s.aD=0)&&o7 hs s.aD else decide (s.aD.length=0)&&decide (s.aA.length=0)
def kS (ss:List Sp) (u:List Us×List Us):Nat->List Us×List Us
 | 0=>u
 | k+1=>gS (au ss k).aD (au ss k).aA (kS ss u k) (au ss k).aA.length
def om (hs:List LM.Sh) (ss:List Sp) (u:List Us×List Us):Nat->Bool
 | 0=>true
 | k+1=>om hs ss u k&&(kL hs (au ss k)&&il (au ss k).aD (au ss k).aA (kS ss u k) (au ss k).aA.length)
def tV (f:Fr):Bool:=decide (f.data.size=0/\f.refs=0/\f.b9=false/\f.seen=false)
def n9 (f:Sl):Bool:=decide (f.data.size=0/\f.refs=0)
def fM (hs:List LM.Sh) (f:Fr) (u:Us):Bool:=if u.refs=0 then tV f else decide (f.refs=u.refs/\f.data.size=16)&&(f.b9 || decide (f.data=dY hs u.page u.zero))
def ig (s:Sl) (u:Us):Bool:=if u.refs=0 then n9 s else decide (s.refs=u.refs/\s.data.size=16)
def xx (k:Kn):List Us×List Us:=kS k.aj (List.replicate k.frames.length gX,List.replicate k.slots.length gX) k.aj.length
def tK (k:Kn):Bool:=LM.cV k.ak&&(decide (0<=k.hand/\k.hand<(k.frames.length:Int))&&(om k.ak k.aj (List.replicate k.frames.length gX,List.replicate k.slots.length gX) k.aj.length&&(decide (room k.aj<=(k.slots.length:Int))&&((List.range k.frames.length).all (fun i=>fM k.ak (aI k.frames i) (dh (xx k).1 i))&&(List.range k.slots.length).all (fun i=>ig (bG k.slots i) (dh (xx k).2 i))))))
def dx (k:Kn):Int:=if counts k=false then 2 else if tK k then 0 else 1
def Sum (L:List (Int×Bool)) (u:Us):Prop:=u.refs=L.length/\∀x∈L,x=(u.page,u.zero)
def Ah (N:Int->Int->List (Int×Bool)) (nf ns:Nat) (u:List Us×List Us):Prop:=(u.1.length=nf/\u.2.length=ns)/\(∀i:Nat,i<nf->Sum (N 1 i) (dh u.1 i))/\∀i:Nat,i<ns->Sum (N 2 i) (dh u.2 i)
theorem xy (l:List Us) (j n:Nat) (s:Us) (hj:j<l.length):dh (l.set j s) n=if j=n then s else dh l n:=by
 unfold dh
 by_cases c:j=n
 · subst c;rw[if_pos rfl,bK _ _ _ _ hj]
 · rw[if_neg c,getD_set_ne _ _ _ _ _ c]
theorem DA {L:List (Int×Bool)} {u:Us} (h:Sum L u) {p:Int} {z:Bool} (hc:¬(0<u.refs/\(u.page≠p∨u.zero≠z))):Sum (L++[(p,z)]) ⟨u.refs+1,p,z⟩:=by
 refine⟨by show u.refs+1=_;rw[h.1,List.length_append];rfl,fun x hx=>?_⟩
 rcases List.mem_append.1 hx with g | g
 · have hpos:0<u.refs:=by rw[h.1];have:=List.length_pos_of_mem g;omega
   have e:=h.2 x g
   have:¬(u.page≠p∨u.zero≠z):=fun y=>hc ⟨hpos,y⟩
   rw[e]
   show(u.page,u.zero)=(p,z)
   by_cases c1:u.page=p
   · by_cases c2:u.zero=z
     · rw[c1,c2]
     · exact absurd (.inr c2) this
   · exact absurd (.inl c1) this
 · simpa using g
theorem qd {us:List Us} {e:En} {z:Bool}:l9 us e z=true↔(0<=e.loc/\e.loc<(us.length:Int))/\¬(0<(dh us e.loc.toNat).refs/\((dh us e.loc.toNat).page≠e.page∨(dh us e.loc.toNat).zero≠z)):=by
 unfold l9
 simp only[Bool.and_eq_true,decide_eq_true_eq,Bool.not_eq_true',Bool.and_eq_false_iff,Bool.or_eq_false_iff,decide_eq_false_iff_not,bne_eq_false_iff_eq]
 constructor
 · rintro⟨h1,h2⟩
   refine⟨h1,fun ⟨a,b⟩=>?_⟩
   rcases h2 with g | ⟨g1,g2⟩
   · exact g a
   · rcases b with b | b
     · exact g1 b
     · exact b g2
 · rintro⟨h1,h2⟩
   refine⟨h1,?_⟩
   by_cases a:0<(dh us e.loc.toNat).refs
   · right
     refine⟨fun b=>h2 ⟨a,.inl b⟩,?_⟩
     by_cases c:(dh us e.loc.toNat).zero=z
     · exact c
     · exact absurd ⟨a,.inr c⟩ h2
   · exact .inl a
theorem O4 {N:Int->Int->List (Int×Bool)} {nf ns:Nat} {u:List Us×List Us} (h:Ah N nf ns u) {ar:List AM.Ar} {last:Int} {e:En} (hb:j4 ar last u.1 u.2 e=true) :
  Ah (fun kd i=>N kd i++nm ar kd i [e]) nf ns (qQ ar u e)/\pY nf ns ar e/\last<e.page:=by
 unfold j4 at hb
 rw[Bool.and_eq_true,Bool.and_eq_true,decide_eq_true_eq] at hb
 obtain⟨h1,h2,h3⟩:=hb
 obtain⟨⟨l1,l2⟩,s1,s2⟩:=h
 by_cases c:e.kind=1
 · rw[if_pos c] at h3
   obtain⟨b,hc⟩:=qd.1 h3
   refine⟨⟨⟨?_,?_⟩,fun i hi=>?_,fun i hi=>?_⟩,⟨h1,.inl ⟨c,b.1,by omega⟩⟩,h2⟩
   · unfold qQ;rw[if_pos c];unfold rE;rw[List.length_set];exact l1
   · unfold qQ;rw[if_pos c];exact l2
   · unfold qQ;rw[if_pos c];unfold rE
     show Sum (N 1 i++nm ar 1 i [e]) (dh (u.1.set _ _) i)
     rw[xy _ _ _ _ (by omega)]
     by_cases d:e.loc.toNat=i
     · rw[if_pos d,ld ar ⟨c,by omega⟩]
       have:=s1 i hi
       rw[<- d] at this ⊢
       exact DA this hc
     · rw[if_neg d,jS ar (fun g=>d (by omega)),List.append_nil];exact s1 i hi
   · unfold qQ;rw[if_pos c];show Sum (N 2 i++nm ar 2 i [e]) _;rw[jS ar (fun g=>by omega),List.append_nil];exact s2 i hi
 · rw[if_neg c] at h3
   by_cases c2:e.kind=2
   · rw[if_pos c2] at h3
     obtain⟨b,hc⟩:=qd.1 h3
     refine⟨⟨⟨?_,?_⟩,fun i hi=>?_,fun i hi=>?_⟩,⟨h1,.inr ⟨c2,b.1,by omega⟩⟩,h2⟩
     · unfold qQ;rw[if_neg c];exact l1
     · unfold qQ;rw[if_neg c];unfold rE;rw[List.length_set];exact l2
     · unfold qQ;rw[if_neg c];show Sum (N 1 i++nm ar 1 i [e]) _;rw[jS ar (fun g=>c g.1),List.append_nil];exact s1 i hi
     · unfold qQ;rw[if_neg c];unfold rE
       show Sum (N 2 i++nm ar 2 i [e]) (dh (u.2.set _ _) i)
       rw[xy _ _ _ _ (by omega)]
       by_cases d:e.loc.toNat=i
       · rw[if_pos d,ld ar ⟨c2,by omega⟩]
         have:=s2 i hi
         rw[<- d] at this ⊢
         exact DA this hc
       · rw[if_neg d,jS ar (fun g=>d (by omega)),List.append_nil];exact s2 i hi
   · rw[if_neg c2] at h3;cases h3
theorem O6 {N:Int->Int->List (Int×Bool)} {nf ns:Nat} {u:List Us×List Us} (h:Ah N nf ns u) {ar:List AM.Ar} {last:Int} {e:En} (he:pY nf ns ar e) (hl:last<e.page) (ho:∀x∈N e.kind e.loc,x=(e.page,(AM.aT ar e.page).1.zero)):j4 ar last u.1 u.2 e=true:=by
 obtain⟨⟨l1,l2⟩,s1,s2⟩:=h
 unfold j4
 rw[he.1,decide_eq_true hl,Bool.true_and,Bool.true_and]
 have key:∀(us:List Us) (n:Nat),us.length=n->(0<=e.loc/\e.loc<(n:Int))->Sum (N e.kind (e.loc.toNat:Int)) (dh us e.loc.toNat)->l9 us e (AM.aT ar e.page).1.zero=true:=fun us n hn hb hs=>by
  rw[qd]
  refine⟨by omega,fun ⟨a,b⟩=>?_⟩
  rw[hs.1] at a
  obtain⟨x,hx⟩:=List.exists_mem_of_length_pos (show 0<(N e.kind (e.loc.toNat:Int)).length by omega)
  have e1:=hs.2 x hx
  have e2:=ho x (by rw[show(e.loc.toNat:Int)=e.loc by omega] at hx;exact hx)
  rw[e1] at e2
  injection e2 with e3 e4
  rcases b with b | b
  · exact b e3
  · exact b e4
 rcases he.2 with g | g
 · rw[if_pos g.1]
   exact key u.1 nf l1 g.2 (by rw[g.1];exact s1 _ (by omega))
 · rw[if_neg (by omega),if_pos g.1]
   exact key u.2 ns l2 g.2 (by rw[g.1];exact s2 _ (by omega))
theorem take_succ (es:List En) (k:Nat) (hk:k<es.length):es.take (k+1)=es.take k++[aN es k]:=by
 rw[List.take_add_one]
 unfold aN
 rw[List.getD_eq_getElem?_getD,List.getElem?_eq_getElem hk]
 rfl
theorem yY {N:Int->Int->List (Int×Bool)} {nf ns:Nat} {u:List Us×List Us} (h:Ah N nf ns u) (ar:List AM.Ar) (es:List En):∀k,k<=es.length->il ar es u k=true->Ah (fun kd i=>N kd i++nm ar kd i (es.take k)) nf ns (gS ar es u k)/\∀i,i<k->pY nf ns ar (aN es i)/\lu es i<(aN es i).page
 | 0,_,_=>⟨by
  have e:(fun kd i=>N kd i++nm ar kd i (es.take 0))=N:=by funext kd i;simp[nm]
  rw[e]
  exact h,fun i hi=>by omega⟩
 | k+1,hk,hb=>by
  unfold il at hb
  rw[Bool.and_eq_true] at hb
  obtain⟨a1,a2⟩:=yY h ar es k (by omega) hb.1
  obtain⟨b1,b2,b3⟩:=O4 a1 hb.2
  refine⟨?_,fun i hi=>?_⟩
  · have e:(fun kd i=>N kd i++nm ar kd i (es.take (k+1)))=fun kd i=>(N kd i++nm ar kd i (es.take k))++nm ar kd i [aN es k]:=by
     funext kd i
     rw[take_succ es k (by omega),fJ,List.append_assoc]
    rw[e];exact b1
  · by_cases c:i=k
    · subst c;exact⟨b2,b3⟩
    · exact a2 i (by omega)
theorem Bl {N:Int->Int->List (Int×Bool)} {nf ns:Nat} {u:List Us×List Us} (h:Ah N nf ns u) (ar:List AM.Ar) (es:List En) (he:∀i,i<es.length->pY nf ns ar (aN es i)/\lu es i<(aN es i).page) (ho:∀kd i,∀x∈N kd i++nm ar kd i es,∀y∈N kd i++nm ar kd i es,x=y):∀k,k<=es.length->il ar es u k=true
 | 0,_=>rfl
 | k+1,hk=>by
  have ih:=Bl h ar es he ho k (by omega)
  unfold il
  rw[ih,Bool.true_and]
  obtain⟨a1,_⟩:=yY h ar es k (by omega) ih
  refine O6 a1 (he k (by omega)).1 (he k (by omega)).2 fun x hx=>?_
  have hm:(aN es k)∈es:=dX (by omega)
  refine ho (aN es k).kind (aN es k).loc x ?_ _ (List.mem_append.2 (.inr (Cu.2 ⟨_,hm,rfl,rfl,rfl⟩)))
  rcases List.mem_append.1 hx with g | g
  · exact List.mem_append.2 (.inl g)
  · obtain⟨e,he,h1,h2,h3⟩:=Cu.1 g
    exact List.mem_append.2 (.inr (Cu.2 ⟨e,List.mem_of_mem_take he,h1,h2,h3⟩))
end KM
namespace PM
open Go.RowKit
def le (k:Nat) (n:Int):ByteArray:=⟨(Lib.leBytes k (CM.low n)).toArray⟩
theorem le_size (k:Nat) (n:Int):(le k n).size=k:=by
 unfold le
 rw[Lib.size_eq]
 simp[Lib.leBytes_length]
structure Md where
 op:Int
 a:Int
 b:Int
 c:Int
 m:Int
def Md.cells (i:Md):Array Value:=#[I i.op,I i.a,I i.b,I i.c,I i.m]
def Xp (n:Int):Prop:=0<=n/\n<=255
instance (n:Int):Decidable (Xp n):=by unfold Xp;infer_instance
def Md.fits (i:Md):Prop:=Xp i.op/\Xp i.a/\Xp i.b/\Xp i.c/\-2147483648<=i.m/\i.m<=2147483647
instance (i:Md):Decidable i.fits:=by unfold Md.fits;infer_instance
def Md.bytes (i:Md):ByteArray:=(((le 1 i.op++le 1 i.a)++le 1 i.b)++le 1 i.c)++le 4 i.m
end PM
end Go.Proofs.YtpgifpeohlllfaaGreat
