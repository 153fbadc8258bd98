import Derived.Test.YtpgifpeohlllfaaGreatGP00
import Derived.Test.YtpgifpeohlllfaaGreatGP02
set_option maxHeartbeats 20000000
set_option linter.unusedVariables false
set_option maxRecDepth 100000
set_option linter.unusedSimpArgs false
namespace Go.Proofs.YtpgifpeohlllfaaGreat
namespace KM
open Go.RowKit
theorem Gt {i:Int} {es:List En} (h:jU es) (p:Int):aT (wN i es) p=(aT es p).filter fun e=>!iG i e:=by
 cases g:aT es p with
 | none=>rw[Option.filter_none,iJ];rw[iJ] at g;exact fun e he=>g e (rH.1 he).1
 | some e =>
  have he:=(di h).1 g
  by_cases c:e.kind=1/\e.loc=i
  · rw[Option.filter_some,gW.2 c,if_neg (by simp),iJ]
    intro x hx hp
    have hx:=rH.1 hx
    have:some x=some e:=((di h).2 ⟨hx.1,hp⟩).symm.trans g
    injection this with this
    exact hx.2 (by rw[this];exact c)
  · rw[Option.filter_some,iP.2 c,if_pos (by simp),di (CB h)]
    exact⟨rH.2 ⟨he.1,c⟩,he.2⟩
theorem BV {i s:Int} {es:List En} (h:jU es) (p:Int):aT (fK i s es) p=(aT es p).map fun e=>if iG i e then ⟨e.page,2,s⟩ else e:=by
 cases g:aT es p with
 | none =>
  rw[Option.map_none,iJ];rw[iJ] at g
  intro x hx
  rcases oJ.1 hx with y | ⟨y,hy,_,rfl⟩
  · exact g x y.1
  · exact g y hy
 | some e =>
  have he:=(di h).1 g
  rw[Option.map_some,di (yM h)]
  by_cases c:e.kind=1/\e.loc=i
  · rw[gW.2 c,if_pos rfl]
    exact⟨oJ.2 (.inr ⟨e,he.1,c,rfl⟩),he.2⟩
  · rw[iP.2 c,if_neg (by simp)]
    exact⟨oJ.2 (.inl ⟨he.1,c⟩),he.2⟩
theorem jk (f:Sp->Sp) (l:List Sp) (j:Nat) (hj:j<l.length):aq (l.map f) j=f (aq l j):=getD_map f DN DN l j hj
structure Kept (k k':Kn):Prop where
 ak:k'.ak=k.ak
 nf:k'.frames.length=k.frames.length
 ns:k'.slots.length=k.slots.length
 np:k'.aj.length=k.aj.length
 live:∀j,j<k.aj.length->(aq k'.aj j).live=(aq k.aj j).live
 aA:∀j,j<k.aj.length->(aq k'.aj j).aA=(aq k.aj j).aA
 Am:∀j,j<k.aj.length->∀p,cK k' j p=cK k j p
theorem Kept.refl (k:Kn):Kept k k:=⟨rfl,rfl,rfl,rfl,fun _ _=>rfl,fun _ _=>rfl,fun _ _ _=>rfl⟩
theorem Kept.trans {a b c:Kn} (h:Kept a b) (g:Kept b c):Kept a c :=
 ⟨g.ak.trans h.ak,g.nf.trans h.nf,g.ns.trans h.ns,g.np.trans h.np,fun j hj=>(g.live j (by rw[h.np];exact hj)).trans (h.live j hj),fun j hj=>(g.aA j (by rw[h.np];exact hj)).trans (h.aA j hj),fun j hj p=>(g.Am j (by rw[h.np];exact hj) p).trans (h.Am j hj p)⟩
theorem Ju {k:Kn} (h:aQ k) {i:Nat} (hi:i<k.frames.length) (hd:(aD k.frames i).bW=false):Kept k (qi k i):=by
 refine⟨rfl,List.length_set,rfl,List.length_map ..,fun j hj=>?_,fun j hj=>?_,fun j hj p=>?_⟩
 · show(aq (k.aj.map (ni i)) j).live=_;rw[jk _ _ _ hj];rfl
 · show(aq (k.aj.map (ni i)) j).aA=_;rw[jk _ _ _ hj];rfl
 · have hsp:=h.sp hj
   unfold cK
   show(match aT (aq (k.aj.map (ni i)) j).au p with
    | some e=>if e.kind=1 then (aD (k.frames.set i l9) e.loc.toNat).data else (bk k.slots e.loc.toNat).data
    | none=>dh k.ak p (AM.aK (aq (k.aj.map (ni i)) j).aA p).1.zero)=_
   rw[jk _ _ _ hj]
   show(match aT (wN i (aq k.aj j).au) p with
    | some e=>if e.kind=1 then (aD (k.frames.set i l9) e.loc.toNat).data else (bk k.slots e.loc.toNat).data
    | none=>dh k.ak p (AM.aK (aq k.aj j).aA p).1.zero)=_
   rw[Gt hsp.dU]
   cases g:aT (aq k.aj j).au p with
   | none=>rfl
   | some e =>
    have he:=(di hsp.dU).1 g
    have hb:=fE h hj he.1
    by_cases c:e.kind=1/\e.loc=(i:Int)
    · rw[Option.filter_some,gW.2 c,if_neg (by simp)]
      show _=if e.kind=1 then _ else _
      rw[if_pos c.1,show e.loc.toNat=i by omega]
      have:=fw hj he.1
      rw[c.1,c.2] at this
      have:=(h.mO i hi).fill hd _ this
      rw[this,he.2]
    · rw[Option.filter_some,iP.2 c,if_pos (by simp)]
      show(if e.kind=1 then _ else _)=if e.kind=1 then _ else _
      by_cases c1:e.kind=1
      · rw[if_pos c1,if_pos c1,dZ _ _ _ _ hi,if_neg (fun e1=>c ⟨c1,by omega⟩)]
      · rw[if_neg c1,if_neg c1]
theorem H9 {k:Kn} (h:aQ k) {i s:Nat} (hi:i<k.frames.length) (hs:s<k.slots.length) (hf:names k.aj 2 s=[]):Kept k (vM k i s):=by
 refine⟨rfl,List.length_set,List.length_set,List.length_map ..,fun j hj=>?_,fun j hj=>?_,fun j hj p=>?_⟩
 · show(aq (k.aj.map (gD i s)) j).live=_;rw[jk _ _ _ hj];rfl
 · show(aq (k.aj.map (gD i s)) j).aA=_;rw[jk _ _ _ hj];rfl
 · have hsp:=h.sp hj
   unfold cK
   show(match aT (aq (k.aj.map (gD i s)) j).au p with
    | some e=>if e.kind=1 then (aD (k.frames.set i l9) e.loc.toNat).data else (bk (k.slots.set s ⟨(aD k.frames i).data,(aD k.frames i).refs⟩) e.loc.toNat).data
    | none=>dh k.ak p (AM.aK (aq (k.aj.map (gD i s)) j).aA p).1.zero)=_
   rw[jk _ _ _ hj]
   show(match aT (fK i s (aq k.aj j).au) p with
    | some e=>if e.kind=1 then (aD (k.frames.set i l9) e.loc.toNat).data else (bk (k.slots.set s ⟨(aD k.frames i).data,(aD k.frames i).refs⟩) e.loc.toNat).data
    | none=>dh k.ak p (AM.aK (aq k.aj j).aA p).1.zero)=_
   rw[BV hsp.dU]
   cases g:aT (aq k.aj j).au p with
   | none=>rfl
   | some e =>
    have he:=(di hsp.dU).1 g
    have hb:=fE h hj he.1
    by_cases c:e.kind=1/\e.loc=(i:Int)
    · rw[Option.map_some,gW.2 c,if_pos rfl]
      show(if (2:Int)=1 then _ else (bk (k.slots.set s _) (s:Int).toNat).data)=if e.kind=1 then _ else _
      rw[if_neg (by omega),if_pos c.1,Int.toNat_natCast,mZ _ _ _ _ hs,if_pos rfl,show e.loc.toNat=i by omega]
    · rw[Option.map_some,iP.2 c,if_neg (by simp)]
      show(if e.kind=1 then _ else _)=if e.kind=1 then _ else _
      by_cases c1:e.kind=1
      · rw[if_pos c1,if_pos c1,dZ _ _ _ _ hi,if_neg (fun e1=>c ⟨c1,by omega⟩)]
      · rw[if_neg c1,if_neg c1,mZ _ _ _ _ hs,if_neg (fun e1=>by
         have:=fw hj he.1
         rw[show e.kind=2 by omega,show e.loc=(s:Int) by omega,hf] at this
         cases this)]
theorem FI {k:Kn} (h:aQ k) {i:Nat} (hi:i<k.frames.length) (hr:(aD k.frames i).refs≠0):Kept k (cI k i):=by
 unfold cI
 by_cases c:(aD k.frames i).bW=true
 · rw[if_pos c]
   obtain⟨s,h1,h2,h3⟩:=h.slot hi hr
   rw[h1]
   exact H9 h hi h2 h3
 · rw[if_neg c]
   exact Ju h hi (by simpa using c)
theorem FJ (k:Kn) (i:Nat):names (cI k i).aj 1 i=[]:=by
 unfold cI
 by_cases c:(aD k.frames i).bW=true
 · rw[if_pos c]
   cases qc k.slots with
   | none=>exact iW (ni i) 1 i _ (fun s _=>nK s.aA i s.au)
   | some s=>exact iW (gD i s) 1 i _ (fun sp _=>tZ sp.aA i s sp.au)
 · rw[if_neg c]
   exact iW (ni i) 1 i _ (fun s _=>nK s.aA i s.au)
theorem si (k:Kn) (i:Nat):(cI k i).frames=k.frames.set i l9/\(cI k i).hand=k.hand:=by
 unfold cI
 by_cases c:(aD k.frames i).bW=true
 · rw[if_pos c]
   cases qc k.slots with
   | none=>exact⟨rfl,rfl⟩
   | some s=>exact⟨rfl,rfl⟩
 · rw[if_neg c];exact⟨rfl,rfl⟩
theorem JI {k:Kn} (h:aQ k) (i:Nat) {j:Nat} (hj:j<k.aj.length) (p:Int) (hn:∀e,aT (aq k.aj j).au p=some e->¬(e.kind=1/\e.loc=(i:Int))):aT (aq (cI k i).aj j).au p=aT (aq k.aj j).au p:=by
 have hr:=(h.sp hj).dU
 have hD:aT (aq (k.aj.map (ni i)) j).au p=aT (aq k.aj j).au p:=by
  rw[jk _ _ _ hj]
  show aT (wN i (aq k.aj j).au) p=_
  rw[Gt hr]
  cases g:aT (aq k.aj j).au p with
  | none=>rfl
  | some e=>rw[Option.filter_some,iP.2 (hn e g),if_pos (by simp)]
 unfold cI
 by_cases c:(aD k.frames i).bW=true
 · rw[if_pos c]
   cases qc k.slots with
   | none=>exact hD
   | some s =>
    show aT (aq (k.aj.map (gD i s)) j).au p=_
    rw[jk _ _ _ hj]
    show aT (fK i s (aq k.aj j).au) p=_
    rw[BV hr]
    cases g:aT (aq k.aj j).au p with
    | none=>rfl
    | some e=>rw[Option.map_some,iP.2 (hn e g),if_neg (by simp)]
 · rw[if_neg c];exact hD
theorem FH {k:Kn} (h:aQ k) {i:Nat} (hi:i<k.frames.length) (hr:(aD k.frames i).refs≠0) (n:Nat) (hn:names k.aj 2 n≠[]):bk (cI k i).slots n=bk k.slots n:=by
 unfold cI
 by_cases c:(aD k.frames i).bW=true
 · rw[if_pos c]
   obtain⟨s,h1,h2,h3⟩:=h.slot hi hr
   rw[h1]
   show bk (k.slots.set s _) n=_
   rw[mZ _ _ _ _ h2,if_neg (fun e=>hn (by rw[<- e];exact h3))]
 · rw[if_neg c];rfl
theorem s6 {k:Kn} {j:Nat} {p:Int} {i:Nat} {d:ByteArray} {dy:Bool} (m:j6 k j p i d dy) (hd:d=cK k j p):Kept k (cJ k j p i d dy):=by
 have h:=m.right
 have hsp:=h.sp m.hj
 have hR:=nM m
 obtain⟨f1,f2,f3,f4,f5,f6,f7⟩:=gV k j p i d dy m
 have hat:∀n,aq (cJ k j p i d dy).aj n=if j=n then dI (aq k.aj j) (l6 (aq k.aj j).au ⟨p,1,i⟩) else aq k.aj n:=fun n=>by rw[f5,fZ _ _ _ _ m.hj]
 have rV:(cJ k j p i d dy).aj.length=k.aj.length:=by rw[f5,List.length_set]
 refine⟨f3,f1,f2,rV,fun n hn=>?_,fun n hn=>?_,fun n hn q=>?_⟩
 · rw[hat];by_cases c:j=n
   · rw[if_pos c,<- c];rfl
   · rw[if_neg c]
 · rw[hat];by_cases c:j=n
   · rw[if_pos c,<- c];rfl
   · rw[if_neg c]
 · have ZZ:(aq (cJ k j p i d dy).aj n).aA=(aq k.aj n).aA:=by
    rw[hat];by_cases c:j=n
    · rw[if_pos c,<- c];rfl
    · rw[if_neg c]
   have hent:aT (aq (cJ k j p i d dy).aj n).au q=if j=n/\q=p then some ⟨p,1,i⟩ else aT (aq k.aj n).au q:=by
    rw[hat]
    by_cases c:j=n
    · rw[if_pos c]
      show aT (l6 (aq k.aj j).au ⟨p,1,i⟩) q=_
      rw[Gq hsp.dU]
      by_cases c2:q=p
      · rw[if_pos c2,if_pos ⟨c,c2⟩]
      · rw[if_neg c2,if_neg (fun g=>c2 g.2),c]
    · rw[if_neg c,if_neg (fun g=>c g.1)]
   by_cases c:j=n/\q=p
   · obtain⟨rfl,rfl⟩:=c
     rw[<- hd]
     unfold cK
     rw[hent,if_pos ⟨rfl,rfl⟩]
     show(aD (cJ k j q i d dy).frames (i:Int).toNat).data=d
     rw[f6,Int.toNat_natCast,if_pos rfl]
   · rw[if_neg c] at hent
     have hn':n<(cJ k j p i d dy).aj.length:=by rw[rV];exact hn
     have Zi:=h.sp hn
     unfold cK
     rw[hent,ZZ,f3]
     cases g:aT (aq k.aj n).au q with
     | none=>rfl
     | some e =>
      have he:=(di Zi.dU).1 g
      have hb:=fE h hn he.1
      have he':=(di (hR.sp hn').dU).1 (hent.trans g)
      have pH:=fw hn' he'.1
      have Vo:=fw hn he.1
      show(if e.kind=1 then _ else _)=if e.kind=1 then _ else _
      by_cases c1:e.kind=1
      · rw[if_pos c1,if_pos c1,f6]
        have hb:=hb.resolve_right (fun x=>by omega)
        have hni:e.loc.toNat≠i:=fun e1=>by
         rw[c1,show e.loc=(i:Int) by omega,m.free] at Vo;cases Vo
        rw[if_neg hni]
        have hF:=hR.mO e.loc.toNat (by rw[f1];exact hb.2.2)
        rw[f6,if_neg hni] at hF
        have hne:names (cJ k j p i d dy).aj 1 (e.loc.toNat:Int)≠[]:=fun e1=>by
         rw[c1,<- hb.2.1,e1] at pH;cases pH
        cases g2:aT (aq k.aj j).au p with
        | none=>rfl
        | some e2 =>
         rw[g2] at hF
         have hF:uQ _ _ (if e2.kind=1/\e2.loc=(e.loc.toNat:Int) then kK (aD k.frames e.loc.toNat) else aD k.frames e.loc.toNat):=hF
         show(if e2.kind=1/\e2.loc=(e.loc.toNat:Int) then kK (aD k.frames e.loc.toNat) else aD k.frames e.loc.toNat).data=_
         by_cases c3:e2.kind=1/\e2.loc=(e.loc.toNat:Int)
         · rw[if_pos c3] at hF ⊢
           unfold kK at hF ⊢
           by_cases c4:(aD k.frames e.loc.toNat).refs-1=0
           · rw[if_pos c4] at hF
             exact absurd (hF.nil rfl) hne
           · rw[if_neg c4]
         · rw[if_neg c3]
      · rw[if_neg c1,if_neg c1,f7]
        have hb:=hb.resolve_left (fun x=>c1 x.1)
        have hF:=hR.slt e.loc.toNat (by rw[f2];exact hb.2.2)
        rw[f7] at hF
        have hne:names (cJ k j p i d dy).aj 2 (e.loc.toNat:Int)≠[]:=fun e1=>by
         rw[hb.1,<- hb.2.1,e1] at pH;cases pH
        cases g2:aT (aq k.aj j).au p with
        | none=>rfl
        | some e2 =>
         rw[g2] at hF
         have hF:DC _ (if e2.kind=2/\e2.loc=(e.loc.toNat:Int) then nr (bk k.slots e.loc.toNat) else bk k.slots e.loc.toNat):=hF
         show(if e2.kind=2/\e2.loc=(e.loc.toNat:Int) then nr (bk k.slots e.loc.toNat) else bk k.slots e.loc.toNat).data=_
         by_cases c3:e2.kind=2/\e2.loc=(e.loc.toNat:Int)
         · rw[if_pos c3] at hF ⊢
           unfold nr at hF ⊢
           by_cases c4:(bk k.slots e.loc.toNat).refs-1=0
           · rw[if_pos c4] at hF
             exact absurd (hF.nil rfl) hne
           · rw[if_neg c4]
         · rw[if_neg c3]
def fN (k:Kn):Int:=(k.hand+1)%(k.frames.length:Int)
def jD (held:List Int) (k:Kn):Bool:=held.contains k.hand || (aD k.frames k.hand.toNat).seen
def unseen (f:Fr):Fr:={ f with seen:=false }
def fY (held:List Int) (k:Kn):Kn:={ k with hand:=fN k,frames:=if held.contains k.hand then k.frames else k.frames.set k.hand.toNat (unseen (aD k.frames k.hand.toNat)) }
def bj (held:List Int):Nat->Kn->Kn
 | 0,k=>k
 | n+1,k=>fY held (bj held n k)
def ju (held:List Int):Nat->Kn->Kn
 | 0,k=>k
 | n+1,k=>if jD held k then ju held n (fY held k) else k
def Full (k:Kn):Prop:=∀i,i<k.frames.length->(aD k.frames i).refs≠0
theorem Gk (held:List Int) (k:Kn):(fY held k).frames.length=k.frames.length:=by
 unfold fY
 by_cases c:held.contains k.hand=true
 · rw[if_pos c]
 · rw[if_neg c];exact List.length_set
theorem Gl (held:List Int) {k:Kn} (hh:0<=k.hand/\k.hand<k.frames.length) (n:Nat):aD (fY held k).frames n=if (n:Int)=k.hand/\held.contains k.hand=false then unseen (aD k.frames n) else aD k.frames n:=by
 unfold fY
 by_cases c:held.contains k.hand=true
 · rw[if_pos c,if_neg (by rw[c];simp)]
 · show aD (if _ then _ else _) n=_
   rw[if_neg c,dZ _ _ _ _ (by omega)]
   by_cases d:k.hand.toNat=n
   · rw[if_pos d,if_pos ⟨by omega,by simpa using c⟩,d]
   · rw[if_neg d,if_neg (by omega)]
theorem Gx {k:Kn} (h3:3<=k.frames.length):0<=fN k/\fN k<k.frames.length:=⟨Int.emod_nonneg _ (by omega),Int.emod_lt_of_pos _ (by omega)⟩
theorem Ef (held:List Int) {k:Kn} (h:aQ k) (hf:Full k):aQ (fY held k)/\Full (fY held k)/\Kept k (fY held k)/\(fY held k).aj=k.aj/\(fY held k).slots=k.slots:=by
 have h3:=h.c.1.1
 have hn:=Gx h3
 have hat:=Gl held h.hand
 refine⟨?_,fun i hi=>?_,⟨rfl,Gk held k,rfl,rfl,fun _ _=>rfl,fun _ _=>rfl,fun j hj p=>?_⟩,rfl,rfl⟩
 · unfold fY
   by_cases c:held.contains k.hand=true
   · rw[if_pos c];exact h.turn hn
   · rw[if_neg c]
     have hi:k.hand.toNat<k.frames.length:=by have:=h.hand;omega
     have:=(h.mO _ hi)
     have g:=h.frame (this.seen false (this.ne (hf _ hi)))
     exact aQ.turn g (x:=fN k) (by show 0<=fN k/\fN k<((k.frames.set _ _).length:Int);rw[List.length_set];exact hn)
 · rw[Gk] at hi
   rw[hat]
   have:=hf i hi
   by_cases c:(i:Int)=k.hand/\held.contains k.hand=false
   · rw[if_pos c];exact this
   · rw[if_neg c];exact this
 · unfold cK
   show(match aT (aq k.aj j).au p with
    | some e=>if e.kind=1 then (aD (fY held k).frames e.loc.toNat).data else (bk k.slots e.loc.toNat).data
    | none=>_)=_
   have ZP:∀n,(aD (fY held k).frames n).data=(aD k.frames n).data:=fun n=>by
    rw[hat]
    by_cases c:(n:Int)=k.hand/\held.contains k.hand=false
    · rw[if_pos c];rfl
    · rw[if_neg c]
   cases aT (aq k.aj j).au p with
   | none=>rfl
   | some e =>
    show(if e.kind=1 then (aD (fY held k).frames e.loc.toNat).data else _)=_
    rw[ZP]
structure Tv (held:List Int) (k:Kn) (n:Nat):Prop where
 right:aQ (bj held n k)
 full:Full (bj held n k)
 kept:Kept k (bj held n k)
 aj:(bj held n k).aj=k.aj
 slots:(bj held n k).slots=k.slots
 hand:(bj held n k).hand=(k.hand+n)%(k.frames.length:Int)
 xj:∀i:Nat,(i:Int)∈held->aD (bj held n k).frames i=aD k.frames i
 past:∀m:Nat,m<n->∀i:Nat,(i:Int)=(k.hand+m)%(k.frames.length:Int)->(i:Int)∈held∨(aD (bj held n k).frames i).seen=false
theorem zZ (held:List Int) {k:Kn} (h:aQ k) (hf:Full k):∀n,Tv held k n
 | 0=>⟨h,hf,Kept.refl k,rfl,rfl,by have:=h.hand;show k.hand=(k.hand+((0:Nat):Int))%_;rw[Int.emod_eq_of_lt] <;> omega,fun _ _=>rfl,fun m hm=>by omega⟩
 | n+1=>by
  have t:=zZ held h hf n
  obtain⟨s1,s2,s3,s4,s5⟩:=Ef held t.right t.full
  have hat:=Gl held t.right.hand
  have lJ:=t.kept.nf
  have hN:=h.c.1.1
  refine⟨s1,s2,t.kept.trans s3,s4.trans t.aj,s5.trans t.slots,?_,fun i hi=>?_,fun m hm i hi=>?_⟩
  · show fN (bj held n k)=_
    unfold fN
    rw[lJ,t.hand,Int.emod_add_emod]
    congr 1
    omega
  · show aD (fY held (bj held n k)).frames i=_
    rw[hat,if_neg,t.xj i hi]
    intro g
    have:held.contains (bj held n k).hand=true:=by rw[List.contains_iff_mem,<- g.1];exact hi
    rw[this] at g
    cases g.2
  · show _∨(aD (fY held (bj held n k)).frames i).seen=false
    rw[hat]
    by_cases c:(i:Int)=(bj held n k).hand/\held.contains (bj held n k).hand=false
    · rw[if_pos c];exact .inr rfl
    · rw[if_neg c]
      by_cases d:m=n
      · subst d
        have e1:(i:Int)=(bj held m k).hand:=hi.trans t.hand.symm
        have:held.contains (bj held m k).hand=true:=by
         cases q:held.contains (bj held m k).hand with
         | true=>rfl
         | false=>exact absurd ⟨e1,q⟩ c
        rw[List.contains_iff_mem,<- e1] at this
        exact .inl this
      · exact t.past m (by omega) i hi
theorem third {held:List Int} (hl:held.length<=2) (a b c:Int) (h1:a≠b) (h2:a≠c) (h3:b≠c):a∉held∨b∉held∨c∉held:=by
 by_cases ha:a∈held
 · by_cases hb:b∈held
   · right;right
     intro hc
     have l1:=List.length_erase_of_mem ha
     have hb':b∈held.erase a:=(List.mem_erase_of_ne (fun e=>h1 e.symm)).2 hb
     have hc':c∈held.erase a:=(List.mem_erase_of_ne (fun e=>h2 e.symm)).2 hc
     have l2:=List.length_erase_of_mem hb'
     have hc'':c∈(held.erase a).erase b:=(List.mem_erase_of_ne (fun e=>h3 e.symm)).2 hc'
     have:=List.length_pos_of_mem hc''
     have:=List.length_pos_of_mem ha
     omega
   · exact .inr (.inl hb)
 · exact .inl ha
theorem s7 {x n:Int} (h0:0<=x) (h1:x<2*n) (hn:0<n):(x<n/\x%n=x)∨(n<=x/\x%n=x-n):=by
 by_cases c:x<n
 · exact .inl ⟨c,Int.emod_eq_of_lt h0 c⟩
 · right
   refine⟨by omega,?_⟩
   rw[<- Int.sub_emod_right x n]
   exact Int.emod_eq_of_lt (by omega) (by omega)
theorem xI (held:List Int) (hl:held.length<=2) {k:Kn} (h:aQ k) (hf:Full k):∃T,T<=66/\(∀m,m<T->jD held (bj held m k)=true)/\jD held (bj held T k)=false:=by
 have hN:=h.c.1
 have hex:∃T,T<=66/\jD held (bj held T k)=false:=by
  have hh:=h.hand
  obtain⟨N,Z4⟩:∃N:Int,N=(k.frames.length:Int):=⟨_,rfl⟩
  have hit:∀x:Nat,x<3->(k.hand+x)%N∉held->∃T,T<=66/\jD held (bj held T k)=false:=fun x hx hno=>by
   have t:=zZ held h hf (k.frames.length+x)
   have hm:0<=(k.hand+x)%N/\(k.hand+x)%N<N:=⟨Int.emod_nonneg _ (by omega),Int.emod_lt_of_pos _ (by omega)⟩
   have VB:(bj held (k.frames.length+x) k).hand=(k.hand+x)%N:=by
    rw[t.hand,<- Z4,<- Int.add_emod_right (k.hand+x) N,Z4]
    congr 1
    omega
   refine⟨k.frames.length+x,by omega,?_⟩
   unfold jD
   rw[VB]
   have hi:(((k.hand+x)%N).toNat:Int)=(k.hand+x)%N:=by omega
   have:=t.past x (by omega) ((k.hand+x)%N).toNat (by rw[hi,<- Z4])
   rw[hi] at this
   have c1:held.contains ((k.hand+x)%N)=false:=by
    cases q:held.contains ((k.hand+x)%N) with
    | false=>rfl
    | true=>exact absurd (List.contains_iff_mem.1 q) hno
   rw[c1,this.resolve_left hno]
   rfl
  have d0:=s7 (x:=k.hand+(0:Nat)) (n:=N) (by omega) (by omega) (by omega)
  have d1:=s7 (x:=k.hand+(1:Nat)) (n:=N) (by omega) (by omega) (by omega)
  have d2:=s7 (x:=k.hand+(2:Nat)) (n:=N) (by omega) (by omega) (by omega)
  rcases third hl ((k.hand+(0:Nat))%N) ((k.hand+(1:Nat))%N) ((k.hand+(2:Nat))%N) (by omega) (by omega) (by omega) with g | g | g
  · exact hit 0 (by omega) g
  · exact hit 1 (by omega) g
  · exact hit 2 (by omega) g
 obtain⟨T,hT,hp⟩:=hex
 clear hN
 induction T using Nat.strongRecOn with
 | _ T ih =>
  by_cases c:∃m,m<T/\jD held (bj held m k)=false
  · obtain⟨m,hm,hq⟩:=c
    exact ih m hm (by omega) hq
  · exact⟨T,hT,fun m hm=>by
     cases q:jD held (bj held m k) with
     | true=>rfl
     | false=>exact absurd ⟨m,hm,q⟩ c,hp⟩
theorem xH (held:List Int):∀(T n:Nat) (k:Kn),T<=n->(∀m,m<T->jD held (bj held m k)=true)->jD held (bj held T k)=false->ju held (n+1) k=bj held T k:=fun T=>by
 have shift:∀m k,bj held m (fY held k)=bj held (m+1) k:=fun m k=>by
  induction m with
  | zero=>rfl
  | succ m ih=>show fY held _=fY held _;rw[ih]
 induction T with
 | zero =>
  intro n k _ _ h
  show(if jD held k then _ else k)=k
  rw[if_neg (by rw[show jD held k=false from h];simp)]
 | succ T ih =>
  intro n k hn h1 h2
  obtain⟨n,rfl⟩:∃m,n=m+1:=⟨n-1,by omega⟩
  show(if jD held k then ju held (n+1) (fY held k) else k)=_
  rw[if_pos (show jD held k=true from h1 0 (by omega)),ih n (fY held k) (by omega) (fun m hm=>by rw[shift];exact h1 (m+1) (by omega)) (by rw[shift];exact h2),shift]
def bM (k:Kn) (held:List Int):Nat×Kn:=match ux k.frames with
 | some i=>(i,k)
 | none=>((ju held 70 k).hand.toNat,{ cI (ju held 70 k) (ju held 70 k).hand.toNat with hand:=fN (ju held 70 k) })
structure Xp (k:Kn) (held:List Int) (g:Nat×Kn):Prop where
 right:aQ g.2
 kept:Kept k g.2
 lt:g.1<k.frames.length
 free:names g.2.aj 1 g.1=[]
 xj:∀i:Nat,(i:Int)∈held->(aD k.frames i).refs≠0->i≠g.1/\aD g.2.frames i=aD k.frames i
 tH:∀j,j<k.aj.length->∀p,(∀e,aT (aq k.aj j).au p=some e->¬(e.kind=1/\e.loc=(g.1:Int)))->aT (aq g.2.aj j).au p=aT (aq k.aj j).au p
 slot:∀n:Nat,names k.aj 2 n≠[]->bk g.2.slots n=bk k.slots n
theorem mA {k:Kn} (h:aQ k) {held:List Int} (hl:held.length<=2):Xp k held (bM k held):=by
 unfold bM
 cases hf:ux k.frames with
 | some i =>
  obtain⟨h1,h2,_⟩:=List.findIdx?_eq_some_iff_getElem.1 hf
  have hr:(aD k.frames i).refs=0:=by
   unfold aD
   rw[List.getD_eq_getElem?_getD,List.getElem?_eq_getElem h1]
   exact of_decide_eq_true h2
  exact⟨h,Kept.refl k,h1,(h.mO i h1).nil hr,fun n _ hn=>⟨fun e=>hn (by rw[e];exact hr),rfl⟩,fun j _ p _=>rfl,fun _ _=>rfl⟩
 | none =>
  have hF:Full k:=fun i hi hr=>by
   have:=List.findIdx?_eq_none_iff.1 hf (aD k.frames i) (dB hi)
   simp[hr] at this
  obtain⟨T,hT,t1,t2⟩:=xI held hl h hF
  have hc:ju held 70 k=bj held T k:=xH held T 69 k (by omega) t1 t2
  rw[hc]
  have t:=zZ held h hF T
  obtain⟨k1,hk1⟩:=ex (bj held T k)
  have tr:=t.right;have tf:=t.full;have tk:=t.kept;have ts:=t.aj;have tl:=t.slots;have th:=t.xj
  rw[<- hk1] at t2 tr tf tk ts tl th ⊢
  obtain⟨i,hi⟩:=ex k1.hand.toNat
  have hh:=tr.hand
  have hi1:i<k1.frames.length:=by omega
  have hr:=tf i hi1
  have a1:=tr.aside hi1 hr
  have a2:=FI tr hi1 hr
  have h3:=tr.c.1.1
  have a3:(cI k1 i).frames.length=k1.frames.length:=a2.nf
  rw[<- hi]
  have hb:aQ { cI k1 i with hand:=fN k1 }:=a1.turn (by rw[a3];exact Gx h3)
  have hkk:Kept (cI k1 i) { cI k1 i with hand:=fN k1 }:=⟨rfl,rfl,rfl,rfl,fun _ _=>rfl,fun _ _=>rfl,fun _ _ _=>rfl⟩
  have lJ:=tk.nf
  refine⟨hb,tk.trans (a2.trans hkk),by show i<_;omega,FJ k1 i,fun n hn _=>?_,fun j hj p he=>?_,fun n hn=>?_⟩
  · have hne:n≠i:=fun e=>by
     unfold jD at t2
     have:held.contains k1.hand=true:=List.contains_iff_mem.2 (by rw[show k1.hand=(n:Int) by omega];exact hn)
     rw[this] at t2
     cases t2
    refine⟨hne,?_⟩
    show aD (cI k1 i).frames n=_
    rw[(si k1 i).1,dZ _ _ _ _ hi1,if_neg (fun e=>hne e.symm),th n hn]
  · show aT (aq (cI k1 i).aj j).au p=_
    rw[JI tr i (by rw[ts];exact hj) p (by rw[ts];exact he),ts]
  · show bk (cI k1 i).slots n=_
    rw[FH tr hi1 hr n (by rw[ts];exact hn),tl]
def zeroAt (k:Kn) (j:Nat) (p:Int):Bool:=(AM.aK (aq k.aj j).aA p).1.zero
def mapped (k:Kn) (j:Nat) (p:Int):Prop:=(AM.aK (aq k.aj j).aA p).2=true
def bR (k:Kn) (j:Nat) (p:Int) (held:List Int):Nat×Kn:=match aT (aq k.aj j).au p with
 | some e=>if e.kind=1 then (e.loc.toNat,k) else ((bM k held).1,cJ (bM k held).2 j p (bM k held).1 (bk (bM k held).2.slots e.loc.toNat).data true)
 | none=>((bM k held).1,cJ (bM k held).2 j p (bM k held).1 (dh (bM k held).2.ak p (zeroAt (bM k held).2 j p)) false)
def gB (k:Kn) (j:Nat) (p:Int) (a:Nat) (held:List Int):Nat×Kn:=if (aD k.frames a).refs=1 then (a,k) else ((bM k (held++[(a:Int)])).1,cJ (bM k (held++[(a:Int)])).2 j p (bM k (held++[(a:Int)])).1 (aD (bM k (held++[(a:Int)])).2.frames a).data true)
def mark (way:Int) (f:Fr):Fr:=⟨f.data,f.refs,f.bW || decide (way=1),true⟩
def LG (k:Kn) (way:Int) (i:Nat):Kn:={ k with frames:=k.frames.set i (mark way (aD k.frames i)) }
def gZ (k:Kn) (j:Nat) (p way:Int) (held:List Int):Nat×Kn:=if way=1 then gB (bR k j p held).2 j p (bR k j p held).1 held else bR k j p held
def bV (k:Kn) (j:Nat) (p way:Int) (held:List Int):Nat×Kn:=((gZ k j p way held).1,LG (gZ k j p way held).2 way (gZ k j p way held).1)
structure jy (k:Kn) (j:Nat) (p:Int) (held:List Int) (r:Nat×Kn):Prop where
 right:aQ r.2
 kept:Kept k r.2
 lt:r.1<k.frames.length
 here:aT (aq r.2.aj j).au p=some ⟨p,1,r.1⟩
 stay:∀j',j'<k.aj.length->∀q e,aT (aq k.aj j').au q=some e->e.kind=1->e.loc∈held->¬(j'=j/\q=p)->aT (aq r.2.aj j').au q=some e
theorem kX {k:Kn} {j:Nat} {p:Int} {i:Nat} {d:ByteArray} {dy:Bool} (m:j6 k j p i d dy) (n:Nat) (q:Int):aT (aq (cJ k j p i d dy).aj n).au q=if j=n/\q=p then some ⟨p,1,i⟩ else aT (aq k.aj n).au q:=by
 obtain⟨_,_,_,_,f5,_,_⟩:=gV k j p i d dy m
 rw[f5,fZ _ _ _ _ m.hj]
 by_cases c:j=n
 · rw[if_pos c]
   show aT (l6 (aq k.aj j).au ⟨p,1,i⟩) q=_
   rw[Gq (m.right.sp m.hj).dU]
   by_cases c2:q=p
   · rw[if_pos c2,if_pos ⟨c,c2⟩]
   · rw[if_neg c2,if_neg (fun g=>c2 g.2),c]
 · rw[if_neg c,if_neg (fun g=>c g.1)]
theorem Xp.stay {k:Kn} (h:aQ k) {held:List Int} {g:Nat×Kn} (G:Xp k held g) {j:Nat} (hj:j<k.aj.length) {q:Int} {e:En} (he:aT (aq k.aj j).au q=some e) (hn:e.kind=1->e.loc∈held):aT (aq g.2.aj j).au q=some e:=by
 have hm:=(di (h.sp hj).dU).1 he
 rw[G.tH j hj q ?_,he]
 intro x hx c
 rw[he] at hx
 injection hx with hx
 subst hx
 have hb:=(fE h hj hm.1).resolve_right (fun y=>by omega)
 have hne:(aD k.frames e.loc.toNat).refs≠0:=fun z=>by
  have:=fw hj hm.1
  rw[c.1,<- hb.2.1,(h.mO _ hb.2.2).nil z] at this
  cases this
 have:=(G.xj e.loc.toNat (by rw[hb.2.1];exact hn c.1) hne).1
 omega
theorem Xp.mapped {k:Kn} {held:List Int} {g:Nat×Kn} (G:Xp k held g) {j:Nat} (hj:j<k.aj.length) {p:Int} (hp:mapped k j p):(AM.aK (aq g.2.aj j).aA p).2=true:=by rw[G.kept.aA j hj];exact hp
theorem uF (hs:List LM.Sh) (hr:LM.cZ hs=true) (p:Int) (h:(bK hs p).isSome=true):(filled hs p).size=16:=by
 unfold filled
 cases g:bK hs p with
 | none=>rw[g] at h;cases h
 | some s =>
  have hm:s∈hs:=List.mem_of_find?_eq_some g
  obtain⟨i,hi,e⟩:=eu LM.JV hm
  have hb:=(LM.jJ hs hs.length hr i hi).1
  rw[show LM.aY hs i=s from e] at hb
  unfold LM.bH LM.jc at hb
  simp only[Bool.and_eq_true,decide_eq_true_eq] at hb
  exact LM.mq s.data s.bq hb.1.2.2 s.bq.length hb.2
theorem tE {k:Kn} (h:aQ k) {j:Nat} (hj:j<k.aj.length) {p:Int} (hp:mapped k j p):(dh k.ak p (zeroAt k j p)).size=16:=by
 unfold dh
 cases z:zeroAt k j p with
 | true=>rfl
 | false=>exact uF _ h.dU p ((h.sp hj).ak p hp z)
theorem oO {k:Kn} (h:aQ k) {j:Nat} (hj:j<k.aj.length) {p:Int} (hp:mapped k j p) {held:List Int} (hl:held.length<=2):jy k j p held (bR k j p held):=by
 have hsp:=h.sp hj
 have G:=mA h hl
 unfold bR
 cases g:aT (aq k.aj j).au p with
 | none =>
  dsimp only
  have hent:aT (aq (bM k held).2.aj j).au p=none:=by rw[G.tH j hj p (fun e he=>by rw[g] at he;cases he),g]
  have hpk:dh (bM k held).2.ak p (zeroAt (bM k held).2 j p)=cK (bM k held).2 j p:=by unfold cK;rw[hent];rfl
  have hj':j<(bM k held).2.aj.length:=by rw[G.kept.np];exact hj
  have m:j6 (bM k held).2 j p (bM k held).1 (dh (bM k held).2.ak p (zeroAt (bM k held).2 j p)) false:=⟨G.right,hj',G.mapped hj hp,by rw[G.kept.nf];exact G.lt,G.free,tE G.right hj' (G.mapped hj hp),fun _=>rfl⟩
  refine⟨nM m,G.kept.trans (s6 m hpk),G.lt,by rw[kX m,if_pos ⟨rfl,rfl⟩],fun j' E6 q e he hk hin hne=>?_⟩
  rw[kX m,if_neg (fun x=>hne ⟨x.1.symm,x.2⟩)]
  exact G.stay h E6 he (fun _=>hin)
 | some e =>
  have he:=(di hsp.dU).1 g
  dsimp only
  by_cases c:e.kind=1
  · rw[if_pos c]
    have hb:=(fE h hj he.1).resolve_right (fun y=>by omega)
    refine⟨h,Kept.refl k,hb.2.2,?_,fun j' E6 q e he hk hin hne=>he⟩
    show aT (aq k.aj j).au p=some ⟨p,1,(e.loc.toNat:Int)⟩
    rw[g,hb.2.1,<- c,<- he.2]
  · rw[if_neg c]
    have hb:=(fE h hj he.1).resolve_left (fun y=>c y.1)
    have hent:aT (aq (bM k held).2.aj j).au p=some e:=by rw[G.tH j hj p (fun x hx=>by rw[g] at hx;injection hx with hx;subst hx;exact fun y=>c y.1),g]
    have hj':j<(bM k held).2.aj.length:=by rw[G.kept.np];exact hj
    have he':=(di (G.right.sp hj').dU).1 hent
    have hpk:(bk (bM k held).2.slots e.loc.toNat).data=cK (bM k held).2 j p:=by unfold cK;rw[hent];show _=if e.kind=1 then _ else _;rw[if_neg c]
    have hsz:(bk (bM k held).2.slots e.loc.toNat).data.size=16:=(G.right.slt e.loc.toNat (by rw[G.kept.ns];exact hb.2.2)).size (fun z=>by
     have:=fw hj' he'.1
     rw[hb.1,<- hb.2.1,z] at this
     cases this)
    have m:j6 (bM k held).2 j p (bM k held).1 (bk (bM k held).2.slots e.loc.toNat).data true:=⟨G.right,hj',G.mapped hj hp,by rw[G.kept.nf];exact G.lt,G.free,hsz,fun y=>by cases y⟩
    refine⟨nM m,G.kept.trans (s6 m hpk),G.lt,by rw[kX m,if_pos ⟨rfl,rfl⟩],fun j' E6 q e he hk hin hne=>?_⟩
    rw[kX m,if_neg (fun x=>hne ⟨x.1.symm,x.2⟩)]
    exact G.stay h E6 he (fun _=>hin)
theorem zN {k:Kn} (h:aQ k) {j:Nat} (hj:j<k.aj.length) {p:Int} (hp:mapped k j p) {a:Nat} (ha:aT (aq k.aj j).au p=some ⟨p,1,a⟩) {held:List Int} (hl:held.length<=1):jy k j p held (gB k j p a held)/\(aD (gB k j p a held).2.frames (gB k j p a held).1).refs=1:=by
 have hsp:=h.sp hj
 have he:=(di hsp.dU).1 ha
 have hb:=(fE h hj he.1).resolve_right (fun y=>by have:=y.1;simp at this)
 have hat:a<k.frames.length:=by have:=hb.2.2;simpa using this
 unfold gB
 by_cases c:(aD k.frames a).refs=1
 · rw[if_pos c]
   exact⟨⟨h,Kept.refl k,hat,ha,fun j' E6 q e he hk hin hne=>he⟩,c⟩
 · rw[if_neg c]
   have G:=mA h (held:=held++[(a:Int)]) (by rw[List.length_append,List.length_singleton];omega)
   obtain⟨g,hg⟩:=ex (bM k (held++[(a:Int)]))
   rw[<- hg] at G ⊢
   have hent:aT (aq g.2.aj j).au p=some ⟨p,1,a⟩:=G.stay h hj ha (fun _=>List.mem_append.2 (.inr (by simp)))
   have hj':j<g.2.aj.length:=by rw[G.kept.np];exact hj
   have he':=(di (G.right.sp hj').dU).1 hent
   have hpk:(aD g.2.frames a).data=cK g.2 j p:=by unfold cK;rw[hent];show _=if (1:Int)=1 then (aD g.2.frames (a:Int).toNat).data else _;rw[if_pos rfl,Int.toNat_natCast]
   have hsz:(aD g.2.frames a).data.size=16:=(G.right.mO a (by rw[G.kept.nf];exact hat)).size (fun z=>by
    have:=fw hj' he'.1
    rw[z] at this
    cases this)
   have m:j6 g.2 j p g.1 (aD g.2.frames a).data true:=⟨G.right,hj',G.mapped hj hp,by rw[G.kept.nf];exact G.lt,G.free,hsz,fun y=>by cases y⟩
   refine⟨⟨nM m,G.kept.trans (s6 m hpk),G.lt,by rw[kX m,if_pos ⟨rfl,rfl⟩],fun j' E6 q e he hk hin hne=>?_⟩,?_⟩
   · rw[kX m,if_neg (fun x=>hne ⟨x.1.symm,x.2⟩)]
     exact G.stay h E6 he (fun _=>List.mem_append.2 (.inl hin))
   · obtain⟨_,_,_,_,_,f6,_⟩:=gV _ _ _ _ _ _ m
     show(aD (cJ g.2 j p g.1 _ true).frames g.1).refs=1
     rw[f6,if_pos rfl]
theorem LC {k:Kn} {j:Nat} {p:Int} {held:List Int} {r:Nat×Kn} (b:jy k j p held r) (hj:j<k.aj.length) (way:Int):jy k j p held (r.1,LG r.2 way r.1):=by
 have h:=b.right
 have hlt:r.1<r.2.frames.length:=by rw[b.kept.nf];exact b.lt
 have hj':j<r.2.aj.length:=by rw[b.kept.np];exact hj
 have he:=(di (h.sp hj').dU).1 b.here
 have hL:names r.2.aj 1 r.1≠[]:=fun z=>by
  have:=fw hj' he.1
  rw[z] at this
  cases this
 have hf:=h.mO r.1 hlt
 have hR:aQ (LG r.2 way r.1):=h.frame (f:=mark way (aD r.2.frames r.1)) ⟨hf.refs,fun e=>absurd e hL,hf.one,hf.size,fun d=>hf.fill (by
  have d:((aD r.2.frames r.1).bW || decide (way=1))=false:=d
  cases q:(aD r.2.frames r.1).bW with
  | false=>rfl
  | true=>rw[q] at d;cases d)⟩
 refine⟨hR,b.kept.trans ⟨rfl,List.length_set,rfl,rfl,fun _ _=>rfl,fun _ _=>rfl,fun n hn q=>?_⟩,b.lt,b.here,b.stay⟩
 unfold cK
 show(match aT (aq r.2.aj n).au q with
  | some e=>if e.kind=1 then (aD (r.2.frames.set r.1 (mark way (aD r.2.frames r.1))) e.loc.toNat).data else (bk r.2.slots e.loc.toNat).data
  | none=>_)=_
 cases aT (aq r.2.aj n).au q with
 | none=>rfl
 | some e =>
  show(if e.kind=1 then _ else _)=if e.kind=1 then _ else _
  rw[dZ _ _ _ _ hlt]
  by_cases c:r.1=e.loc.toNat
  · rw[if_pos c,<- c];rfl
  · rw[if_neg c]
theorem jy.trans {k:Kn} {j:Nat} {p:Int} {held:List Int} {r s:Nat×Kn} (a:jy k j p held r) (b:jy r.2 j p held s):jy k j p held s :=
 ⟨b.right,a.kept.trans b.kept,by have:=b.lt;rw[a.kept.nf] at this;exact this,b.here,fun j' hj' q e he h1 h2 h3=>b.stay j' (by rw[a.kept.np];exact hj') q e (a.stay j' hj' q e he h1 h2 h3) h1 h2 h3⟩
theorem Kept.mapped {k k':Kn} (h:Kept k k') {j:Nat} (hj:j<k.aj.length) {p:Int} (hp:mapped k j p):KM.mapped k' j p:=by unfold KM.mapped;rw[h.aA j hj];exact hp
theorem jS {k:Kn} (h:aQ k) {j:Nat} (hj:j<k.aj.length) {p:Int} (hp:mapped k j p) (way:Int) {held:List Int} (hl:held.length<=1):jy k j p held (bV k j p way held)/\(way=1->(aD (bV k j p way held).2.frames (bV k j p way held).1).refs=1/\(aD (bV k j p way held).2.frames (bV k j p way held).1).bW=true):=by
 have P:=oO h hj hp (held:=held) (by omega)
 have hT:jy k j p held (gZ k j p way held)/\(way=1->(aD (gZ k j p way held).2.frames (gZ k j p way held).1).refs=1):=by
  unfold gZ
  by_cases c:way=1
  · rw[if_pos c]
    have A:=zN P.right (by rw[P.kept.np];exact hj) (P.kept.mapped hj hp) P.here hl
    exact⟨P.trans A.1,fun _=>A.2⟩
  · rw[if_neg c];exact⟨P,fun x=>absurd x c⟩
 refine⟨LC hT.1 hj way,fun c=>?_⟩
 have hlt:(gZ k j p way held).1<(gZ k j p way held).2.frames.length:=by rw[hT.1.kept.nf];exact hT.1.lt
 have e:aD (bV k j p way held).2.frames (bV k j p way held).1=mark way (aD (gZ k j p way held).2.frames (gZ k j p way held).1):=by
  show aD ((gZ k j p way held).2.frames.set _ _) (gZ k j p way held).1=_
  rw[dZ _ _ _ _ hlt,if_pos rfl]
 rw[e]
 exact⟨hT.2 c,by unfold mark;simp[c]⟩
structure Us where
 refs:Int
 page:Int
 zero:Bool
def gz:Us:=⟨0,0,false⟩
def cQ (l:List Us) (i:Nat):Us:=l.getD i gz
def lh (us:List Us) (e:En) (z:Bool):Bool:=decide (0<=e.loc/\e.loc<(us.length:Int))&&!(decide (0<(cQ us e.loc.toNat).refs)&&(decide ((cQ us e.loc.toNat).page≠e.page) || (cQ us e.loc.toNat).zero != z))
def qp (us:List Us) (e:En) (z:Bool):List Us:=us.set e.loc.toNat ⟨(cQ us e.loc.toNat).refs+1,e.page,z⟩
def kH (ar:List AM.Ar) (last:Int) (uf us:List Us) (e:En):Bool:=(AM.aK ar e.page).2&&(decide (last<e.page)&&(if e.kind=1 then lh uf e (AM.aK ar e.page).1.zero else if e.kind=2 then lh us e (AM.aK ar e.page).1.zero else false))
def pV (ar:List AM.Ar) (u:List Us×List Us) (e:En):List Us×List Us:=if e.kind=1 then (qp u.1 e (AM.aK ar e.page).1.zero,u.2) else (u.1,qp u.2 e (AM.aK ar e.page).1.zero)
def kL (es:List En) (k:Nat):Int:=if k=0 then 0 else (aJ es (k-1)).page
def gp (ar:List AM.Ar) (es:List En) (u:List Us×List Us):Nat->List Us×List Us
 | 0=>u
 | k+1=>pV ar (gp ar es u k) (aJ es k)
def gJ (ar:List AM.Ar) (es:List En) (u:List Us×List Us):Nat->Bool
 | 0=>true
 | k+1=>gJ ar es u k&&kH ar (kL es k) (gp ar es u k).1 (gp ar es u k).2 (aJ es k)
def og (hs:List LM.Sh) (ar:List AM.Ar):Bool:=ar.all fun a=>(List.range a.aB.toNat).all fun n=>a.zero || decide ((filled hs (a.page+(n:Int))).size≠0)
def jZ (hs:List LM.Sh) (s:Sp):Bool:=if s.live then decide (AM.aO s.aA=0)&&og hs s.aA else decide (s.aA.length=0)&&decide (s.au.length=0)
def kj (ss:List Sp) (u:List Us×List Us):Nat->List Us×List Us
 | 0=>u
 | k+1=>gp (aq ss k).aA (aq ss k).au (kj ss u k) (aq ss k).au.length
def nC (hs:List LM.Sh) (ss:List Sp) (u:List Us×List Us):Nat->Bool
 | 0=>true
 | k+1=>nC hs ss u k&&(jZ hs (aq ss k)&&gJ (aq ss k).aA (aq ss k).au (kj ss u k) (aq ss k).au.length)
def sD (f:Fr):Bool:=decide (f.data.size=0/\f.refs=0/\f.bW=false/\f.seen=false)
def nt (f:Sl):Bool:=decide (f.data.size=0/\f.refs=0)
def fq (hs:List LM.Sh) (f:Fr) (u:Us):Bool:=if u.refs=0 then sD f else decide (f.refs=u.refs/\f.data.size=16)&&(f.bW || decide (f.data=dh hs u.page u.zero))
def gF (s:Sl) (u:Us):Bool:=if u.refs=0 then nt s else decide (s.refs=u.refs/\s.data.size=16)
def vI (k:Kn):List Us×List Us:=kj k.aj (List.replicate k.frames.length gz,List.replicate k.slots.length gz) k.aj.length
def rZ (k:Kn):Bool:=LM.cZ k.ak&&(decide (0<=k.hand/\k.hand<(k.frames.length:Int))&&(nC k.ak k.aj (List.replicate k.frames.length gz,List.replicate k.slots.length gz) k.aj.length&&(decide (room k.aj<=(k.slots.length:Int))&&((List.range k.frames.length).all (fun i=>fq k.ak (aD k.frames i) (cQ (vI k).1 i))&&(List.range k.slots.length).all (fun i=>gF (bk k.slots i) (cQ (vI k).2 i))))))
def dA (k:Kn):Int:=if counts k=false then 2 else if rZ k then 0 else 1
def Sum (L:List (Int×Bool)) (u:Us):Prop:=u.refs=L.length/\∀x∈L,x=(u.page,u.zero)
def yC (N:Int->Int->List (Int×Bool)) (nf ns:Nat) (u:List Us×List Us):Prop:=(u.1.length=nf/\u.2.length=ns)/\(∀i:Nat,i<nf->Sum (N 1 i) (cQ u.1 i))/\∀i:Nat,i<ns->Sum (N 2 i) (cQ u.2 i)
theorem vJ (l:List Us) (j n:Nat) (s:Us) (hj:j<l.length):cQ (l.set j s) n=if j=n then s else cQ l n:=by
 unfold cQ
 by_cases c:j=n
 · subst c;rw[if_pos rfl,bw _ _ _ _ hj]
 · rw[if_neg c,getD_set_ne _ _ _ _ _ c]
theorem BZ {L:List (Int×Bool)} {u:Us} (h:Sum L u) {p:Int} {z:Bool} (hc:¬(0<u.refs/\(u.page≠p∨u.zero≠z))):Sum (L++[(p,z)]) ⟨u.refs+1,p,z⟩:=by
 refine⟨by show u.refs+1=_;rw[h.1,List.length_append];rfl,fun x hx=>?_⟩
 rcases List.mem_append.1 hx with g | g
 · have hpos:0<u.refs:=by rw[h.1];have:=List.length_pos_of_mem g;omega
   have e:=h.2 x g
   have:¬(u.page≠p∨u.zero≠z):=fun y=>hc ⟨hpos,y⟩
   rw[e]
   show(u.page,u.zero)=(p,z)
   by_cases c1:u.page=p
   · by_cases c2:u.zero=z
     · rw[c1,c2]
     · exact absurd (.inr c2) this
   · exact absurd (.inl c1) this
 · simpa using g
theorem pk {us:List Us} {e:En} {z:Bool}:lh us e z=true↔(0<=e.loc/\e.loc<(us.length:Int))/\¬(0<(cQ us e.loc.toNat).refs/\((cQ us e.loc.toNat).page≠e.page∨(cQ us e.loc.toNat).zero≠z)):=by
 unfold lh
 simp only[Bool.and_eq_true,decide_eq_true_eq,Bool.not_eq_true',Bool.and_eq_false_iff,Bool.or_eq_false_iff,decide_eq_false_iff_not,bne_eq_false_iff_eq]
 constructor
 · rintro⟨h1,h2⟩
   refine⟨h1,fun ⟨a,b⟩=>?_⟩
   rcases h2 with g | ⟨g1,g2⟩
   · exact g a
   · rcases b with b | b
     · exact g1 b
     · exact b g2
 · rintro⟨h1,h2⟩
   refine⟨h1,?_⟩
   by_cases a:0<(cQ us e.loc.toNat).refs
   · right
     refine⟨fun b=>h2 ⟨a,.inl b⟩,?_⟩
     by_cases c:(cQ us e.loc.toNat).zero=z
     · exact c
     · exact absurd ⟨a,.inr c⟩ h2
   · exact .inl a
theorem MM {N:Int->Int->List (Int×Bool)} {nf ns:Nat} {u:List Us×List Us} (h:yC N nf ns u) {ar:List AM.Ar} {last:Int} {e:En} (hb:kH ar last u.1 u.2 e=true) :
  yC (fun kd i=>N kd i++nm ar kd i [e]) nf ns (pV ar u e)/\o5 nf ns ar e/\last<e.page:=by
 unfold kH at hb
 rw[Bool.and_eq_true,Bool.and_eq_true,decide_eq_true_eq] at hb
 obtain⟨h1,h2,h3⟩:=hb
 obtain⟨⟨l1,l2⟩,s1,s2⟩:=h
 by_cases c:e.kind=1
 · rw[if_pos c] at h3
   obtain⟨b,hc⟩:=pk.1 h3
   refine⟨⟨⟨?_,?_⟩,fun i hi=>?_,fun i hi=>?_⟩,⟨h1,.inl ⟨c,b.1,by omega⟩⟩,h2⟩
   · unfold pV;rw[if_pos c];unfold qp;rw[List.length_set];exact l1
   · unfold pV;rw[if_pos c];exact l2
   · unfold pV;rw[if_pos c];unfold qp
     show Sum (N 1 i++nm ar 1 i [e]) (cQ (u.1.set _ _) i)
     rw[vJ _ _ _ _ (by omega)]
     by_cases d:e.loc.toNat=i
     · rw[if_pos d,kE ar ⟨c,by omega⟩]
       have:=s1 i hi
       rw[<- d] at this ⊢
       exact BZ this hc
     · rw[if_neg d,jq ar (fun g=>d (by omega)),List.append_nil];exact s1 i hi
   · unfold pV;rw[if_pos c];show Sum (N 2 i++nm ar 2 i [e]) _;rw[jq ar (fun g=>by omega),List.append_nil];exact s2 i hi
 · rw[if_neg c] at h3
   by_cases c2:e.kind=2
   · rw[if_pos c2] at h3
     obtain⟨b,hc⟩:=pk.1 h3
     refine⟨⟨⟨?_,?_⟩,fun i hi=>?_,fun i hi=>?_⟩,⟨h1,.inr ⟨c2,b.1,by omega⟩⟩,h2⟩
     · unfold pV;rw[if_neg c];exact l1
     · unfold pV;rw[if_neg c];unfold qp;rw[List.length_set];exact l2
     · unfold pV;rw[if_neg c];show Sum (N 1 i++nm ar 1 i [e]) _;rw[jq ar (fun g=>c g.1),List.append_nil];exact s1 i hi
     · unfold pV;rw[if_neg c];unfold qp
       show Sum (N 2 i++nm ar 2 i [e]) (cQ (u.2.set _ _) i)
       rw[vJ _ _ _ _ (by omega)]
       by_cases d:e.loc.toNat=i
       · rw[if_pos d,kE ar ⟨c2,by omega⟩]
         have:=s2 i hi
         rw[<- d] at this ⊢
         exact BZ this hc
       · rw[if_neg d,jq ar (fun g=>d (by omega)),List.append_nil];exact s2 i hi
   · rw[if_neg c2] at h3;cases h3
theorem MP {N:Int->Int->List (Int×Bool)} {nf ns:Nat} {u:List Us×List Us} (h:yC N nf ns u) {ar:List AM.Ar} {last:Int} {e:En} (he:o5 nf ns ar e) (hl:last<e.page) (ho:∀x∈N e.kind e.loc,x=(e.page,(AM.aK ar e.page).1.zero)):kH ar last u.1 u.2 e=true:=by
 obtain⟨⟨l1,l2⟩,s1,s2⟩:=h
 unfold kH
 rw[he.1,decide_eq_true hl,Bool.true_and,Bool.true_and]
 have key:∀(us:List Us) (n:Nat),us.length=n->(0<=e.loc/\e.loc<(n:Int))->Sum (N e.kind (e.loc.toNat:Int)) (cQ us e.loc.toNat)->lh us e (AM.aK ar e.page).1.zero=true:=fun us n hn hb hs=>by
  rw[pk]
  refine⟨by omega,fun ⟨a,b⟩=>?_⟩
  rw[hs.1] at a
  obtain⟨x,hx⟩:=List.exists_mem_of_length_pos (show 0<(N e.kind (e.loc.toNat:Int)).length by omega)
  have e1:=hs.2 x hx
  have e2:=ho x (by rw[show(e.loc.toNat:Int)=e.loc by omega] at hx;exact hx)
  rw[e1] at e2
  injection e2 with e3 e4
  rcases b with b | b
  · exact b e3
  · exact b e4
 rcases he.2 with g | g
 · rw[if_pos g.1]
   exact key u.1 nf l1 g.2 (by rw[g.1];exact s1 _ (by omega))
 · rw[if_neg (by omega),if_pos g.1]
   exact key u.2 ns l2 g.2 (by rw[g.1];exact s2 _ (by omega))
theorem take_succ (es:List En) (k:Nat) (hk:k<es.length):es.take (k+1)=es.take k++[aJ es k]:=by
 rw[List.take_add_one]
 unfold aJ
 rw[List.getD_eq_getElem?_getD,List.getElem?_eq_getElem hk]
 rfl
theorem xz {N:Int->Int->List (Int×Bool)} {nf ns:Nat} {u:List Us×List Us} (h:yC N nf ns u) (ar:List AM.Ar) (es:List En):∀k,k<=es.length->gJ ar es u k=true->yC (fun kd i=>N kd i++nm ar kd i (es.take k)) nf ns (gp ar es u k)/\∀i,i<k->o5 nf ns ar (aJ es i)/\kL es i<(aJ es i).page
 | 0,_,_=>⟨by
  have e:(fun kd i=>N kd i++nm ar kd i (es.take 0))=N:=by funext kd i;simp[nm]
  rw[e]
  exact h,fun i hi=>by omega⟩
 | k+1,hk,hb=>by
  unfold gJ at hb
  rw[Bool.and_eq_true] at hb
  obtain⟨a1,a2⟩:=xz h ar es k (by omega) hb.1
  obtain⟨b1,b2,b3⟩:=MM a1 hb.2
  refine⟨?_,fun i hi=>?_⟩
  · have e:(fun kd i=>N kd i++nm ar kd i (es.take (k+1)))=fun kd i=>(N kd i++nm ar kd i (es.take k))++nm ar kd i [aJ es k]:=by
     funext kd i
     rw[take_succ es k (by omega),eZ,List.append_assoc]
    rw[e];exact b1
  · by_cases c:i=k
    · subst c;exact⟨b2,b3⟩
    · exact a2 i (by omega)
theorem zF {N:Int->Int->List (Int×Bool)} {nf ns:Nat} {u:List Us×List Us} (h:yC N nf ns u) (ar:List AM.Ar) (es:List En) (he:∀i,i<es.length->o5 nf ns ar (aJ es i)/\kL es i<(aJ es i).page) (ho:∀kd i,∀x∈N kd i++nm ar kd i es,∀y∈N kd i++nm ar kd i es,x=y):∀k,k<=es.length->gJ ar es u k=true
 | 0,_=>rfl
 | k+1,hk=>by
  have ih:=zF h ar es he ho k (by omega)
  unfold gJ
  rw[ih,Bool.true_and]
  obtain⟨a1,_⟩:=xz h ar es k (by omega) ih
  refine MP a1 (he k (by omega)).1 (he k (by omega)).2 fun x hx=>?_
  have hm:(aJ es k)∈es:=dB (by omega)
  refine ho (aJ es k).kind (aJ es k).loc x ?_ _ (List.mem_append.2 (.inr (Aw.2 ⟨_,hm,rfl,rfl,rfl⟩)))
  rcases List.mem_append.1 hx with g | g
  · exact List.mem_append.2 (.inl g)
  · obtain⟨e,he,h1,h2,h3⟩:=Aw.1 g
    exact List.mem_append.2 (.inr (Aw.2 ⟨e,List.mem_of_mem_take he,h1,h2,h3⟩))
end KM
namespace PM
open Go.RowKit
def le (k:Nat) (n:Int):ByteArray:=⟨(Lib.leBytes k (CM.low n)).toArray⟩
theorem le_size (k:Nat) (n:Int):(le k n).size=k:=by
 unfold le
 rw[Lib.size_eq]
 simp[Lib.leBytes_length]
structure J6 where
 op:Int
 a:Int
 b:Int
 c:Int
 m:Int
def J6.cells (i:J6):Array Value:=#[I i.op,I i.a,I i.b,I i.c,I i.m]
def Uy (n:Int):Prop:=0<=n/\n<=255
instance (n:Int):Decidable (Uy n):=by unfold Uy;infer_instance
def J6.fits (i:J6):Prop:=Uy i.op/\Uy i.a/\Uy i.b/\Uy i.c/\-2147483648<=i.m/\i.m<=2147483647
instance (i:J6):Decidable i.fits:=by unfold J6.fits;infer_instance
def J6.bytes (i:J6):ByteArray:=(((le 1 i.op++le 1 i.a)++le 1 i.b)++le 1 i.c)++le 4 i.m
end PM
end Go.Proofs.YtpgifpeohlllfaaGreat
