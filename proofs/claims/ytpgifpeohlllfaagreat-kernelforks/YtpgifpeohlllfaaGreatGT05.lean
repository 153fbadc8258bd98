import Derived.Test.YtpgifpeohlllfaaGreatGT04
set_option maxHeartbeats 20000000
set_option linter.unusedVariables false
set_option maxRecDepth 100000
set_option linter.unusedSimpArgs false
namespace Go.Proofs.YtpgifpeohlllfaaGreat
namespace KM
open Go.RowKit
theorem Jp {i:Int} {es:List En} (h:kW es) (p:Int):bf (yK i es) p=(bf es p).filter fun e=>!jn i e:=by
 cases g:bf es p with
 | none=>rw[Option.filter_none,lQ];rw[lQ] at g;exact fun e he=>g e (tJ.1 he).1
 | some e =>
  have he:=(dM h).1 g;by_cases c:e.kind=1/\e.loc=i
  · rw[Option.filter_some,iI.2 c,if_neg (by simp),lQ];intro x hx hp;have hx:=tJ.1 hx;have:some x=some e:=((dM h).2 ⟨hx.1,hp⟩).symm.trans g;injection this with this;exact hx.2 (by rw[this];exact c)
  · rw[Option.filter_some,jz.2 c,if_pos (by simp),dM (EJ h)];exact⟨tJ.2 ⟨he.1,c⟩,he.2⟩
theorem Ec {i s:Int} {es:List En} (h:kW es) (p:Int):bf (gy i s es) p=(bf es p).map fun e=>if jn i e then ⟨e.page,2,s⟩ else e:=by
 cases g:bf es p with
 | none =>
  rw[Option.map_none,lQ];rw[lQ] at g;intro x hx;rcases pV.1 hx with y | ⟨y,hy,_,rfl⟩
  · exact g x y.1
  · exact g y hy
 | some e =>
  have he:=(dM h).1 g;rw[Option.map_some,dM (Ba h)];by_cases c:e.kind=1/\e.loc=i
  · rw[iI.2 c,if_pos rfl];exact⟨pV.2 (.inr ⟨e,he.1,c,rfl⟩),he.2⟩
  · rw[jz.2 c,if_neg (by simp)];exact⟨pV.2 (.inl ⟨he.1,c⟩),he.2⟩
theorem jT (f:Sp->Sp) (l:List Sp) (j:Nat) (hj:j<l.length):au (l.map f) j=f (au l j):=getD_map f uu uu l j hj
structure Kept (k k':Kn):Prop where
 ak:k'.ak=k.ak
 nf:k'.frames.length=k.frames.length
 ns:k'.slots.length=k.slots.length
 np:k'.aj.length=k.aj.length
 live:∀j,j<k.aj.length->(au k'.aj j).live=(au k.aj j).live
 aB:∀j,j<k.aj.length->(au k'.aj j).aB=(au k.aj j).aB
 CS:∀j,j<k.aj.length->∀p,dD k' j p=dD k j p
theorem Kept.refl (k:Kn):Kept k k:=⟨rfl,rfl,rfl,rfl,fun _ _=>rfl,fun _ _=>rfl,fun _ _ _=>rfl⟩
theorem Kept.trans {a b c:Kn} (h:Kept a b) (g:Kept b c):Kept a c :=
 ⟨g.ak.trans h.ak,g.nf.trans h.nf,g.ns.trans h.ns,g.np.trans h.np,fun j hj=>(g.live j (by rw[h.np];exact hj)).trans (h.live j hj),fun j hj=>(g.aB j (by rw[h.np];exact hj)).trans (h.aB j hj),fun j hj p=>(g.CS j (by rw[h.np];exact hj) p).trans (h.CS j hj p)⟩
theorem Ml {k:Kn} (h:aQ k) {i:Nat} (hi:i<k.frames.length) (hd:(aH k.frames i).cj=false):Kept k (fJ k i):=by
 refine⟨rfl,List.length_set,rfl,List.length_map ..,fun j hj=>?_,fun j hj=>?_,fun j hj p=>?_⟩
 · show(au (k.aj.map (oF i)) j).live=_;rw[jT _ _ _ hj];rfl
 · show(au (k.aj.map (oF i)) j).aB=_;rw[jT _ _ _ hj];rfl
 · have hsp:=h.sp hj;unfold dD;show(match bf (au (k.aj.map (oF i)) j).aA p with
    | some e=>if e.kind=1 then (aH (k.frames.set i mz) e.loc.toNat).data else (bj k.slots e.loc.toNat).data
    | none=>dY k.ak p (AM.aR (au (k.aj.map (oF i)) j).aB p).1.zero)=_
   rw[jT _ _ _ hj];show(match bf (yK i (au k.aj j).aA) p with
    | some e=>if e.kind=1 then (aH (k.frames.set i mz) e.loc.toNat).data else (bj k.slots e.loc.toNat).data
    | none=>dY k.ak p (AM.aR (au k.aj j).aB p).1.zero)=_
   rw[Jp hsp.eJ];cases g:bf (au k.aj j).aA p with
   | none=>rfl
   | some e =>
    have he:=(dM hsp.eJ).1 g;have hb:=fN h hj he.1;by_cases c:e.kind=1/\e.loc=(i:Int)
    · rw[Option.filter_some,iI.2 c,if_neg (by simp)];show _=if e.kind=1 then _ else _
      rw[if_pos c.1,show e.loc.toNat=i by omega];have:=fW hj he.1;rw[c.1,c.2] at this;have:=(h.m7 i hi).fill hd _ this;rw[this,he.2]
    · rw[Option.filter_some,jz.2 c,if_pos (by simp)];show(if e.kind=1 then _ else _)=if e.kind=1 then _ else _
      by_cases c1:e.kind=1
      · rw[if_pos c1,if_pos c1,eW _ _ _ _ hi,if_neg (fun e1=>c ⟨c1,by omega⟩)]
      · rw[if_neg c1,if_neg c1]
theorem KF {k:Kn} (h:aQ k) {i s:Nat} (hi:i<k.frames.length) (hs:s<k.slots.length) (hf:names k.aj 2 s=[]):Kept k (xZ k i s):=by
 refine⟨rfl,List.length_set,List.length_set,List.length_map ..,fun j hj=>?_,fun j hj=>?_,fun j hj p=>?_⟩
 · show(au (k.aj.map (ie i s)) j).live=_;rw[jT _ _ _ hj];rfl
 · show(au (k.aj.map (ie i s)) j).aB=_;rw[jT _ _ _ hj];rfl
 · have hsp:=h.sp hj;unfold dD;show(match bf (au (k.aj.map (ie i s)) j).aA p with
    | some e=>if e.kind=1 then (aH (k.frames.set i mz) e.loc.toNat).data else (bj (k.slots.set s ⟨(aH k.frames i).data,(aH k.frames i).refs⟩) e.loc.toNat).data
    | none=>dY k.ak p (AM.aR (au (k.aj.map (ie i s)) j).aB p).1.zero)=_
   rw[jT _ _ _ hj];show(match bf (gy i s (au k.aj j).aA) p with
    | some e=>if e.kind=1 then (aH (k.frames.set i mz) e.loc.toNat).data else (bj (k.slots.set s ⟨(aH k.frames i).data,(aH k.frames i).refs⟩) e.loc.toNat).data
    | none=>dY k.ak p (AM.aR (au k.aj j).aB p).1.zero)=_
   rw[Ec hsp.eJ];cases g:bf (au k.aj j).aA p with
   | none=>rfl
   | some e =>
    have he:=(dM hsp.eJ).1 g;have hb:=fN h hj he.1;by_cases c:e.kind=1/\e.loc=(i:Int)
    · rw[Option.map_some,iI.2 c,if_pos rfl];show(if (2:Int)=1 then _ else (bj (k.slots.set s _) (s:Int).toNat).data)=if e.kind=1 then _ else _
      rw[if_neg (by omega),if_pos c.1,Int.toNat_natCast,ot _ _ _ _ hs,if_pos rfl,show e.loc.toNat=i by omega]
    · rw[Option.map_some,jz.2 c,if_neg (by simp)];show(if e.kind=1 then _ else _)=if e.kind=1 then _ else _
      by_cases c1:e.kind=1
      · rw[if_pos c1,if_pos c1,eW _ _ _ _ hi,if_neg (fun e1=>c ⟨c1,by omega⟩)]
      · rw[if_neg c1,if_neg c1,ot _ _ _ _ hs,if_neg (fun e1=>by
         have:=fW hj he.1;rw[show e.kind=2 by omega,show e.loc=(s:Int) by omega,hf] at this;cases this)]
theorem IW {k:Kn} (h:aQ k) {i:Nat} (hi:i<k.frames.length) (hr:(aH k.frames i).refs≠0):Kept k (cY k i):=by
 unfold cY;by_cases c:(aH k.frames i).cj=true
 · rw[if_pos c];obtain⟨s,h1,h2,h3⟩:=h.slot hi hr;rw[h1];exact KF h hi h2 h3
 · rw[if_neg c];exact Ml h hi (by simpa using c)
theorem IY (k:Kn) (i:Nat):names (cY k i).aj 1 i=[]:=by
 unfold cY;by_cases c:(aH k.frames i).cj=true
 · rw[if_pos c];cases rN k.slots with
   | none=>exact jG (oF i) 1 i _ (fun s _=>oY s.aB i s.aA)
   | some s=>exact jG (ie i s) 1 i _ (fun sp _=>vT sp.aB i s sp.aA)
 · rw[if_neg c];exact jG (oF i) 1 i _ (fun s _=>oY s.aB i s.aA)
theorem ui (k:Kn) (i:Nat):(cY k i).frames=k.frames.set i mz/\(cY k i).hand=k.hand:=by
 unfold cY;by_cases c:(aH k.frames i).cj=true
 · rw[if_pos c];cases rN k.slots with
   | none=>exact⟨rfl,rfl⟩
   | some s=>exact⟨rfl,rfl⟩
 · rw[if_neg c];exact⟨rfl,rfl⟩
theorem My {k:Kn} (h:aQ k) (i:Nat) {j:Nat} (hj:j<k.aj.length) (p:Int) (hn:∀e,bf (au k.aj j).aA p=some e->¬(e.kind=1/\e.loc=(i:Int))):bf (au (cY k i).aj j).aA p=bf (au k.aj j).aA p:=by
 have hr:=(h.sp hj).eJ;have hD:bf (au (k.aj.map (oF i)) j).aA p=bf (au k.aj j).aA p:=by
  rw[jT _ _ _ hj];show bf (yK i (au k.aj j).aA) p=_;rw[Jp hr];cases g:bf (au k.aj j).aA p with
  | none=>rfl
  | some e=>rw[Option.filter_some,jz.2 (hn e g),if_pos (by simp)]
 unfold cY;by_cases c:(aH k.frames i).cj=true
 · rw[if_pos c];cases rN k.slots with
   | none=>exact hD
   | some s =>
    show bf (au (k.aj.map (ie i s)) j).aA p=_;rw[jT _ _ _ hj];show bf (gy i s (au k.aj j).aA) p=_;rw[Ec hr];cases g:bf (au k.aj j).aA p with
    | none=>rfl
    | some e=>rw[Option.map_some,jz.2 (hn e g),if_neg (by simp)]
 · rw[if_neg c];exact hD
theorem IV {k:Kn} (h:aQ k) {i:Nat} (hi:i<k.frames.length) (hr:(aH k.frames i).refs≠0) (n:Nat) (hn:names k.aj 2 n≠[]):bj (cY k i).slots n=bj k.slots n:=by
 unfold cY;by_cases c:(aH k.frames i).cj=true
 · rw[if_pos c];obtain⟨s,h1,h2,h3⟩:=h.slot hi hr;rw[h1];show bj (k.slots.set s _) n=_;rw[ot _ _ _ _ h2,if_neg (fun e=>hn (by rw[<- e];exact h3))]
 · rw[if_neg c];rfl
theorem uR {k:Kn} {j:Nat} {p:Int} {i:Nat} {d:ByteArray} {dy:Bool} (m:lu k j p i d dy) (hd:d=dD k j p):Kept k (cZ k j p i d dy):=by
 have h:=m.right;have hsp:=h.sp m.hj;have hR:=oZ m;obtain⟨f1,f2,f3,f4,f5,f6,f7⟩:=iF k j p i d dy m;have hat:∀n,au (cZ k j p i d dy).aj n=if j=n then dU (au k.aj j) (m8 (au k.aj j).aA ⟨p,1,i⟩) else au k.aj n:=fun n=>by rw[f5,fR _ _ _ _ m.hj]
 have rH:(cZ k j p i d dy).aj.length=k.aj.length:=by rw[f5,List.length_set]
 refine⟨f3,f1,f2,rH,fun n hn=>?_,fun n hn=>?_,fun n hn q=>?_⟩
 · rw[hat];by_cases c:j=n
   · rw[if_pos c,<- c];rfl
   · rw[if_neg c]
 · rw[hat];by_cases c:j=n
   · rw[if_pos c,<- c];rfl
   · rw[if_neg c]
 · have aej:(au (cZ k j p i d dy).aj n).aB=(au k.aj n).aB:=by
    rw[hat];by_cases c:j=n
    · rw[if_pos c,<- c];rfl
    · rw[if_neg c]
   have hent:bf (au (cZ k j p i d dy).aj n).aA q=if j=n/\q=p then some ⟨p,1,i⟩ else bf (au k.aj n).aA q:=by
    rw[hat];by_cases c:j=n
    · rw[if_pos c];show bf (m8 (au k.aj j).aA ⟨p,1,i⟩) q=_;rw[Jn hsp.eJ];by_cases c2:q=p
      · rw[if_pos c2,if_pos ⟨c,c2⟩]
      · rw[if_neg c2,if_neg (fun g=>c2 g.2),c]
    · rw[if_neg c,if_neg (fun g=>c g.1)]
   by_cases c:j=n/\q=p
   · obtain⟨rfl,rfl⟩:=c;rw[<- hd];unfold dD;rw[hent,if_pos ⟨rfl,rfl⟩];show(aH (cZ k j q i d dy).frames (i:Int).toNat).data=d;rw[f6,Int.toNat_natCast,if_pos rfl]
   · rw[if_neg c] at hent;have hn':n<(cZ k j p i d dy).aj.length:=by rw[rH];exact hn
     have adE:=h.sp hn;unfold dD;rw[hent,aej,f3];cases g:bf (au k.aj n).aA q with
     | none=>rfl
     | some e =>
      have he:=(dM adE.eJ).1 g;have hb:=fN h hn he.1;have he':=(dM (hR.sp hn').eJ).1 (hent.trans g);have pO:=fW hn' he'.1;have ZG:=fW hn he.1;show(if e.kind=1 then _ else _)=if e.kind=1 then _ else _
      by_cases c1:e.kind=1
      · rw[if_pos c1,if_pos c1,f6];have hb:=hb.resolve_right (fun x=>by omega);have hni:e.loc.toNat≠i:=fun e1=>by
         rw[c1,show e.loc=(i:Int) by omega,m.free] at ZG;cases ZG
        rw[if_neg hni];have hF:=hR.m7 e.loc.toNat (by rw[f1];exact hb.2.2);rw[f6,if_neg hni] at hF;have hne:names (cZ k j p i d dy).aj 1 (e.loc.toNat:Int)≠[]:=fun e1=>by
         rw[c1,<- hb.2.1,e1] at pO;cases pO
        cases g2:bf (au k.aj j).aA p with
        | none=>rfl
        | some e2 =>
         rw[g2] at hF;have hF:vA _ _ (if e2.kind=1/\e2.loc=(e.loc.toNat:Int) then jk (aH k.frames e.loc.toNat) else aH k.frames e.loc.toNat):=hF;show(if e2.kind=1/\e2.loc=(e.loc.toNat:Int) then jk (aH k.frames e.loc.toNat) else aH k.frames e.loc.toNat).data=_;by_cases c3:e2.kind=1/\e2.loc=(e.loc.toNat:Int)
         · rw[if_pos c3] at hF ⊢;unfold jk at hF ⊢;by_cases c4:(aH k.frames e.loc.toNat).refs-1=0
           · rw[if_pos c4] at hF;exact absurd (hF.nil rfl) hne
           · rw[if_neg c4]
         · rw[if_neg c3]
      · rw[if_neg c1,if_neg c1,f7];have hb:=hb.resolve_left (fun x=>c1 x.1);have hF:=hR.slt e.loc.toNat (by rw[f2];exact hb.2.2);rw[f7] at hF;have hne:names (cZ k j p i d dy).aj 2 (e.loc.toNat:Int)≠[]:=fun e1=>by
         rw[hb.1,<- hb.2.1,e1] at pO;cases pO
        cases g2:bf (au k.aj j).aA p with
        | none=>rfl
        | some e2 =>
         rw[g2] at hF;have hF:DT _ (if e2.kind=2/\e2.loc=(e.loc.toNat:Int) then kv (bj k.slots e.loc.toNat) else bj k.slots e.loc.toNat):=hF;show(if e2.kind=2/\e2.loc=(e.loc.toNat:Int) then kv (bj k.slots e.loc.toNat) else bj k.slots e.loc.toNat).data=_;by_cases c3:e2.kind=2/\e2.loc=(e.loc.toNat:Int)
         · rw[if_pos c3] at hF ⊢;unfold kv at hF ⊢;by_cases c4:(bj k.slots e.loc.toNat).refs-1=0
           · rw[if_pos c4] at hF;exact absurd (hF.nil rfl) hne
           · rw[if_neg c4]
         · rw[if_neg c3]
def gB (k:Kn):Int:=(k.hand+1)%(k.frames.length:Int)
def ku (held:List Int) (k:Kn):Bool:=held.contains k.hand || (aH k.frames k.hand.toNat).seen
def unseen (f:Fr):Fr:={ f with seen:=false }
def gL (held:List Int) (k:Kn):Kn:={ k with hand:=gB k,frames:=if held.contains k.hand then k.frames else k.frames.set k.hand.toNat (unseen (aH k.frames k.hand.toNat)) }
def bH (held:List Int):Nat->Kn->Kn
 | 0,k=>k
 | n+1,k=>gL held (bH held n k)
def j6 (held:List Int):Nat->Kn->Kn
 | 0,k=>k
 | n+1,k=>if ku held k then j6 held n (gL held k) else k
def Full (k:Kn):Prop:=∀i,i<k.frames.length->(aH k.frames i).refs≠0
theorem Jh (held:List Int) (k:Kn):(gL held k).frames.length=k.frames.length:=by
 unfold gL;by_cases c:held.contains k.hand=true
 · rw[if_pos c]
 · rw[if_neg c];exact List.length_set
theorem Ji (held:List Int) {k:Kn} (hh:0<=k.hand/\k.hand<k.frames.length) (n:Nat):aH (gL held k).frames n=if (n:Int)=k.hand/\held.contains k.hand=false then unseen (aH k.frames n) else aH k.frames n:=by
 unfold gL;by_cases c:held.contains k.hand=true
 · rw[if_pos c,if_neg (by rw[c];simp)]
 · show aH (if _ then _ else _) n=_;rw[if_neg c,eW _ _ _ _ (by omega)];by_cases d:k.hand.toNat=n
   · rw[if_pos d,if_pos ⟨by omega,by simpa using c⟩,d]
   · rw[if_neg d,if_neg (by omega)]
theorem Jt {k:Kn} (h3:3<=k.frames.length):0<=gB k/\gB k<k.frames.length:=⟨Int.emod_nonneg _ (by omega),Int.emod_lt_of_pos _ (by omega)⟩
theorem GG (held:List Int) {k:Kn} (h:aQ k) (hf:Full k):aQ (gL held k)/\Full (gL held k)/\Kept k (gL held k)/\(gL held k).aj=k.aj/\(gL held k).slots=k.slots:=by
 have h3:=h.c.1.1;have hn:=Jt h3;have hat:=Ji held h.hand;refine⟨?_,fun i hi=>?_,⟨rfl,Jh held k,rfl,rfl,fun _ _=>rfl,fun _ _=>rfl,fun j hj p=>?_⟩,rfl,rfl⟩
 · unfold gL;by_cases c:held.contains k.hand=true
   · rw[if_pos c];exact h.turn hn
   · rw[if_neg c];have hi:k.hand.toNat<k.frames.length:=by have:=h.hand;omega
     have:=(h.m7 _ hi);have g:=h.frame (this.seen false (this.ne (hf _ hi)));exact aQ.turn g (x:=gB k) (by show 0<=gB k/\gB k<((k.frames.set _ _).length:Int);rw[List.length_set];exact hn)
 · rw[Jh] at hi;rw[hat];have:=hf i hi;by_cases c:(i:Int)=k.hand/\held.contains k.hand=false
   · rw[if_pos c];exact this
   · rw[if_neg c];exact this
 · unfold dD;show(match bf (au k.aj j).aA p with
    | some e=>if e.kind=1 then (aH (gL held k).frames e.loc.toNat).data else (bj k.slots e.loc.toNat).data
    | none=>_)=_
   have aeb:∀n,(aH (gL held k).frames n).data=(aH k.frames n).data:=fun n=>by
    rw[hat];by_cases c:(n:Int)=k.hand/\held.contains k.hand=false
    · rw[if_pos c];rfl
    · rw[if_neg c]
   cases bf (au k.aj j).aA p with
   | none=>rfl
   | some e =>
    show(if e.kind=1 then (aH (gL held k).frames e.loc.toNat).data else _)=_;rw[aeb]
structure Xi (held:List Int) (k:Kn) (n:Nat):Prop where
 right:aQ (bH held n k)
 full:Full (bH held n k)
 kept:Kept k (bH held n k)
 aj:(bH held n k).aj=k.aj
 slots:(bH held n k).slots=k.slots
 hand:(bH held n k).hand=(k.hand+n)%(k.frames.length:Int)
 zk:∀i:Nat,(i:Int)∈held->aH (bH held n k).frames i=aH k.frames i
 past:∀m:Nat,m<n->∀i:Nat,(i:Int)=(k.hand+m)%(k.frames.length:Int)->(i:Int)∈held∨(aH (bH held n k).frames i).seen=false
theorem CC (held:List Int) {k:Kn} (h:aQ k) (hf:Full k):∀n,Xi held k n
 | 0=>⟨h,hf,Kept.refl k,rfl,rfl,by have:=h.hand;show k.hand=(k.hand+((0:Nat):Int))%_;rw[Int.emod_eq_of_lt] <;> omega,fun _ _=>rfl,fun m hm=>by omega⟩
 | n+1=>by
  have t:=CC held h hf n;obtain⟨s1,s2,s3,s4,s5⟩:=GG held t.right t.full;have hat:=Ji held t.right.hand;have lj:=t.kept.nf;have hN:=h.c.1.1;refine⟨s1,s2,t.kept.trans s3,s4.trans t.aj,s5.trans t.slots,?_,fun i hi=>?_,fun m hm i hi=>?_⟩
  · show gB (bH held n k)=_;unfold gB;rw[lj,t.hand,Int.emod_add_emod];congr 1;omega
  · show aH (gL held (bH held n k)).frames i=_;rw[hat,if_neg,t.zk i hi];intro g;have:held.contains (bH held n k).hand=true:=by rw[List.contains_iff_mem,<- g.1];exact hi
    rw[this] at g;cases g.2
  · show _∨(aH (gL held (bH held n k)).frames i).seen=false;rw[hat];by_cases c:(i:Int)=(bH held n k).hand/\held.contains (bH held n k).hand=false
    · rw[if_pos c];exact .inr rfl
    · rw[if_neg c];by_cases d:m=n
      · subst d;have e1:(i:Int)=(bH held m k).hand:=hi.trans t.hand.symm;have:held.contains (bH held m k).hand=true:=by
         cases q:held.contains (bH held m k).hand with
         | true=>rfl
         | false=>exact absurd ⟨e1,q⟩ c
        rw[List.contains_iff_mem,<- e1] at this;exact .inl this
      · exact t.past m (by omega) i hi
theorem third {held:List Int} (hl:held.length<=2) (a b c:Int) (h1:a≠b) (h2:a≠c) (h3:b≠c):a∉held∨b∉held∨c∉held:=by
 by_cases ha:a∈held
 · by_cases hb:b∈held
   · right;right;intro hc;have l1:=List.length_erase_of_mem ha;have hb':b∈held.erase a:=(List.mem_erase_of_ne (fun e=>h1 e.symm)).2 hb;have hc':c∈held.erase a:=(List.mem_erase_of_ne (fun e=>h2 e.symm)).2 hc;have l2:=List.length_erase_of_mem hb';have hc'':c∈(held.erase a).erase b:=(List.mem_erase_of_ne (fun e=>h3 e.symm)).2 hc';have:=List.length_pos_of_mem hc'';have:=List.length_pos_of_mem ha;omega
   · exact .inr (.inl hb)
 · exact .inl ha
theorem uS {x n:Int} (h0:0<=x) (h1:x<2*n) (hn:0<n):(x<n/\x%n=x)∨(n<=x/\x%n=x-n):=by
 by_cases c:x<n
 · exact .inl ⟨c,Int.emod_eq_of_lt h0 c⟩
 · right;refine⟨by omega,?_⟩;rw[<- Int.sub_emod_right x n];exact Int.emod_eq_of_lt (by omega) (by omega)
theorem zO (held:List Int) (hl:held.length<=2) {k:Kn} (h:aQ k) (hf:Full k):∃T,T<=66/\(∀m,m<T->ku held (bH held m k)=true)/\ku held (bH held T k)=false:=by
 have hN:=h.c.1;have hex:∃T,T<=66/\ku held (bH held T k)=false:=by
  have hh:=h.hand;obtain⟨N,hNe⟩:∃N:Int,N=(k.frames.length:Int):=⟨_,rfl⟩;have hit:∀x:Nat,x<3->(k.hand+x)%N∉held->∃T,T<=66/\ku held (bH held T k)=false:=fun x hx hno=>by
   have t:=CC held h hf (k.frames.length+x);have hm:0<=(k.hand+x)%N/\(k.hand+x)%N<N:=⟨Int.emod_nonneg _ (by omega),Int.emod_lt_of_pos _ (by omega)⟩;have ZU:(bH held (k.frames.length+x) k).hand=(k.hand+x)%N:=by
    rw[t.hand,<- hNe,<- Int.add_emod_right (k.hand+x) N,hNe];congr 1;omega
   refine⟨k.frames.length+x,by omega,?_⟩;unfold ku;rw[ZU];have hi:(((k.hand+x)%N).toNat:Int)=(k.hand+x)%N:=by omega
   have:=t.past x (by omega) ((k.hand+x)%N).toNat (by rw[hi,<- hNe]);rw[hi] at this;have c1:held.contains ((k.hand+x)%N)=false:=by
    cases q:held.contains ((k.hand+x)%N) with
    | false=>rfl
    | true=>exact absurd (List.contains_iff_mem.1 q) hno
   rw[c1,this.resolve_left hno];rfl
  have d0:=uS (x:=k.hand+(0:Nat)) (n:=N) (by omega) (by omega) (by omega);have d1:=uS (x:=k.hand+(1:Nat)) (n:=N) (by omega) (by omega) (by omega);have d2:=uS (x:=k.hand+(2:Nat)) (n:=N) (by omega) (by omega) (by omega);rcases third hl ((k.hand+(0:Nat))%N) ((k.hand+(1:Nat))%N) ((k.hand+(2:Nat))%N) (by omega) (by omega) (by omega) with g | g | g
  · exact hit 0 (by omega) g
  · exact hit 1 (by omega) g
  · exact hit 2 (by omega) g
 obtain⟨T,hT,hp⟩:=hex;clear hN;induction T using Nat.strongRecOn with
 | _ T ih =>
  by_cases c:∃m,m<T/\ku held (bH held m k)=false
  · obtain⟨m,hm,hq⟩:=c;exact ih m hm (by omega) hq
  · exact⟨T,hT,fun m hm=>by
     cases q:ku held (bH held m k) with
     | true=>rfl
     | false=>exact absurd ⟨m,hm,q⟩ c,hp⟩
theorem zN (held:List Int):∀(T n:Nat) (k:Kn),T<=n->(∀m,m<T->ku held (bH held m k)=true)->ku held (bH held T k)=false->j6 held (n+1) k=bH held T k:=fun T=>by
 have shift:∀m k,bH held m (gL held k)=bH held (m+1) k:=fun m k=>by
  induction m with
  | zero=>rfl
  | succ m ih=>show gL held _=gL held _;rw[ih]
 induction T with
 | zero =>
  intro n k _ _ h;show(if ku held k then _ else k)=k;rw[if_neg (by rw[show ku held k=false from h];simp)]
 | succ T ih =>
  intro n k hn h1 h2;obtain⟨n,rfl⟩:∃m,n=m+1:=⟨n-1,by omega⟩;show(if ku held k then j6 held (n+1) (gL held k) else k)=_;rw[if_pos (show ku held k=true from h1 0 (by omega)),ih n (gL held k) (by omega) (fun m hm=>by rw[shift];exact h1 (m+1) (by omega)) (by rw[shift];exact h2),shift]
def bT (k:Kn) (held:List Int):Nat×Kn:=match wH k.frames with
 | some i=>(i,k)
 | none=>((j6 held 70 k).hand.toNat,{ cY (j6 held 70 k) (j6 held 70 k).hand.toNat with hand:=gB (j6 held 70 k) })
structure Got (k:Kn) (held:List Int) (g:Nat×Kn):Prop where
 right:aQ g.2
 kept:Kept k g.2
 lt:g.1<k.frames.length
 free:names g.2.aj 1 g.1=[]
 zk:∀i:Nat,(i:Int)∈held->(aH k.frames i).refs≠0->i≠g.1/\aH g.2.frames i=aH k.frames i
 u9:∀j,j<k.aj.length->∀p,(∀e,bf (au k.aj j).aA p=some e->¬(e.kind=1/\e.loc=(g.1:Int)))->bf (au g.2.aj j).aA p=bf (au k.aj j).aA p
 slot:∀n:Nat,names k.aj 2 n≠[]->bj g.2.slots n=bj k.slots n
theorem nK {k:Kn} (h:aQ k) {held:List Int} (hl:held.length<=2):Got k held (bT k held):=by
 unfold bT;cases hf:wH k.frames with
 | some i =>
  obtain⟨h1,h2,_⟩:=List.findIdx?_eq_some_iff_getElem.1 hf;have hr:(aH k.frames i).refs=0:=by
   unfold aH;rw[List.getD_eq_getElem?_getD,List.getElem?_eq_getElem h1];exact of_decide_eq_true h2
  exact⟨h,Kept.refl k,h1,(h.m7 i h1).nil hr,fun n _ hn=>⟨fun e=>hn (by rw[e];exact hr),rfl⟩,fun j _ p _=>rfl,fun _ _=>rfl⟩
 | none =>
  have hF:Full k:=fun i hi hr=>by
   have:=List.findIdx?_eq_none_iff.1 hf (aH k.frames i) (dO hi);simp[hr] at this
  obtain⟨T,hT,t1,t2⟩:=zO held hl h hF;have hc:j6 held 70 k=bH held T k:=zN held T 69 k (by omega) t1 t2;rw[hc];have t:=CC held h hF T;obtain⟨k1,hk1⟩:=ex (bH held T k);have tr:=t.right;have tf:=t.full;have tk:=t.kept;have ts:=t.aj;have tl:=t.slots;have th:=t.zk;rw[<- hk1] at t2 tr tf tk ts tl th ⊢;obtain⟨i,hi⟩:=ex k1.hand.toNat
  have hh:=tr.hand;have hi1:i<k1.frames.length:=by omega
  have hr:=tf i hi1;have a1:=tr.aside hi1 hr;have a2:=IW tr hi1 hr;have h3:=tr.c.1.1;have a3:(cY k1 i).frames.length=k1.frames.length:=a2.nf;rw[<- hi];have hb:aQ { cY k1 i with hand:=gB k1 }:=a1.turn (by rw[a3];exact Jt h3);have hkk:Kept (cY k1 i) { cY k1 i with hand:=gB k1 }:=⟨rfl,rfl,rfl,rfl,fun _ _=>rfl,fun _ _=>rfl,fun _ _ _=>rfl⟩;have lj:=tk.nf;refine⟨hb,tk.trans (a2.trans hkk),by show i<_;omega,IY k1 i,fun n hn _=>?_,fun j hj p he=>?_,fun n hn=>?_⟩
  · have hne:n≠i:=fun e=>by
     unfold ku at t2;have:held.contains k1.hand=true:=List.contains_iff_mem.2 (by rw[show k1.hand=(n:Int) by omega];exact hn);rw[this] at t2;cases t2
    refine⟨hne,?_⟩;show aH (cY k1 i).frames n=_;rw[(ui k1 i).1,eW _ _ _ _ hi1,if_neg (fun e=>hne e.symm),th n hn]
  · show bf (au (cY k1 i).aj j).aA p=_;rw[My tr i (by rw[ts];exact hj) p (by rw[ts];exact he),ts]
  · show bj (cY k1 i).slots n=_;rw[IV tr hi1 hr n (by rw[ts];exact hn),tl]
def zeroAt (k:Kn) (j:Nat) (p:Int):Bool:=(AM.aR (au k.aj j).aB p).1.zero
def mapped (k:Kn) (j:Nat) (p:Int):Prop:=(AM.aR (au k.aj j).aB p).2=true
def cm (k:Kn) (j:Nat) (p:Int) (held:List Int):Nat×Kn:=match bf (au k.aj j).aA p with
 | some e=>if e.kind=1 then (e.loc.toNat,k) else ((bT k held).1,cZ (bT k held).2 j p (bT k held).1 (bj (bT k held).2.slots e.loc.toNat).data true)
 | none=>((bT k held).1,cZ (bT k held).2 j p (bT k held).1 (dY (bT k held).2.ak p (zeroAt (bT k held).2 j p)) false)
def ic (k:Kn) (j:Nat) (p:Int) (a:Nat) (held:List Int):Nat×Kn:=if (aH k.frames a).refs=1 then (a,k) else ((bT k (held++[(a:Int)])).1,cZ (bT k (held++[(a:Int)])).2 j p (bT k (held++[(a:Int)])).1 (aH (bT k (held++[(a:Int)])).2.frames a).data true)
def mark (way:Int) (f:Fr):Fr:=⟨f.data,f.refs,f.cj || decide (way=1),true⟩
def Ov (k:Kn) (way:Int) (i:Nat):Kn:={ k with frames:=k.frames.set i (mark way (aH k.frames i)) }
def iN (k:Kn) (j:Nat) (p way:Int) (held:List Int):Nat×Kn:=if way=1 then ic (cm k j p held).2 j p (cm k j p held).1 held else cm k j p held
def cI (k:Kn) (j:Nat) (p way:Int) (held:List Int):Nat×Kn:=((iN k j p way held).1,Ov (iN k j p way held).2 way (iN k j p way held).1)
structure ko (k:Kn) (j:Nat) (p:Int) (held:List Int) (r:Nat×Kn):Prop where
 right:aQ r.2
 kept:Kept k r.2
 lt:r.1<k.frames.length
 here:bf (au r.2.aj j).aA p=some ⟨p,1,r.1⟩
 stay:∀j',j'<k.aj.length->∀q e,bf (au k.aj j').aA q=some e->e.kind=1->e.loc∈held->¬(j'=j/\q=p)->bf (au r.2.aj j').aA q=some e
theorem mr {k:Kn} {j:Nat} {p:Int} {i:Nat} {d:ByteArray} {dy:Bool} (m:lu k j p i d dy) (n:Nat) (q:Int):bf (au (cZ k j p i d dy).aj n).aA q=if j=n/\q=p then some ⟨p,1,i⟩ else bf (au k.aj n).aA q:=by
 obtain⟨_,_,_,_,f5,_,_⟩:=iF k j p i d dy m;rw[f5,fR _ _ _ _ m.hj];by_cases c:j=n
 · rw[if_pos c];show bf (m8 (au k.aj j).aA ⟨p,1,i⟩) q=_;rw[Jn (m.right.sp m.hj).eJ];by_cases c2:q=p
   · rw[if_pos c2,if_pos ⟨c,c2⟩]
   · rw[if_neg c2,if_neg (fun g=>c2 g.2),c]
 · rw[if_neg c,if_neg (fun g=>c g.1)]
theorem Got.stay {k:Kn} (h:aQ k) {held:List Int} {g:Nat×Kn} (G:Got k held g) {j:Nat} (hj:j<k.aj.length) {q:Int} {e:En} (he:bf (au k.aj j).aA q=some e) (hn:e.kind=1->e.loc∈held):bf (au g.2.aj j).aA q=some e:=by
 have hm:=(dM (h.sp hj).eJ).1 he;rw[G.u9 j hj q ?_,he];intro x hx c;rw[he] at hx;injection hx with hx;subst hx;have hb:=(fN h hj hm.1).resolve_right (fun y=>by omega);have hne:(aH k.frames e.loc.toNat).refs≠0:=fun z=>by
  have:=fW hj hm.1;rw[c.1,<- hb.2.1,(h.m7 _ hb.2.2).nil z] at this;cases this
 have:=(G.zk e.loc.toNat (by rw[hb.2.1];exact hn c.1) hne).1;omega
theorem Got.mapped {k:Kn} {held:List Int} {g:Nat×Kn} (G:Got k held g) {j:Nat} (hj:j<k.aj.length) {p:Int} (hp:mapped k j p):(AM.aR (au g.2.aj j).aB p).2=true:=by rw[G.kept.aB j hj];exact hp
theorem wN (hs:List LM.Sh) (hr:LM.dC hs=true) (p:Int) (h:(bW hs p).isSome=true):(filled hs p).size=16:=by
 unfold filled;cases g:bW hs p with
 | none=>rw[g] at h;cases h
 | some s =>
  have hm:s∈hs:=List.mem_of_find?_eq_some g;obtain⟨i,hi,e⟩:=fu LM.MP hm;have hb:=(LM.kH hs hs.length hr i hi).1;rw[show LM.aY hs i=s from e] at hb;unfold LM.bQ LM.jK at hb;simp only[Bool.and_eq_true,decide_eq_true_eq] at hb;exact LM.nB s.data s.bg hb.1.2.2 s.bg.length hb.2
theorem u5 {k:Kn} (h:aQ k) {j:Nat} (hj:j<k.aj.length) {p:Int} (hp:mapped k j p):(dY k.ak p (zeroAt k j p)).size=16:=by
 unfold dY;cases z:zeroAt k j p with
 | true=>rfl
 | false=>exact wN _ h.eJ p ((h.sp hj).ak p hp z)
theorem p9 {k:Kn} (h:aQ k) {j:Nat} (hj:j<k.aj.length) {p:Int} (hp:mapped k j p) {held:List Int} (hl:held.length<=2):ko k j p held (cm k j p held):=by
 have hsp:=h.sp hj;have G:=nK h hl;unfold cm;cases g:bf (au k.aj j).aA p with
 | none =>
  dsimp only;have hent:bf (au (bT k held).2.aj j).aA p=none:=by rw[G.u9 j hj p (fun e he=>by rw[g] at he;cases he),g]
  have hpk:dY (bT k held).2.ak p (zeroAt (bT k held).2 j p)=dD (bT k held).2 j p:=by unfold dD;rw[hent];rfl
  have hj':j<(bT k held).2.aj.length:=by rw[G.kept.np];exact hj
  have m:lu (bT k held).2 j p (bT k held).1 (dY (bT k held).2.ak p (zeroAt (bT k held).2 j p)) false:=⟨G.right,hj',G.mapped hj hp,by rw[G.kept.nf];exact G.lt,G.free,u5 G.right hj' (G.mapped hj hp),fun _=>rfl⟩;refine⟨oZ m,G.kept.trans (uR m hpk),G.lt,by rw[mr m,if_pos ⟨rfl,rfl⟩],fun j' H5 q e he hk hin hne=>?_⟩;rw[mr m,if_neg (fun x=>hne ⟨x.1.symm,x.2⟩)];exact G.stay h H5 he (fun _=>hin)
 | some e =>
  have he:=(dM hsp.eJ).1 g;dsimp only;by_cases c:e.kind=1
  · rw[if_pos c];have hb:=(fN h hj he.1).resolve_right (fun y=>by omega);refine⟨h,Kept.refl k,hb.2.2,?_,fun j' H5 q e he hk hin hne=>he⟩;show bf (au k.aj j).aA p=some ⟨p,1,(e.loc.toNat:Int)⟩;rw[g,hb.2.1,<- c,<- he.2]
  · rw[if_neg c];have hb:=(fN h hj he.1).resolve_left (fun y=>c y.1);have hent:bf (au (bT k held).2.aj j).aA p=some e:=by rw[G.u9 j hj p (fun x hx=>by rw[g] at hx;injection hx with hx;subst hx;exact fun y=>c y.1),g]
    have hj':j<(bT k held).2.aj.length:=by rw[G.kept.np];exact hj
    have he':=(dM (G.right.sp hj').eJ).1 hent;have hpk:(bj (bT k held).2.slots e.loc.toNat).data=dD (bT k held).2 j p:=by unfold dD;rw[hent];show _=if e.kind=1 then _ else _;rw[if_neg c]
    have hsz:(bj (bT k held).2.slots e.loc.toNat).data.size=16:=(G.right.slt e.loc.toNat (by rw[G.kept.ns];exact hb.2.2)).size (fun z=>by
     have:=fW hj' he'.1;rw[hb.1,<- hb.2.1,z] at this;cases this)
    have m:lu (bT k held).2 j p (bT k held).1 (bj (bT k held).2.slots e.loc.toNat).data true:=⟨G.right,hj',G.mapped hj hp,by rw[G.kept.nf];exact G.lt,G.free,hsz,fun y=>by cases y⟩;refine⟨oZ m,G.kept.trans (uR m hpk),G.lt,by rw[mr m,if_pos ⟨rfl,rfl⟩],fun j' H5 q e he hk hin hne=>?_⟩;rw[mr m,if_neg (fun x=>hne ⟨x.1.symm,x.2⟩)];exact G.stay h H5 he (fun _=>hin)
theorem Cq {k:Kn} (h:aQ k) {j:Nat} (hj:j<k.aj.length) {p:Int} (hp:mapped k j p) {a:Nat} (ha:bf (au k.aj j).aA p=some ⟨p,1,a⟩) {held:List Int} (hl:held.length<=1):ko k j p held (ic k j p a held)/\(aH (ic k j p a held).2.frames (ic k j p a held).1).refs=1:=by
 have hsp:=h.sp hj;have he:=(dM hsp.eJ).1 ha;have hb:=(fN h hj he.1).resolve_right (fun y=>by have:=y.1;simp at this);have hat:a<k.frames.length:=by have:=hb.2.2;simpa using this
 unfold ic;by_cases c:(aH k.frames a).refs=1
 · rw[if_pos c];exact⟨⟨h,Kept.refl k,hat,ha,fun j' H5 q e he hk hin hne=>he⟩,c⟩
 · rw[if_neg c];have G:=nK h (held:=held++[(a:Int)]) (by rw[List.length_append,List.length_singleton];omega);obtain⟨g,hg⟩:=ex (bT k (held++[(a:Int)]));rw[<- hg] at G ⊢;have hent:bf (au g.2.aj j).aA p=some ⟨p,1,a⟩:=G.stay h hj ha (fun _=>List.mem_append.2 (.inr (by simp)));have hj':j<g.2.aj.length:=by rw[G.kept.np];exact hj
   have he':=(dM (G.right.sp hj').eJ).1 hent;have hpk:(aH g.2.frames a).data=dD g.2 j p:=by unfold dD;rw[hent];show _=if (1:Int)=1 then (aH g.2.frames (a:Int).toNat).data else _;rw[if_pos rfl,Int.toNat_natCast]
   have hsz:(aH g.2.frames a).data.size=16:=(G.right.m7 a (by rw[G.kept.nf];exact hat)).size (fun z=>by
    have:=fW hj' he'.1;rw[z] at this;cases this)
   have m:lu g.2 j p g.1 (aH g.2.frames a).data true:=⟨G.right,hj',G.mapped hj hp,by rw[G.kept.nf];exact G.lt,G.free,hsz,fun y=>by cases y⟩;refine⟨⟨oZ m,G.kept.trans (uR m hpk),G.lt,by rw[mr m,if_pos ⟨rfl,rfl⟩],fun j' H5 q e he hk hin hne=>?_⟩,?_⟩
   · rw[mr m,if_neg (fun x=>hne ⟨x.1.symm,x.2⟩)];exact G.stay h H5 he (fun _=>List.mem_append.2 (.inl hin))
   · obtain⟨_,_,_,_,_,f6,_⟩:=iF _ _ _ _ _ _ m;show(aH (cZ g.2 j p g.1 _ true).frames g.1).refs=1;rw[f6,if_pos rfl]
theorem Ot {k:Kn} {j:Nat} {p:Int} {held:List Int} {r:Nat×Kn} (b:ko k j p held r) (hj:j<k.aj.length) (way:Int):ko k j p held (r.1,Ov r.2 way r.1):=by
 have h:=b.right;have hlt:r.1<r.2.frames.length:=by rw[b.kept.nf];exact b.lt
 have hj':j<r.2.aj.length:=by rw[b.kept.np];exact hj
 have he:=(dM (h.sp hj').eJ).1 b.here;have hL:names r.2.aj 1 r.1≠[]:=fun z=>by
  have:=fW hj' he.1;rw[z] at this;cases this
 have hf:=h.m7 r.1 hlt;have hR:aQ (Ov r.2 way r.1):=h.frame (f:=mark way (aH r.2.frames r.1)) ⟨hf.refs,fun e=>absurd e hL,hf.one,hf.size,fun d=>hf.fill (by
  have d:((aH r.2.frames r.1).cj || decide (way=1))=false:=d;cases q:(aH r.2.frames r.1).cj with
  | false=>rfl
  | true=>rw[q] at d;cases d)⟩
 refine⟨hR,b.kept.trans ⟨rfl,List.length_set,rfl,rfl,fun _ _=>rfl,fun _ _=>rfl,fun n hn q=>?_⟩,b.lt,b.here,b.stay⟩;unfold dD;show(match bf (au r.2.aj n).aA q with
  | some e=>if e.kind=1 then (aH (r.2.frames.set r.1 (mark way (aH r.2.frames r.1))) e.loc.toNat).data else (bj r.2.slots e.loc.toNat).data
  | none=>_)=_
 cases bf (au r.2.aj n).aA q with
 | none=>rfl
 | some e =>
  show(if e.kind=1 then _ else _)=if e.kind=1 then _ else _
  rw[eW _ _ _ _ hlt];by_cases c:r.1=e.loc.toNat
  · rw[if_pos c,<- c];rfl
  · rw[if_neg c]
theorem ko.trans {k:Kn} {j:Nat} {p:Int} {held:List Int} {r s:Nat×Kn} (a:ko k j p held r) (b:ko r.2 j p held s):ko k j p held s :=
 ⟨b.right,a.kept.trans b.kept,by have:=b.lt;rw[a.kept.nf] at this;exact this,b.here,fun j' hj' q e he h1 h2 h3=>b.stay j' (by rw[a.kept.np];exact hj') q e (a.stay j' hj' q e he h1 h2 h3) h1 h2 h3⟩
theorem Kept.mapped {k k':Kn} (h:Kept k k') {j:Nat} (hj:j<k.aj.length) {p:Int} (hp:mapped k j p):KM.mapped k' j p:=by unfold KM.mapped;rw[h.aB j hj];exact hp
theorem kT {k:Kn} (h:aQ k) {j:Nat} (hj:j<k.aj.length) {p:Int} (hp:mapped k j p) (way:Int) {held:List Int} (hl:held.length<=1):ko k j p held (cI k j p way held)/\(way=1->(aH (cI k j p way held).2.frames (cI k j p way held).1).refs=1/\(aH (cI k j p way held).2.frames (cI k j p way held).1).cj=true):=by
 have P:=p9 h hj hp (held:=held) (by omega);have hT:ko k j p held (iN k j p way held)/\(way=1->(aH (iN k j p way held).2.frames (iN k j p way held).1).refs=1):=by
  unfold iN;by_cases c:way=1
  · rw[if_pos c];have A:=Cq P.right (by rw[P.kept.np];exact hj) (P.kept.mapped hj hp) P.here hl;exact⟨P.trans A.1,fun _=>A.2⟩
  · rw[if_neg c];exact⟨P,fun x=>absurd x c⟩
 refine⟨Ot hT.1 hj way,fun c=>?_⟩;have hlt:(iN k j p way held).1<(iN k j p way held).2.frames.length:=by rw[hT.1.kept.nf];exact hT.1.lt
 have e:aH (cI k j p way held).2.frames (cI k j p way held).1=mark way (aH (iN k j p way held).2.frames (iN k j p way held).1):=by
  show aH ((iN k j p way held).2.frames.set _ _) (iN k j p way held).1=_;rw[eW _ _ _ _ hlt,if_pos rfl]
 rw[e];exact⟨hT.2 c,by unfold mark;simp[c]⟩
structure Us where
 refs:Int
 page:Int
 zero:Bool
def gY:Us:=⟨0,0,false⟩
def dm (l:List Us) (i:Nat):Us:=l.getD i gY
def mD (us:List Us) (e:En) (z:Bool):Bool:=decide (0<=e.loc/\e.loc<(us.length:Int))&&!(decide (0<(dm us e.loc.toNat).refs)&&(decide ((dm us e.loc.toNat).page≠e.page) || (dm us e.loc.toNat).zero != z))
def rT (us:List Us) (e:En) (z:Bool):List Us:=us.set e.loc.toNat ⟨(dm us e.loc.toNat).refs+1,e.page,z⟩
def lU (ar:List AM.Ar) (last:Int) (uf us:List Us) (e:En):Bool:=(AM.aR ar e.page).2&&(decide (last<e.page)&&(if e.kind=1 then mD uf e (AM.aR ar e.page).1.zero else if e.kind=2 then mD us e (AM.aR ar e.page).1.zero else false))
def rq (ar:List AM.Ar) (u:List Us×List Us) (e:En):List Us×List Us:=if e.kind=1 then (rT u.1 e (AM.aR ar e.page).1.zero,u.2) else (u.1,rT u.2 e (AM.aR ar e.page).1.zero)
def lY (es:List En) (k:Nat):Int:=if k=0 then 0 else (aM es (k-1)).page
def gQ (ar:List AM.Ar) (es:List En) (u:List Us×List Us):Nat->List Us×List Us
 | 0=>u
 | k+1=>rq ar (gQ ar es u k) (aM es k)
def ir (ar:List AM.Ar) (es:List En) (u:List Us×List Us):Nat->Bool
 | 0=>true
 | k+1=>ir ar es u k&&lU ar (lY es k) (gQ ar es u k).1 (gQ ar es u k).2 (aM es k)
def pE (hs:List LM.Sh) (ar:List AM.Ar):Bool:=ar.all fun a=>(List.range a.aJ.toNat).all fun n=>a.zero || decide ((filled hs (a.page+(n:Int))).size≠0)
def ld (hs:List LM.Sh) (s:Sp):Bool:=if s.live then decide (AM.aW s.aB=0)&&pE hs s.aB else decide (s.aB.length=0)&&decide (s.aA.length=0)
def lD (ss:List Sp) (u:List Us×List Us):Nat->List Us×List Us
 | 0=>u
 | k+1=>gQ (au ss k).aB (au ss k).aA (lD ss u k) (au ss k).aA.length
def oO (hs:List LM.Sh) (ss:List Sp) (u:List Us×List Us):Nat->Bool
 | 0=>true
 | k+1=>oO hs ss u k&&(ld hs (au ss k)&&ir (au ss k).aB (au ss k).aA (lD ss u k) (au ss k).aA.length)
def uv (f:Fr):Bool:=decide (f.data.size=0/\f.refs=0/\f.cj=false/\f.seen=false)
def oI (f:Sl):Bool:=decide (f.data.size=0/\f.refs=0)
def fT (hs:List LM.Sh) (f:Fr) (u:Us):Bool:=if u.refs=0 then uv f else decide (f.refs=u.refs/\f.data.size=16)&&(f.cj || decide (f.data=dY hs u.page u.zero))
def ij (s:Sl) (u:Us):Bool:=if u.refs=0 then oI s else decide (s.refs=u.refs/\s.data.size=16)
def xW (k:Kn):List Us×List Us:=lD k.aj (List.replicate k.frames.length gY,List.replicate k.slots.length gY) k.aj.length
def ub (k:Kn):Bool:=LM.dC k.ak&&(decide (0<=k.hand/\k.hand<(k.frames.length:Int))&&(oO k.ak k.aj (List.replicate k.frames.length gY,List.replicate k.slots.length gY) k.aj.length&&(decide (room k.aj<=(k.slots.length:Int))&&((List.range k.frames.length).all (fun i=>fT k.ak (aH k.frames i) (dm (xW k).1 i))&&(List.range k.slots.length).all (fun i=>ij (bj k.slots i) (dm (xW k).2 i))))))
def dR (k:Kn):Int:=if counts k=false then 2 else if ub k then 0 else 1
def Sum (L:List (Int×Bool)) (u:Us):Prop:=u.refs=L.length/\∀x∈L,x=(u.page,u.zero)
def AV (N:Int->Int->List (Int×Bool)) (nf ns:Nat) (u:List Us×List Us):Prop:=(u.1.length=nf/\u.2.length=ns)/\(∀i:Nat,i<nf->Sum (N 1 i) (dm u.1 i))/\∀i:Nat,i<ns->Sum (N 2 i) (dm u.2 i)
theorem xX (l:List Us) (j n:Nat) (s:Us) (hj:j<l.length):dm (l.set j s) n=if j=n then s else dm l n:=by
 unfold dm;by_cases c:j=n
 · subst c;rw[if_pos rfl,bC _ _ _ _ hj]
 · rw[if_neg c,getD_set_ne _ _ _ _ _ c]
theorem Ee {L:List (Int×Bool)} {u:Us} (h:Sum L u) {p:Int} {z:Bool} (hc:¬(0<u.refs/\(u.page≠p∨u.zero≠z))):Sum (L++[(p,z)]) ⟨u.refs+1,p,z⟩:=by
 refine⟨by show u.refs+1=_;rw[h.1,List.length_append];rfl,fun x hx=>?_⟩;rcases List.mem_append.1 hx with g | g
 · have hpos:0<u.refs:=by rw[h.1];have:=List.length_pos_of_mem g;omega
   have e:=h.2 x g;have:¬(u.page≠p∨u.zero≠z):=fun y=>hc ⟨hpos,y⟩
   rw[e];show(u.page,u.zero)=(p,z);by_cases c1:u.page=p
   · by_cases c2:u.zero=z
     · rw[c1,c2]
     · exact absurd (.inr c2) this
   · exact absurd (.inl c1) this
 · simpa using g
theorem qB {us:List Us} {e:En} {z:Bool}:mD us e z=true↔(0<=e.loc/\e.loc<(us.length:Int))/\¬(0<(dm us e.loc.toNat).refs/\((dm us e.loc.toNat).page≠e.page∨(dm us e.loc.toNat).zero≠z)):=by
 unfold mD;simp only[Bool.and_eq_true,decide_eq_true_eq,Bool.not_eq_true',Bool.and_eq_false_iff,Bool.or_eq_false_iff,decide_eq_false_iff_not,bne_eq_false_iff_eq];constructor
 · rintro⟨h1,h2⟩;refine⟨h1,fun ⟨a,b⟩=>?_⟩;rcases h2 with g | ⟨g1,g2⟩
   · exact g a
   · rcases b with b | b
     · exact g1 b
     · exact b g2
 · rintro⟨h1,h2⟩;refine⟨h1,?_⟩;by_cases a:0<(dm us e.loc.toNat).refs
   · right;refine⟨fun b=>h2 ⟨a,.inl b⟩,?_⟩;by_cases c:(dm us e.loc.toNat).zero=z
     · exact c
     · exact absurd ⟨a,.inr c⟩ h2
   · exact .inl a
theorem P9 {N:Int->Int->List (Int×Bool)} {nf ns:Nat} {u:List Us×List Us} (h:AV N nf ns u) {ar:List AM.Ar} {last:Int} {e:En} (hb:lU ar last u.1 u.2 e=true) :
  AV (fun kd i=>N kd i++nm ar kd i [e]) nf ns (rq ar u e)/\qq nf ns ar e/\last<e.page:=by
 unfold lU at hb;rw[Bool.and_eq_true,Bool.and_eq_true,decide_eq_true_eq] at hb;obtain⟨h1,h2,h3⟩:=hb;obtain⟨⟨l1,l2⟩,s1,s2⟩:=h;by_cases c:e.kind=1
 · rw[if_pos c] at h3;obtain⟨b,hc⟩:=qB.1 h3;refine⟨⟨⟨?_,?_⟩,fun i hi=>?_,fun i hi=>?_⟩,⟨h1,.inl ⟨c,b.1,by omega⟩⟩,h2⟩
   · unfold rq;rw[if_pos c];unfold rT;rw[List.length_set];exact l1
   · unfold rq;rw[if_pos c];exact l2
   · unfold rq;rw[if_pos c];unfold rT;show Sum (N 1 i++nm ar 1 i [e]) (dm (u.1.set _ _) i);rw[xX _ _ _ _ (by omega)];by_cases d:e.loc.toNat=i
     · rw[if_pos d,lT ar ⟨c,by omega⟩];have:=s1 i hi;rw[<- d] at this ⊢;exact Ee this hc
     · rw[if_neg d,jY ar (fun g=>d (by omega)),List.append_nil];exact s1 i hi
   · unfold rq;rw[if_pos c];show Sum (N 2 i++nm ar 2 i [e]) _;rw[jY ar (fun g=>by omega),List.append_nil];exact s2 i hi
 · rw[if_neg c] at h3;by_cases c2:e.kind=2
   · rw[if_pos c2] at h3;obtain⟨b,hc⟩:=qB.1 h3;refine⟨⟨⟨?_,?_⟩,fun i hi=>?_,fun i hi=>?_⟩,⟨h1,.inr ⟨c2,b.1,by omega⟩⟩,h2⟩
     · unfold rq;rw[if_neg c];exact l1
     · unfold rq;rw[if_neg c];unfold rT;rw[List.length_set];exact l2
     · unfold rq;rw[if_neg c];show Sum (N 1 i++nm ar 1 i [e]) _;rw[jY ar (fun g=>c g.1),List.append_nil];exact s1 i hi
     · unfold rq;rw[if_neg c];unfold rT;show Sum (N 2 i++nm ar 2 i [e]) (dm (u.2.set _ _) i);rw[xX _ _ _ _ (by omega)];by_cases d:e.loc.toNat=i
       · rw[if_pos d,lT ar ⟨c2,by omega⟩];have:=s2 i hi;rw[<- d] at this ⊢;exact Ee this hc
       · rw[if_neg d,jY ar (fun g=>d (by omega)),List.append_nil];exact s2 i hi
   · rw[if_neg c2] at h3;cases h3
theorem Qb {N:Int->Int->List (Int×Bool)} {nf ns:Nat} {u:List Us×List Us} (h:AV N nf ns u) {ar:List AM.Ar} {last:Int} {e:En} (he:qq nf ns ar e) (hl:last<e.page) (ho:∀x∈N e.kind e.loc,x=(e.page,(AM.aR ar e.page).1.zero)):lU ar last u.1 u.2 e=true:=by
 obtain⟨⟨l1,l2⟩,s1,s2⟩:=h;unfold lU;rw[he.1,decide_eq_true hl,Bool.true_and,Bool.true_and];have key:∀(us:List Us) (n:Nat),us.length=n->(0<=e.loc/\e.loc<(n:Int))->Sum (N e.kind (e.loc.toNat:Int)) (dm us e.loc.toNat)->mD us e (AM.aR ar e.page).1.zero=true:=fun us n hn hb hs=>by
  rw[qB];refine⟨by omega,fun ⟨a,b⟩=>?_⟩;rw[hs.1] at a;obtain⟨x,hx⟩:=List.exists_mem_of_length_pos (show 0<(N e.kind (e.loc.toNat:Int)).length by omega);have e1:=hs.2 x hx;have e2:=ho x (by rw[show(e.loc.toNat:Int)=e.loc by omega] at hx;exact hx);rw[e1] at e2;injection e2 with e3 e4;rcases b with b | b
  · exact b e3
  · exact b e4
 rcases he.2 with g | g
 · rw[if_pos g.1];exact key u.1 nf l1 g.2 (by rw[g.1];exact s1 _ (by omega))
 · rw[if_neg (by omega),if_pos g.1];exact key u.2 ns l2 g.2 (by rw[g.1];exact s2 _ (by omega))
theorem take_succ (es:List En) (k:Nat) (hk:k<es.length):es.take (k+1)=es.take k++[aM es k]:=by
 rw[List.take_add_one];unfold aM;rw[List.getD_eq_getElem?_getD,List.getElem?_eq_getElem hk];rfl
theorem zF {N:Int->Int->List (Int×Bool)} {nf ns:Nat} {u:List Us×List Us} (h:AV N nf ns u) (ar:List AM.Ar) (es:List En):∀k,k<=es.length->ir ar es u k=true->AV (fun kd i=>N kd i++nm ar kd i (es.take k)) nf ns (gQ ar es u k)/\∀i,i<k->qq nf ns ar (aM es i)/\lY es i<(aM es i).page
 | 0,_,_=>⟨by
  have e:(fun kd i=>N kd i++nm ar kd i (es.take 0))=N:=by funext kd i;simp[nm]
  rw[e];exact h,fun i hi=>by omega⟩
 | k+1,hk,hb=>by
  unfold ir at hb;rw[Bool.and_eq_true] at hb;obtain⟨a1,a2⟩:=zF h ar es k (by omega) hb.1;obtain⟨b1,b2,b3⟩:=P9 a1 hb.2;refine⟨?_,fun i hi=>?_⟩
  · have e:(fun kd i=>N kd i++nm ar kd i (es.take (k+1)))=fun kd i=>(N kd i++nm ar kd i (es.take k))++nm ar kd i [aM es k]:=by
     funext kd i;rw[take_succ es k (by omega),fQ,List.append_assoc]
    rw[e];exact b1
  · by_cases c:i=k
    · subst c;exact⟨b2,b3⟩
    · exact a2 i (by omega)
theorem Cf {N:Int->Int->List (Int×Bool)} {nf ns:Nat} {u:List Us×List Us} (h:AV N nf ns u) (ar:List AM.Ar) (es:List En) (he:∀i,i<es.length->qq nf ns ar (aM es i)/\lY es i<(aM es i).page) (ho:∀kd i,∀x∈N kd i++nm ar kd i es,∀y∈N kd i++nm ar kd i es,x=y):∀k,k<=es.length->ir ar es u k=true
 | 0,_=>rfl
 | k+1,hk=>by
  have ih:=Cf h ar es he ho k (by omega);unfold ir;rw[ih,Bool.true_and];obtain⟨a1,_⟩:=zF h ar es k (by omega) ih;refine Qb a1 (he k (by omega)).1 (he k (by omega)).2 fun x hx=>?_
  have hm:(aM es k)∈es:=dO (by omega);refine ho (aM es k).kind (aM es k).loc x ?_ _ (List.mem_append.2 (.inr (CZ.2 ⟨_,hm,rfl,rfl,rfl⟩)));rcases List.mem_append.1 hx with g | g
  · exact List.mem_append.2 (.inl g)
  · obtain⟨e,he,h1,h2,h3⟩:=CZ.1 g;exact List.mem_append.2 (.inr (CZ.2 ⟨e,List.mem_of_mem_take he,h1,h2,h3⟩))
end KM
namespace PM
open Go.RowKit
def le (k:Nat) (n:Int):ByteArray:=⟨(Lib.leBytes k (CM.low n)).toArray⟩
theorem le_size (k:Nat) (n:Int):(le k n).size=k:=by
 unfold le;rw[Lib.size_eq];simp[Lib.leBytes_length]
structure M0 where
 op:Int
 a:Int
 b:Int
 c:Int
 m:Int
def M0.cells (i:M0):Array Value:=#[I i.op,I i.a,I i.b,I i.c,I i.m]
def YS (n:Int):Prop:=0<=n/\n<=255
instance (n:Int):Decidable (YS n):=by unfold YS;infer_instance
def M0.fits (i:M0):Prop:=YS i.op/\YS i.a/\YS i.b/\YS i.c/\-2147483648<=i.m/\i.m<=2147483647
instance (i:M0):Decidable i.fits:=by unfold M0.fits;infer_instance
def M0.bytes (i:M0):ByteArray:=(((le 1 i.op++le 1 i.a)++le 1 i.b)++le 1 i.c)++le 4 i.m
end PM
end Go.Proofs.YtpgifpeohlllfaaGreat
