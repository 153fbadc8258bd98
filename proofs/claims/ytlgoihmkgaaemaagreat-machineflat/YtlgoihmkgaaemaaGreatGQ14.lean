import Derived.Test.YtlgoihmkgaaemaaGreatGQ13
set_option maxHeartbeats 20000000
set_option linter.unusedVariables false
set_option maxRecDepth 100000
set_option linter.unusedSimpArgs false
namespace Go.Proofs.YtlgoihmkgaaemaaGreat
open Go.RowKit
def jS (k:aT):Int:=(k.hand+1)%(k.frames.length:Int)
def pO (held:List Int) (k:aT):Bool:=held.contains k.hand || (aM k.frames k.hand.toNat).seen
def FJ (f:nA):nA:={ f with seen:=false }
def kr (held:List Int) (k:aT):aT:={ k with hand:=jS k,frames:=if held.contains k.hand then k.frames else k.frames.set k.hand.toNat (FJ (aM k.frames k.hand.toNat)) }
def bN (held:List Int):Nat->aT->aT
 | 0,k=>k
 | n+1,k=>kr held (bN held n k)
def pC (held:List Int):Nat->aT->aT
 | 0,k=>k
 | n+1,k=>if pO held k then pC held n (kr held k) else k
def Eu (k:aT):Prop:=∀i,i<k.frames.length->(aM k.frames i).refs≠0
theorem VY (held:List Int) (k:aT):(kr held k).frames.length=k.frames.length:=by
 grind [kr]
variable {held:List Int} {k:aT} {j:Nat} {p:Int} {e:bJ} {L:List (Int×Bool)} {nf ns:Nat} {ar:List aX} {last:Int} {hs:List bC}
theorem VZ (held:List Int) (hh:0<=k.hand/\k.hand<k.frames.length) (n:Nat):aM (kr held k).frames n=if (n:Int)=k.hand/\held.contains k.hand=false then FJ (aM k.frames n) else aM k.frames n:=by
 grind [kr,kV]
theorem V9 (h3:3<=k.frames.length):0<=jS k/\jS k<k.frames.length:=⟨Int.emod_nonneg _ ω,Int.emod_lt_of_pos _ ω⟩
theorem Yz (held:List Int) (h:aW k) (hf:Eu k):aW (kr held k)/\Eu (kr held k)/\gp k (kr held k)/\(kr held k).aj=k.aj/\(kr held k).slots=k.slots:=by
 have h3:=h.c.1.1;have hn:=V9 h3;have b:=VZ held h.hand;refine⟨?_,λi hi=>?_,⟨rfl,VY held k,rfl,rfl,λ_ _=>rfl,λ_ _=>rfl,λj hj p=>?_⟩,rfl,rfl⟩
 . unfold kr;by_cases c:held.contains k.hand=true
   . grind [aW.turn]
   rw[aB c];have hi:k.hand.toNat<k.frames.length:=by have:=h.hand;omega
   have:=(h.EK _ hi);have g:=h.frame (this.seen false (this.ne (hf _ hi)));exact aW.turn g (x:=jS k) Γ
 . rw[VY] at hi;rw[b];have:=hf i hi;by_cases c:(i:Int)=k.hand/\held.contains k.hand=false
   . rw[aC c];exact this
   grind
 unfold b7;show(match bl (ak k.aj j).bh p with
  | some e=>if e.kind=1 then (aM (kr held k).frames e.loc.toNat).data else (bI k.slots e.loc.toNat).data
  | none=>_)=_
 have q:∀n,(aM (kr held k).frames n).data=(aM k.frames n).data:=λn=>by
  rw[b];by_cases c:(n:Int)=k.hand/\held.contains k.hand=false
  . rw[aC c];rfl
  grind
 grind [kr]
structure K4 (held:List Int) (k:aT) (n:Nat):Prop where
 right:aW (bN held n k)
 full:Eu (bN held n k)
 kept:gp k (bN held n k)
 aj:(bN held n k).aj=k.aj
 slots:(bN held n k).slots=k.slots
 hand:(bN held n k).hand=(k.hand+n)%(k.frames.length:Int)
 UL:∀i:Nat,(i:Int)∈held->aM (bN held n k).frames i=aM k.frames i
 past:∀m:Nat,m<n->∀i:Nat,(i:Int)=(k.hand+m)%(k.frames.length:Int)->(i:Int)∈held\/(aM (bN held n k).frames i).seen=false
theorem KW (held:List Int) {k:aT} (h:aW k) (hf:Eu k):∀n,K4 held k n
 | 0=>⟨h,hf,gp.refl k,rfl,rfl,by have:=h.hand;show k.hand=(k.hand+((0:Nat):Int))%_;grind [Int.emod_eq_of_lt],λ_ _=>rfl,λm hm=>ω⟩
 | n+1=>by
  have t:=KW held h hf n;obtain⟨s1,s2,s3,s4,s5⟩:=Yz held t.right t.full;have hat:=VZ held t.right.hand;have Qe:=t.kept.nf;have hN:=h.c.1.1;refine⟨s1,s2,t.kept.trans s3,s4.trans t.aj,s5.trans t.slots,?_,λi hi=>?_,λm hm i hi=>?_⟩
  . show jS (bN held n k)=_;unfold jS;rw[Qe,t.hand,Int.emod_add_emod]
    grind
  . grind [bN,K4.UL]
  show _\/(aM (kr held (bN held n k)).frames i).seen=false;rw[hat];by_cases c:(i:Int)=(bN held n k).hand/\held.contains (bN held n k).hand=false
  . rw[aC c];exact .inr rfl
  rw[aB c];by_cases d:m=n
  . grind [K4.hand]
  exact t.past m ω i hi
theorem amH (hl:held.length<=2) (a b c:Int) (h1:a≠b) (h2:a≠c) (h3:b≠c):a∉held\/b∉held\/c∉held:=by
 by_cases ha:a∈held
 . by_cases hb:b∈held
   . right;right;intro hc;have l1:=List.length_erase_of_mem ha;have q:b∈held.erase a:=(Ub (λe=>h1 e.symm)).2 hb;have y:c∈held.erase a:=(Ub (λe=>h2 e.symm)).2 hc;have l2:=List.length_erase_of_mem q;have A:c∈(held.erase a).erase b:=(Ub (λe=>h3 e.symm)).2 y
     grind
   grind
 grind
theorem G5 {x n:Int} (h0:0<=x) (h1:x<2*n) (hn:0<n):(x<n/\x%n=x)\/(n<=x/\x%n=x-n):=by
 by_cases c:x<n
 . grind [Int.emod_eq_of_lt]
 right;refine⟨ω,?_⟩;rw[<- Int.sub_emod_right x n];exact aog ω ω
theorem Mc (held:List Int) (hl:held.length<=2) (h:aW k) (hf:Eu k):∃T,T<=66/\(∀m,m<T->pO held (bN held m k)=true)/\pO held (bN held T k)=false:=by
 have hN:=h.c.1;have q:∃T,T<=66/\pO held (bN held T k)=false:=by
  have hh:=h.hand;obtain⟨N,A⟩:∃N:Int,N=(k.frames.length:Int):=⟨_,rfl⟩;have y:∀x:Nat,x<3->(k.hand+x)%N∉held->∃T,T<=66/\pO held (bN held T k)=false:=λx hx hno=>by
   have t:=KW held h hf (k.frames.length+x);have hm:0<=(k.hand+x)%N/\(k.hand+x)%N<N:=⟨Int.emod_nonneg _ ω,Int.emod_lt_of_pos _ ω⟩;have b:(bN held (k.frames.length+x) k).hand=(k.hand+x)%N:=by
    grind [Int.add_emod_right,K4.hand]
   refine⟨k.frames.length+x,ω,?_⟩;unfold pO;rw[b];have hi:(((k.hand+x)%N).toNat:Int)=(k.hand+x)%N:=by omega
   have:=t.past x ω ((k.hand+x)%N).toNat Γ
   grind
  have d0:=G5 (x:=k.hand+(0:Nat)) (n:=N) ω ω ω;have d1:=G5 (x:=k.hand+(1:Nat)) (n:=N) ω ω ω;have d2:=G5 (x:=k.hand+(2:Nat)) (n:=N) ω ω ω;rcases amH hl ((k.hand+(0:Nat))%N) ((k.hand+(1:Nat))%N) ((k.hand+(2:Nat))%N) ω ω ω with g | g | g
  . grind
  . exact y 1 ω g
  grind
 obtain⟨T,hT,hp⟩:=q;clear hN;induction T using Nat.strongRecOn with
 | _ T ih =>
  grind
theorem Mb (held:List Int):∀(T n:Nat) (k:aT),T<=n->(∀m,m<T->pO held (bN held m k)=true)->pO held (bN held T k)=false->pC held (n+1) k=bN held T k:=λT=>by
 have shift:∀m k,bN held m (kr held k)=bN held (m+1) k:=λm k=>by
  induction m with
  | zero=>rfl
  | succ m ih=>show kr held _=kr held _;rw[ih]
 induction T with
 | zero =>
  intro n k _ _ h;show(if pO held k then _ else k)=k;rw[aB (by rw[show pO held k=false from h];simp)]
 | succ T ih =>
  intro n k hn h1 h2;obtain⟨n,rfl⟩:∃m,n=m+1:=⟨n-1,ω⟩;show(if pO held k then pC held (n+1) (kr held k) else k)=_;rw[aC (show pO held k=true from h1 0 ω),ih n (kr held k) ω (λm hm=>Γ) Γ,shift]
def bK (k:aT) (held:List Int):Nat×aT:=match A5 k.frames with
 | some i=>(i,k)
 | none=>((pC held 70 k).hand.toNat,{ eY (pC held 70 k) (pC held 70 k).hand.toNat with hand:=jS (pC held 70 k) })
structure wS (k:aT) (held:List Int) (g:Nat×aT):Prop where
 right:aW g.2
 kept:gp k g.2
 lt:g.1<k.frames.length
 free:bU g.2.aj 1 g.1=[]
 UL:∀i:Nat,(i:Int)∈held->(aM k.frames i).refs≠0->i≠g.1/\aM g.2.frames i=aM k.frames i
 Qs:∀j,j<k.aj.length->∀p,(∀e,bl (ak k.aj j).bh p=some e->¬(e.kind=1/\e.loc=(g.1:Int)))->bl (ak g.2.aj j).bh p=bl (ak k.aj j).bh p
 slot:∀n:Nat,bU k.aj 2 n≠[]->bI g.2.slots n=bI k.slots n
theorem vg (h:aW k) (hl:held.length<=2):wS k held (bK k held):=by
 unfold bK;cases hf:A5 k.frames with
 | some i =>
  obtain⟨h1,h2,_⟩:=Uj.1 hf;have hr:(aM k.frames i).refs=0:=by
   grind [aM]
  exact⟨h,gp.refl k,h1,(h.EK i h1).nil hr,λn _ hn=>⟨λe=>hn Γ,rfl⟩,λj _ p _=>rfl,λ_ _=>rfl⟩
 | none =>
  have hF:Eu k:=λi hi hr=>by
   have:=aa0.1 hf (aM k.frames i) (kT hi)
   grind
  obtain⟨T,hT,t1,t2⟩:=Mc held hl h hF;have hc:pC held 70 k=bN held T k:=Mb held T 69 k ω t1 t2;rw[hc];have t:=KW held h hF T;obtain⟨k1,y⟩:=ex (bN held T k);have tr:=t.right;have tf:=t.full;have tk:=t.kept;have ts:=t.aj;have tl:=t.slots;have th:=t.UL;rw[<- y] at t2 tr tf tk ts tl th ⊢;obtain⟨i,hi⟩:=ex k1.hand.toNat
  have hh:=tr.hand;have b:i<k1.frames.length:=by omega
  have hr:=tf i b;have a1:=tr.aside b hr;have a2:=YI tr b hr;have h3:=tr.c.1.1;have a3:(eY k1 i).frames.length=k1.frames.length:=a2.nf;rw[<- hi];have hb:aW { eY k1 i with hand:=jS k1 }:=a1.turn (by simp_all [V9]);have q:gp (eY k1 i) { eY k1 i with hand:=jS k1 }:=⟨rfl,rfl,rfl,rfl,λ_ _=>rfl,λ_ _=>rfl,λ_ _ _=>rfl⟩;have Qe:=tk.nf;refine⟨hb,tk.trans (a2.trans q),Γ,YJ k1 i,λn hn _=>?_,λj hj p he=>?_,λn hn=>?_⟩
  . grind [pO,Iq,kV]
  . grind [ace]
  grind [YH]
def qo (k:aT) (j:Nat) (p:Int):Bool:=(aV (ak k.aj j).aJ p).1.zero
def dM (k:aT) (j:Nat) (p:Int):Prop:=(aV (ak k.aj j).aJ p).2=true
def dI (k:aT) (j:Nat) (p:Int) (held:List Int):Nat×aT:=match bl (ak k.aj j).bh p with
 | some e=>if e.kind=1 then (e.loc.toNat,k) else ((bK k held).1,fe (bK k held).2 j p (bK k held).1 (bI (bK k held).2.slots e.loc.toNat).data true)
 | none=>((bK k held).1,fe (bK k held).2 j p (bK k held).1 (gz (bK k held).2.aR p (qo (bK k held).2 j p)) false)
def mn (k:aT) (j:Nat) (p:Int) (a:Nat) (held:List Int):Nat×aT:=if (aM k.frames a).refs=1 then (a,k) else ((bK k (held++[(a:Int)])).1,fe (bK k (held++[(a:Int)])).2 j p (bK k (held++[(a:Int)])).1 (aM (bK k (held++[(a:Int)])).2.frames a).data true)
def Cz (way:Int) (f:nA):nA:=⟨f.data,f.refs,f.kE || decide (way=1),true⟩
def We (k:aT) (way:Int) (i:Nat):aT:={ k with frames:=k.frames.set i (Cz way (aM k.frames i)) }
def iZ (k:aT) (j:Nat) (p way:Int) (held:List Int):Nat×aT:=if way=1 then mn (dI k j p held).2 j p (dI k j p held).1 held else dI k j p held
def dO (k:aT) (j:Nat) (p way:Int) (held:List Int):Nat×aT:=((iZ k j p way held).1,We (iZ k j p way held).2 way (iZ k j p way held).1)
structure gv (k:aT) (j:Nat) (p:Int) (held:List Int) (r:Nat×aT):Prop where
 right:aW r.2
 kept:gp k r.2
 lt:r.1<k.frames.length
 here:bl (ak r.2.aj j).bh p=some ⟨p,1,r.1⟩
 stay:∀j',j'<k.aj.length->∀q e,bl (ak k.aj j').bh q=some e->e.kind=1->e.loc∈held->¬(j'=j/\q=p)->bl (ak r.2.aj j').bh q=some e
theorem wk {i:Nat} {d:ByteArray} {dy:Bool} (m:kX k j p i d dy) (n:Nat) (q:Int):bl (ak (fe k j p i d dy).aj n).bh q=if j=n/\q=p then some ⟨p,1,i⟩ else bl (ak k.aj n).bh q:=by
 obtain⟨_,_,_,_,f5,_,_⟩:=qA k j p i d dy m;rw[f5,jd _ _ _ _ m.hj];by_cases c:j=n
 . rw[aC c];show bl (oq (ak k.aj j).bh ⟨p,1,i⟩) q=_;rw[V6 (m.right.sp m.hj).lq]
   grind
 grind
theorem wS.stay (h:aW k) {g:Nat×aT} (G:wS k held g) (hj:j<k.aj.length) {q:Int} (he:bl (ak k.aj j).bh q=some e) (hn:e.kind=1->e.loc∈held):bl (ak g.2.aj j).bh q=some e:=by
 have hm:=(gZ (h.sp hj).lq).1 he;rw[G.Qs j hj q ?_,he];intro x hx c;rw[he] at hx;injection hx with hx;subst hx;have hb:=(jn h hj hm.1).resolve_right (λy=>ω);have b:(aM k.frames e.loc.toNat).refs≠0:=λz=>by
  have:=ki hj hm.1;rw[c.1,<- hb.2.1,(h.EK _ hb.2.2).nil z] at this
  grind
 have:=(G.UL e.loc.toNat Γ b).1;omega
theorem wS.mapped {g:Nat×aT} (G:wS k held g) (hj:j<k.aj.length) (hp:dM k j p):(aV (ak g.2.aj j).aJ p).2=true:=by rw[G.kept.aJ j hj];exact hp
theorem Jx (hs:List bC) (hr:iG hs=true) (p:Int) (h:(je hs p).isSome=true):(fG hs p).size=16:=by
 unfold fG;cases g:je hs p with
 | none=>grind
 | some s =>
  have hm:s∈hs:=aaZ g;obtain⟨i,hi,e⟩:=mZ GD hm;have hb:=(tN hs hs.length hr i hi).1;rw[show bk hs i=s from e] at hb;unfold cY pM at hb;simp only[cK,fX] at hb;exact yK s.data s.dR hb.1.2.2 s.dR.length hb.2
theorem Ha (h:aW k) (hj:j<k.aj.length) (hp:dM k j p):(gz k.aR p (qo k j p)).size=16:=by
 unfold gz;cases z:qo k j p with
 | true=>rfl
 | false=>exact Jx _ h.lq p ((h.sp hj).aR p hp z)
theorem Dt (h:aW k) (hj:j<k.aj.length) (hp:dM k j p) (hl:held.length<=2):gv k j p held (dI k j p held):=by
 have F:=h.sp hj;have G:=vg h hl;unfold dI;cases g:bl (ak k.aj j).bh p with
 | none =>
  dsimp only;have b:bl (ak (bK k held).2.aj j).bh p=none:=by grind [wS.Qs]
  have B:gz (bK k held).2.aR p (qo (bK k held).2 j p)=b7 (bK k held).2 j p:=by unfold b7;rw[b];rfl
  have A:j<(bK k held).2.aj.length:=by rw[G.kept.np];exact hj
  have m:kX (bK k held).2 j p (bK k held).1 (gz (bK k held).2.aR p (qo (bK k held).2 j p)) false:=⟨G.right,A,G.mapped hj hp,by rw[G.kept.nf];exact G.lt,G.free,Ha G.right A (G.mapped hj hp),λ_=>rfl⟩;refine⟨Al m,G.kept.trans (G3 m B),G.lt,by grind [wk],λj' hj2 q e he hk hin hne=>?_⟩
  grind [wk,wS.stay]
 | some e =>
  have he:=(gZ F.lq).1 g;dsimp only;by_cases c:e.kind=1
  . rw[aC c];have hb:=(jn h hj he.1).resolve_right (λy=>ω);refine⟨h,gp.refl k,hb.2.2,?_,λj' hj2 q e he hk hin hne=>he⟩;show bl (ak k.aj j).bh p=some ⟨p,1,(e.loc.toNat:Int)⟩;rw[g,hb.2.1,<- c,<- he.2]
  rw[aB c];have hb:=(jn h hj he.1).resolve_left (λy=>c y.1);have b:bl (ak (bK k held).2.aj j).bh p=some e:=by grind [wS.Qs]
  have A:j<(bK k held).2.aj.length:=by rw[G.kept.np];exact hj
  have K:=(gZ (G.right.sp A).lq).1 b;have B:(bI (bK k held).2.slots e.loc.toNat).data=b7 (bK k held).2 j p:=by grind [b7]
  have J:(bI (bK k held).2.slots e.loc.toNat).data.size=16:=(G.right.slt e.loc.toNat (by grind [wS.kept,gp.ns])).size (λz=>by
   grind [ki])
  have m:kX (bK k held).2 j p (bK k held).1 (bI (bK k held).2.slots e.loc.toNat).data true:=⟨G.right,A,G.mapped hj hp,by rw[G.kept.nf];exact G.lt,G.free,J,λy=>by cases y⟩;refine⟨Al m,G.kept.trans (G3 m B),G.lt,by grind [wk],λj' hj2 q e he hk hin hne=>?_⟩
  grind [wk,wS.stay]
theorem Pn (h:aW k) (hj:j<k.aj.length) (hp:dM k j p) {a:Nat} (ha:bl (ak k.aj j).bh p=some ⟨p,1,a⟩) (hl:held.length<=1):gv k j p held (mn k j p a held)/\(aM (mn k j p a held).2.frames (mn k j p a held).1).refs=1:=by
 have J:=h.sp hj;have he:=(gZ J.lq).1 ha;have hb:=(jn h hj he.1).resolve_right (λy=>Γ);have A:a<k.frames.length:=by grind
 unfold mn;by_cases c:(aM k.frames a).refs=1
 . rw[aC c];exact⟨⟨h,gp.refl k,A,ha,λj' hj2 q e he hk hin hne=>he⟩,c⟩
 rw[aB c];have G:=vg h (held:=held++[(a:Int)]) Γ;generalize bK k (held++[(a:Int)])=g at G ⊢;have B:bl (ak g.2.aj j).bh p=some ⟨p,1,a⟩:=G.stay h hj ha (λ_=>kJ.2 (.inr ξ));have b:j<g.2.aj.length:=by rw[G.kept.np];exact hj
 have K:=(gZ (G.right.sp b).lq).1 B;have F:(aM g.2.frames a).data=b7 g.2 j p:=by grind [b7]
 have L:(aM g.2.frames a).data.size=16:=(G.right.EK a (by rw[G.kept.nf];exact A)).size (λz=>by
  have:=ki b K.1
  grind)
 have m:kX g.2 j p g.1 (aM g.2.frames a).data true:=⟨G.right,b,G.mapped hj hp,by rw[G.kept.nf];exact G.lt,G.free,L,λy=>by cases y⟩;refine⟨⟨Al m,G.kept.trans (G3 m F),G.lt,by grind [wk],λj' hj2 q e he hk hin hne=>?_⟩,?_⟩
 . grind [wk,wS.stay]
 grind [qA]
theorem aeP {r:Nat×aT} (b:gv k j p held r) (hj:j<k.aj.length) (way:Int):gv k j p held (r.1,We r.2 way r.1):=by
 have h:=b.right;have y:r.1<r.2.frames.length:=by rw[b.kept.nf];exact b.lt
 have A:j<r.2.aj.length:=by rw[b.kept.np];exact hj
 have he:=(gZ (h.sp A).lq).1 b.here;have hL:bU r.2.aj 1 r.1≠[]:=λz=>by
  have:=ki A he.1
  grind
 have hf:=h.EK r.1 y;have hR:aW (We r.2 way r.1):=h.frame (f:=Cz way (aM r.2.frames r.1)) ⟨hf.refs,λe=>absurd e hL,hf.one,hf.size,λd=>hf.fill (by
  have d:((aM r.2.frames r.1).kE || decide (way=1))=false:=d
  grind)⟩
 refine⟨hR,b.kept.trans ⟨rfl,dE,rfl,rfl,λ_ _=>rfl,λ_ _=>rfl,λn hn q=>?_⟩,b.lt,b.here,b.stay⟩;unfold b7;show(match bl (ak r.2.aj n).bh q with
  | some e=>if e.kind=1 then (aM (r.2.frames.set r.1 (Cz way (aM r.2.frames r.1))) e.loc.toNat).data else (bI r.2.slots e.loc.toNat).data
  | none=>_)=_
 cases bl (ak r.2.aj n).bh q with
 | none=>rfl
 | some e =>
  show(if e.kind=1 then _ else _)=if e.kind=1 then _ else _
  rw[kV _ _ _ _ y];by_cases c:r.1=e.loc.toNat
  . rw[aC c,<- c];rfl
  grind
theorem gv.trans {r s:Nat×aT} (a:gv k j p held r) (b:gv r.2 j p held s):gv k j p held s :=
 ⟨b.right,a.kept.trans b.kept,by have:=b.lt;grind [kept,gp.nf],b.here,λj' hj' q e he h1 h2 h3=>b.stay j' (by grind [kept,gp.np]) q e (a.stay j' hj' q e he h1 h2 h3) h1 h2 h3⟩
theorem gp.mapped {k':aT} (h:gp k k') (hj:j<k.aj.length) (hp:dM k j p):dM k' j p:=by grind [dM,aJ]
theorem tS (h:aW k) (hj:j<k.aj.length) (hp:dM k j p) (way:Int) (hl:held.length<=1):gv k j p held (dO k j p way held)/\(way=1->(aM (dO k j p way held).2.frames (dO k j p way held).1).refs=1/\(aM (dO k j p way held).2.frames (dO k j p way held).1).kE=true):=by
 have P:=Dt h hj hp (held:=held) ω;have hT:gv k j p held (iZ k j p way held)/\(way=1->(aM (iZ k j p way held).2.frames (iZ k j p way held).1).refs=1):=by
  grind [iZ,Pn,gv.right,gv.kept,gp.np,gp.mapped,gv.here,gv.trans]
 refine⟨aeP hT.1 hj way,λc=>?_⟩;have b:(iZ k j p way held).1<(iZ k j p way held).2.frames.length:=by rw[hT.1.kept.nf];exact hT.1.lt
 have e:aM (dO k j p way held).2.frames (dO k j p way held).1=Cz way (aM (iZ k j p way held).2.frames (iZ k j p way held).1):=by
  show aM ((iZ k j p way held).2.frames.set _ _) (iZ k j p way held).1=_
  grind [kV]
 grind [Cz]
structure fC where
 refs:Int
 page:Int
 zero:Bool
variable {u:fC} {us:List fC}
def nJ:fC:=⟨0,0,false⟩
def dz (l:List fC) (i:Nat):fC:=l.getD i nJ
def qz (us:List fC) (e:bJ) (z:Bool):Bool:=decide (0<=e.loc/\e.loc<(us.length:Int))&&!(decide (0<(dz us e.loc.toNat).refs)&&(decide ((dz us e.loc.toNat).page≠e.page) || (dz us e.loc.toNat).zero != z))
def uL (us:List fC) (e:bJ) (z:Bool):List fC:=us.set e.loc.toNat ⟨(dz us e.loc.toNat).refs+1,e.page,z⟩
def Ao (ar:List aX) (last:Int) (uf us:List fC) (e:bJ):Bool:=(aV ar e.page).2&&(decide (last<e.page)&&(if e.kind=1 then qz uf e (aV ar e.page).1.zero else if e.kind=2 then qz us e (aV ar e.page).1.zero else false))
def wy (ar:List aX) (u:List fC×List fC) (e:bJ):List fC×List fC:=if e.kind=1 then (uL u.1 e (aV ar e.page).1.zero,u.2) else (u.1,uL u.2 e (aV ar e.page).1.zero)
def uq (es:List bJ) (k:Nat):Int:=if k=0 then 0 else (bc es (k-1)).page
def ku (ar:List aX) (es:List bJ) (u:List fC×List fC):Nat->List fC×List fC
 | 0=>u
 | k+1=>wy ar (ku ar es u k) (bc es k)
def kW (ar:List aX) (es:List bJ) (u:List fC×List fC):Nat->Bool
 | 0=>true
 | k+1=>kW ar es u k&&Ao ar (uq es k) (ku ar es u k).1 (ku ar es u k).2 (bc es k)
def uu (hs:List bC) (ar:List aX):Bool:=ar.all λa=>(List.range a.aD.toNat).all λn=>a.zero || decide ((fG hs (a.page+(n:Int))).size≠0)
def rY (hs:List bC) (s:dA):Bool:=if s.live then decide (bj s.aJ=0)&&uu hs s.aJ else decide (s.aJ.length=0)&&decide (s.bh.length=0)
def mg (ss:List dA) (u:List fC×List fC):Nat->List fC×List fC
 | 0=>u
 | k+1=>ku (ak ss k).aJ (ak ss k).bh (mg ss u k) (ak ss k).bh.length
def rC (hs:List bC) (ss:List dA) (u:List fC×List fC):Nat->Bool
 | 0=>true
 | k+1=>rC hs ss u k&&(rY hs (ak ss k)&&kW (ak ss k).aJ (ak ss k).bh (mg ss u k) (ak ss k).bh.length)
def ve (f:nA):Bool:=decide (f.data.size=0/\f.refs=0/\f.kE=false/\f.seen=false)
def wu (f:qh):Bool:=decide (f.data.size=0/\f.refs=0)
def kQ (hs:List bC) (f:nA) (u:fC):Bool:=if u.refs=0 then ve f else decide (f.refs=u.refs/\f.data.size=16)&&(f.kE || decide (f.data=gz hs u.page u.zero))
def nK (s:qh) (u:fC):Bool:=if u.refs=0 then wu s else decide (s.refs=u.refs/\s.data.size=16)
def Dp (k:aT):List fC×List fC:=mg k.aj (List.replicate k.frames.length nJ,List.replicate k.slots.length nJ) k.aj.length
def FL (k:aT):Bool:=iG k.aR&&(decide (0<=k.hand/\k.hand<(k.frames.length:Int))&&(rC k.aR k.aj (List.replicate k.frames.length nJ,List.replicate k.slots.length nJ) k.aj.length&&(decide (eU k.aj<=(k.slots.length:Int))&&((List.range k.frames.length).all (λi=>kQ k.aR (aM k.frames i) (dz (Dp k).1 i))&&(List.range k.slots.length).all (λi=>nK (bI k.slots i) (dz (Dp k).2 i))))))
def gu (k:aT):Int:=if pB k=false then 2 else if FL k then 0 else 1
def Bw (L:List (Int×Bool)) (u:fC):Prop:=u.refs=L.length/\∀x∈L,x=(u.page,u.zero)
def Aq (N:Int->Int->List (Int×Bool)) (nf ns:Nat) (u:List fC×List fC):Prop:=(u.1.length=nf/\u.2.length=ns)/\(∀i:Nat,i<nf->Bw (N 1 i) (dz u.1 i))/\∀i:Nat,i<ns->Bw (N 2 i) (dz u.2 i)
theorem Jl (l:List fC) (j n:Nat) (s:fC) (hj:j<l.length):dz (l.set j s) n=if j=n then s else dz l n:=by
 grind [dz]
theorem Sc (h:Bw L u) {z:Bool} (hc:¬(0<u.refs/\(u.page≠p\/u.zero≠z))):Bw (L++[(p,z)]) ⟨u.refs+1,p,z⟩:=by
 refine⟨by show u.refs+1=_;rw[h.1,ft];rfl,λx hx=>?_⟩;rcases kJ.1 hx with g | g
 . have b:0<u.refs:=by rw[h.1];grind
   have e:=h.2 x g
   grind
 grind
theorem Cv {z:Bool}:qz us e z=true↔(0<=e.loc/\e.loc<(us.length:Int))/\¬(0<(dz us e.loc.toNat).refs/\((dz us e.loc.toNat).page≠e.page\/(dz us e.loc.toNat).zero≠z)):=by
 grind [qz]
theorem aeT {N:Int->Int->List (Int×Bool)} {u:List fC×List fC} (h:Aq N nf ns u) (hb:Ao ar last u.1 u.2 e=true) :
  Aq (λkd i=>N kd i++kR ar kd i [e]) nf ns (wy ar u e)/\A6 nf ns ar e/\last<e.page:=by
 unfold Ao at hb;rw[cK,cK,fX] at hb;obtain⟨h1,h2,h3⟩:=hb;obtain⟨⟨l1,l2⟩,s1,s2⟩:=h;by_cases c:e.kind=1
 . rw[aC c] at h3;obtain⟨b,hc⟩:=Cv.1 h3;refine⟨⟨⟨?_,?_⟩,λi hi=>?_,λi hi=>?_⟩,⟨h1,.inl ⟨c,b.1,ω⟩⟩,h2⟩
   . grind [wy,uL]
   . grind [wy]
   . grind [wy,uL,Jl,uB,Sc,pP]
   grind [wy,pP]
 rw[aB c] at h3;by_cases c2:e.kind=2
 . rw[aC c2] at h3;obtain⟨b,hc⟩:=Cv.1 h3;refine⟨⟨⟨?_,?_⟩,λi hi=>?_,λi hi=>?_⟩,⟨h1,.inr ⟨c2,b.1,ω⟩⟩,h2⟩
   . grind [wy]
   . grind [wy,uL]
   . grind [wy,pP]
   grind [wy,uL,Jl,uB,Sc,pP]
 grind
theorem aeU {N:Int->Int->List (Int×Bool)} {u:List fC×List fC} (h:Aq N nf ns u) (he:A6 nf ns ar e) (hl:last<e.page) (ho:∀x∈N e.kind e.loc,x=(e.page,(aV ar e.page).1.zero)):Ao ar last u.1 u.2 e=true:=by
 obtain⟨⟨l1,l2⟩,s1,s2⟩:=h;unfold Ao;rw[he.1,fD hl,tE,tE];have q:∀(us:List fC) (n:Nat),us.length=n->(0<=e.loc/\e.loc<(n:Int))->Bw (N e.kind (e.loc.toNat:Int)) (dz us e.loc.toNat)->qz us e (aV ar e.page).1.zero=true:=λus n hn hb hs=>by
  rw[Cv];refine⟨ω,λ⟨a,b⟩=>?_⟩;rw[hs.1] at a;obtain⟨x,hx⟩:=List.exists_mem_of_length_pos (show 0<(N e.kind (e.loc.toNat:Int)).length by omega);have e1:=hs.2 x hx
  grind
 rcases he.2 with g | g
 . grind
 grind
theorem G1 (es:List bJ) (k:Nat) (hk:k<es.length):es.take (k+1)=es.take k++[bc es k]:=by
 grind [List.take_add_one,bc]
theorem Jy {N:Int->Int->List (Int×Bool)} {nf ns:Nat} {u:List fC×List fC} (h:Aq N nf ns u) (ar:List aX) (es:List bJ):∀k,k<=es.length->kW ar es u k=true->Aq (λkd i=>N kd i++kR ar kd i (es.take k)) nf ns (ku ar es u k)/\∀i,i<k->A6 nf ns ar (bc es i)/\uq es i<(bc es i).page
 | 0,_,_=>⟨by
  have e:(λkd i=>N kd i++kR ar kd i (es.take 0))=N:=by grind [kR]
  rw[e];exact h,λi hi=>ω⟩
 | k+1,hk,hb=>by
  unfold kW at hb;rw[cK] at hb;obtain⟨a1,a2⟩:=Jy h ar es k ω hb.1;obtain⟨b1,b2,b3⟩:=aeT a1 hb.2;refine⟨?_,λi hi=>?_⟩
  . have e:(λkd i=>N kd i++kR ar kd i (es.take (k+1)))=λkd i=>(N kd i++kR ar kd i (es.take k))++kR ar kd i [bc es k]:=by
     grind [G1,oH]
    rw[e];exact b1
  grind
theorem Ph {N:Int->Int->List (Int×Bool)} {nf ns:Nat} {u:List fC×List fC} (h:Aq N nf ns u) (ar:List aX) (es:List bJ) (he:∀i,i<es.length->A6 nf ns ar (bc es i)/\uq es i<(bc es i).page) (ho:∀kd i,∀x∈N kd i++kR ar kd i es,∀y∈N kd i++kR ar kd i es,x=y):∀k,k<=es.length->kW ar es u k=true
 | 0,_=>rfl
 | k+1,hk=>by
  have ih:=Ph h ar es he ho k ω;unfold kW;rw[ih,tE];obtain⟨a1,_⟩:=Jy h ar es k ω ih;refine aeU a1 (he k ω).1 (he k ω).2 λx hx=>?_
  have hm:(bc es k)∈es:=kT ω;refine ho (bc es k).kind (bc es k).loc x ?_ _ (kJ.2 (.inr (QK.2 ⟨_,hm,rfl,rfl,rfl⟩)))
  grind [QK]
theorem Hb (es:List bJ) (k:Nat):(es.map (·.page)).getD k 0=(bc es k).page:=by
 unfold bc;rw[cB,cB,vQ];cases es[k]? <;> rfl
theorem ll (h:(aV ar p).2=true):1<=p/\p<256:=by
 have:=jB (zm h) h;omega
theorem Sh {es:List bJ}:(∀i,i<es.length->A6 nf ns ar (bc es i)/\uq es i<(bc es i).page)↔(∀e∈es,A6 nf ns ar e)/\kL es:=by
 constructor
 . intro h;refine⟨λe he=>?_,xW _ λk h1 h2=>?_⟩
   . obtain⟨i,hi,rfl⟩:=mZ iD he;exact(h i hi).1
   grind [Hb,uq]
 rintro⟨h1,h2⟩ i hi;have he:=h1 (bc es i) (kT hi);refine⟨he,?_⟩;unfold uq;by_cases c:i=0
 . rw[aC c];have:=ll he.1;omega
 rw[aB c,<- Hb,<- Hb];exact DJ h2 i ω Γ
theorem Jw (hr:iG hs=true) (p:Int):(fG hs p).size≠0↔(je hs p).isSome=true:=by
 constructor
 . intro h;unfold fG at h;cases g:je hs p with
   | some s=>rfl
   | none=>rw[g] at h;exact absurd rfl h
 grind [Jx]
theorem ahM (hc:bj ar=0) (p:Int):(aV ar p).2=true↔∃a∈ar,a.page<=p/\p<a.page+a.aD/\aV ar p=(a,true):=by
 grind [aV,EH,bw,Nq]
theorem ahL (hc:bj ar=0) {a:aX} (ha:a∈ar) (h1:a.page<=p) (h2:p<a.page+a.aD):aV ar p=(a,true):=by
 obtain⟨k,hk,e⟩:=mZ Ab ha;have e:bw ar k=a:=e;have b:jt (bw ar k) p=true:=by grind [Nq]
 grind [aV,RJ,EH,VC]
theorem Sk (hr:iG hs=true) (hc:bj ar=0):uu hs ar=true↔∀p,(aV ar p).2=true->(aV ar p).1.zero=false->(je hs p).isSome=true:=by
 unfold uu;rw[nB];constructor
 . intro h p hp hz;obtain⟨a,ha,h1,h2,e⟩:=(ahM hc p).1 hp;rw[e] at hz;have hz:a.zero=false:=hz;have:=h a ha;rw[nB] at this;have:=this (p-a.page).toNat (vN.2 ω)
   grind [Jw]
 intro h a ha;rw[nB];intro n hn;have hn:=vN.1 hn;have e:=ahL hc ha (p:=a.page+(n:Int)) ω ω
 grind [Jw]
theorem ahK (ss:List dA) (k:Nat) (hk:k<ss.length):ss.take (k+1)=ss.take k++[ak ss k]:=by
 grind [List.take_add_one,ak]
theorem L1 (ss:List dA) (k:Nat) (hk:k<ss.length) (kd a:Int):bU (ss.take (k+1)) kd a=bU (ss.take k) kd a++fW (ak ss k) kd a:=by
 grind [ahK,Io,mD,Pc]
theorem Sb (nf ns:Nat):Aq (λ_ _=>[]) nf ns (List.replicate nf nJ,List.replicate ns nJ):=by
 have h:∀n i,dz (List.replicate n nJ) i=nJ:=λn i=>by
  grind [dz]
 refine⟨⟨xu,xu⟩,λi _=>?_,λi _=>?_⟩
 . grind [Bw,nJ]
 grind [Bw,nJ]
theorem amI (hr:iG hs=true) {s:dA} (h1:rY hs s=true) (h2:(∀e∈s.bh,A6 nf ns s.aJ e)/\kL s.bh):xO hs nf ns s:=by
 unfold rY at h1;by_cases c:s.live=true
 . rw[aC c,cK,fX] at h1;exact⟨λd=>Γ,h1.1,h2.2,h2.1,(Sk hr h1.1).1 h1.2⟩
 rw[aB c,cK,fX,fX] at h1;have ha:=o9 h1.1;refine⟨λ_=>⟨ha,o9 h1.2⟩,by rw[ha];rfl,h2.2,h2.1,λp hp=>?_⟩;rw[ha] at hp;cases hp
theorem amJ (hr:iG hs=true) {s:dA} (h:xO hs nf ns s):rY hs s=true:=by
 grind [rY,Sk,xO.aJ,xO.aR,xO.dead]
theorem Ds {hs:List bC} (hr:iG hs=true) {nf ns:Nat} {u:List fC×List fC} (h:Aq (λ_ _=>[]) nf ns u) (ss:List dA):∀k,k<=ss.length->rC hs ss u k=true->Aq (λkd i=>bU (ss.take k) kd i) nf ns (mg ss u k)/\∀i,i<k->xO hs nf ns (ak ss i)
 | 0,_,_=>⟨by
  have e:(λkd i=>bU (ss.take 0) kd i)=λ_ _=>[]:=by rfl
  rw[e];exact h,λi hi=>ω⟩
 | k+1,hk,hb=>by
  unfold rC at hb;rw[cK,cK] at hb;obtain⟨a1,a2⟩:=Ds hr h ss k ω hb.1;obtain⟨b1,b2⟩:=Jy a1 (ak ss k).aJ (ak ss k).bh _ (aK _) hb.2.2;refine⟨?_,λi hi=>?_⟩
  . have e:(λkd i=>bU (ss.take (k+1)) kd i)=λkd i=>bU (ss.take k) kd i++kR (ak ss k).aJ kd i ((ak ss k).bh.take (ak ss k).bh.length):=by
     funext kd i;rw[L1 ss k ω,qJ];rfl
    rw[e];exact b1
  by_cases c:i=k
  . simp_all [amI,Sh]
  grind
theorem ab6 {ss:List dA} {k:Nat} {kd a:Int} {x:Int×Bool} (h:x∈bU (ss.take k) kd a):x∈bU ss kd a:=by
 grind [rE]
theorem Sd {hs:List bC} (hr:iG hs=true) {nf ns:Nat} {u:List fC×List fC} (h:Aq (λ_ _=>[]) nf ns u) (ss:List dA) (hsp:∀i,i<ss.length->xO hs nf ns (ak ss i)) (ho:∀kd i,∀x∈bU ss kd i,∀y∈bU ss kd i,x=y):∀k,k<=ss.length->rC hs ss u k=true
 | 0,_=>rfl
 | k+1,hk=>by
  have ih:=Sd hr h ss hsp ho k ω;unfold rC;obtain⟨a1,_⟩:=Ds hr h ss k ω ih;have g:=hsp k ω;rw[ih,amJ hr g,tE,tE];refine Ph a1 _ _ (Sh.2 ⟨g.Qs,g.lq⟩) (λkd i x hx y hy=>?_) _ (aK _);have key:∀z,z∈bU (ss.take k) kd i++kR (ak ss k).aJ kd i (ak ss k).bh->z∈bU ss kd i:=λz hz=>by
   refine ab6 (k:=k+1) ?_;rw[L1 ss k ω];exact hz
  grind
theorem G8 (f:nA):ve f=true↔f=fN:=by
 unfold ve;rw[fX];constructor
 . rintro⟨h1,h2,h3,h4⟩;obtain⟨⟨⟨d⟩⟩,r,a,b⟩:=f;simp only at h2 h3 h4;subst h2 h3 h4;have:d=[]:=o9 h1;subst this;rfl
 rintro rfl;exact⟨rfl,rfl,rfl,rfl⟩
theorem Jv (f:qh):wu f=true↔f=jm:=by
 unfold wu;rw[fX];constructor
 . rintro⟨h1,h2⟩;obtain⟨⟨⟨d⟩⟩,r⟩:=f;simp only at h2;subst h2;have:d=[]:=o9 h1;subst this;rfl
 rintro rfl;exact⟨rfl,rfl⟩
theorem VX (h:Bw L u):∀x∈L,∀y∈L,x=y:=λx hx y hy=>(h.2 x hx).trans (h.2 y hy).symm
theorem Dq (h:Bw L u):u.refs=0↔L=[]:=by
 rw[h.1]
 simp_all
theorem aae (h:Bw L u) (f:nA):kQ hs f u=true↔nz hs L f:=by
 unfold kQ;by_cases c:u.refs=0
 . grind [Dq,G8,nz.none,nz.zero]
 have hL:L≠[]:=λe=>c ((Dq h).2 e)
 rw[aB c,cK,fX,TV,fX];constructor
 . rintro⟨⟨h1,h2⟩,h3⟩;refine⟨h1.trans h.1,λe=>absurd e hL,VX h,λ_=>h2,λd x hx=>?_⟩;rw[h.2 x hx]
   grind
 intro g;refine⟨⟨g.refs.trans h.1.symm,g.size hL⟩,?_⟩;cases d:f.kE with
 | true=>grind
 | false =>
  obtain⟨x,hx⟩:=NT _ hL;have:=g.fill d x hx;rw[h.2 x hx] at this
  grind
theorem aaa (h:Bw L u) (f:qh):nK f u=true↔qC L f:=by
 unfold nK;by_cases c:u.refs=0
 . grind [Dq,Jv,qC.none,qC.zero]
 have hL:L≠[]:=λe=>c ((Dq h).2 e)
 rw[aB c,fX];constructor
 . rintro⟨h1,h2⟩;exact⟨h1.trans h.1,λe=>absurd e hL,VX h,λ_=>h2⟩
 intro g;exact⟨g.refs.trans h.1.symm,g.size hL⟩
theorem aeR (k:aT) (hc:pB k=true):FL k=true↔aW k:=by
 unfold FL;simp only[cK,fX,nB,vN];have hz:=Sb k.frames.length k.slots.length;have hn:(λkd i=>bU (k.aj.take k.aj.length) kd i)=λkd i=>bU k.aj kd i:=by grind
 constructor
 . rintro⟨h1,h2,h3,h4,h5,h6⟩;obtain⟨a1,a2⟩:=Ds h1 hz k.aj _ (aK _) h3;rw[hn] at a1;refine⟨hc,h1,h2,λs hs=>?_,h4,λi hi=>(aae (a1.2.1 i hi) _).1 (h5 i hi),λi hi=>(aaa (a1.2.2 i hi) _).1 (h6 i hi)⟩;obtain⟨j,hj,rfl⟩:=mZ tR hs;exact a2 j hj
 intro h;have ho:∀kd i,∀x∈bU k.aj kd i,∀y∈bU k.aj kd i,x=y:=λkd i x hx y hy=>by
  obtain⟨s,hs,e,he,g1,g2,_⟩:=rE.1 hx;obtain⟨j,hj,rfl⟩:=mZ tR hs;rcases jn h hj he with b | b
  . have:=(h.EK e.loc.toNat b.2.2).one x Γ y Γ;omega
  grind [aW.slt,qC.one]
 have hb:=Sd h.lq hz k.aj (λi hi=>h.sp hi) ho _ (aK _);obtain⟨a1,_⟩:=Ds h.lq hz k.aj _ (aK _) hb;rw[hn] at a1;exact⟨h.lq,h.hand,hb,h.room,λi hi=>(aae (a1.2.1 i hi) _).2 (h.EK i hi),λi hi=>(aaa (a1.2.2 i hi) _).2 (h.slt i hi)⟩
theorem qa (k:aT):gu k=0↔aW k:=by
 grind [gu,aeR,aW.counts]
def ot (us:List fC) (n:Nat) (B:Int):Prop:=us.length=n/\∀i,i<n->0<=(dz us i).refs/\(dz us i).refs<=B
theorem ot.mono {n:Nat} {B C:Int} (h:ot us n B) (hc:B<=C):ot us n C:=⟨h.1,λi hi=>⟨(h.2 i hi).1,Int.le_trans (h.2 i hi).2 hc⟩⟩
theorem ot.use {n:Nat} {B:Int} (h:ot us n B) (e:bJ) (z:Bool) (hok:qz us e z=true):ot (uL us e z) n (B+1):=by
 have hb:=(Cv.1 hok).1;obtain⟨h1,h2⟩:=h;refine⟨by grind [uL],λi hi=>?_⟩
 grind [uL,Jl]
theorem YE {uf:List fC} (h:Ao ar last uf us e=true):(aV ar e.page).2=true/\last<e.page/\((e.kind=1/\qz uf e (aV ar e.page).1.zero=true)\/(e.kind=2/\qz us e (aV ar e.page).1.zero=true)):=by
 grind [Ao]
theorem MZ (ar:List aX) (es:List bJ) (u:List fC×List fC) (nf ns:Nat) (B:Int) (h1:ot u.1 nf B) (h2:ot u.2 ns B):∀k,k<=es.length->kW ar es u k=true->ot (ku ar es u k).1 nf (B+k)/\ot (ku ar es u k).2 ns (B+k)/\(k:Int)<=(if k=0 then 0 else (bc es (k-1)).page)/\(if k=0 then 0 else (bc es (k-1)).page)<256
 | 0,_,_=>⟨h1.mono ω,h2.mono ω,vM _,ω⟩
 | k+1,hk,hb=>by
  unfold kW at hb;rw[cK] at hb;obtain⟨a1,a2,a3,a4⟩:=MZ ar es u nf ns B h1 h2 k ω hb.1;obtain⟨b1,b2,b3⟩:=YE hb.2;have hm:=ll b1
  grind [uq,wy,ku,ot.use,ot.mono]
theorem L9 (ar:List aX) (es:List bJ) (u:List fC×List fC):∀(k n:Nat),k<=n->kW ar es u k=false->kW ar es u n=false
 | k,0,h,e=>by
  grind
 | k,n+1,h,e=>by
  by_cases c:k=n+1
  . grind
  rw[kW,L9 ar es u k n ω e,yw]
theorem aeS (ar:List aX) (es:List bJ) (u:List fC×List fC) (k:Nat) (hk:k<es.length) (h:Ao ar (uq es k) (ku ar es u k).1 (ku ar es u k).2 (bc es k)=false):kW ar es u es.length=false :=
 L9 ar es u (k+1) es.length hk (by grind [kW])
theorem Z8 (n:Nat):ot (List.replicate n nJ) n 0:=by
 refine⟨xu,λi hi=>?_⟩;unfold dz;rw[cB,List.getElem?_replicate,aC hi];exact⟨vM _,vM _⟩
theorem Z9 (hs:List bC) (ss:List dA) (u:List fC×List fC) (nf ns:Nat) (h1:ot u.1 nf 0) (h2:ot u.2 ns 0):∀k,k<=ss.length->rC hs ss u k=true->ot (mg ss u k).1 nf (255*k)/\ot (mg ss u k).2 ns (255*k)
 | 0,_,_=>⟨h1,h2⟩
 | k+1,hk,hb=>by
  unfold rC at hb;rw[cK,cK] at hb;obtain⟨a1,a2⟩:=Z9 hs ss u nf ns h1 h2 k ω hb.1;obtain⟨b1,b2,_,_⟩:=MZ (ak ss k).aJ (ak ss k).bh (mg ss u k) nf ns (255*k) a1 a2 _ (aK _) hb.2.2
  grind [mg,ot.mono]
theorem Yw {k:aT} (hr:iG k.aR=true) (hb:rC k.aR k.aj (List.replicate k.frames.length nJ,List.replicate k.slots.length nJ) k.aj.length=true) (i:Nat) (hi:i<k.frames.length) (hn:(dz (Dp k).1 i).refs≠0):0<=(dz (Dp k).1 i).page/\(dz (Dp k).1 i).page<256:=by
 obtain⟨a1,a2⟩:=Ds hr (Sb k.frames.length k.slots.length) k.aj _ (aK _) hb;have hs:=a1.2.1 i hi;have hs:Bw (bU (k.aj.take k.aj.length) 1 i) (dz (Dp k).1 i):=hs;rw[qJ] at hs;have q:bU k.aj 1 i≠[]:=λe=>hn ((Dq hs).2 e)
 obtain⟨x,hx⟩:=NT _ q;have e:=hs.2 x hx;obtain⟨s,y,en,b,_,_,A⟩:=rE.1 hx;obtain⟨j,hj,rfl⟩:=mZ tR y;have hm:=ll ((a2 j hj).Qs en b).1
 grind
theorem OZ (hs:List bC) (ss:List dA) (u:List fC×List fC):∀(k n:Nat),k<=n->rC hs ss u k=false->rC hs ss u n=false
 | k,0,h,e=>by
  grind
 | k,n+1,h,e=>by
  by_cases c:k=n+1
  . grind
  rw[rC,OZ hs ss u k n ω e,yw]
def cN (a n:Int):Int:=(a+n-1)/16
def fT (k:aT) (j:Nat) (a way:Int):Nat×aT:=dO k j (a/16) way []
def mN (k:aT) (j:Nat) (a n way:Int):Nat×aT:=dO (fT k j a way).2 j (cN a n) way [((fT k j a way).1:Int)]
def bg (k:aT) (j:Nat) (a n way:Int):List Nat×aT:=if cN a n=a/16 then ([(fT k j a way).1],(fT k j a way).2) else ([(fT k j a way).1,(mN k j a n way).1],(mN k j a n way).2)
structure ahO (k:aT) (j:Nat) (a n way:Int):Prop where
 right:aW (bg k j a n way).2
 kept:gp k (bg k j a n way).2
 one:bl (ak (bg k j a n way).2.aj j).bh (a/16)=some ⟨a/16,1,(fT k j a way).1⟩/\(fT k j a way).1<k.frames.length
 two:cN a n≠a/16->bl (ak (bg k j a n way).2.aj j).bh (cN a n)=some ⟨cN a n,1,(mN k j a n way).1⟩/\(mN k j a n way).1<k.frames.length
theorem rD (h:aW k) (hj:j<k.aj.length) (a n way:Int) (h1:dM k j (a/16)) (h2:dM k j (cN a n)):ahO k j a n way:=by
 have A:=(tS h hj h1 way (held:=[]) ξ).1;by_cases c:cN a n=a/16
 . have e:bg k j a n way=([(fT k j a way).1],(fT k j a way).2):=by grind [bg]
   exact⟨by rw[e];exact A.right,by rw[e];exact A.kept,by rw[e];exact⟨A.here,A.lt⟩,λx=>absurd c x⟩
 have b:j<(fT k j a way).2.aj.length:=by grind [fT,gv.kept,gp.np]
 have B:=(tS (k:=(fT k j a way).2) A.right b (A.kept.mapped hj h2) way (held:=[((fT k j a way).1:Int)]) ξ).1;have e:bg k j a n way=([(fT k j a way).1,(mN k j a n way).1],(mN k j a n way).2):=by grind [bg]
 refine⟨by rw[e];exact B.right,by rw[e];exact A.kept.trans B.kept,?_,λ_=>?_⟩
 . rw[e];exact⟨B.stay j b (a/16) _ A.here rfl Γ (λx=>c x.2.symm),A.lt⟩
 rw[e];refine⟨B.here,?_⟩;have hl:=B.lt
 grind [mN,fT,gv.kept,gp.nf]
def nN (k:aT) (j:Nat) (es:List bJ) (e:bJ):aT:=dN { k with aj:=k.aj.set j (eD (ak k.aj j) es) } e
theorem Hc (h:aW k) (hj:j<k.aj.length) {pre post:List bJ} (he:(ak k.aj j).bh=pre++e::post):(nN k j (pre++post) e).frames.length=k.frames.length/\(nN k j (pre++post) e).slots.length=k.slots.length/\(nN k j (pre++post) e).aR=k.aR/\(nN k j (pre++post) e).hand=k.hand/\(nN k j (pre++post) e).aj=k.aj.set j (eD (ak k.aj j) (pre++post)) /\
  (∀n,aM (nN k j (pre++post) e).frames n=if e.kind=1/\e.loc=(n:Int) then uo (aM k.frames n) else aM k.frames n) /\
  (∀n,bI (nN k j (pre++post) e).slots n=if e.kind=2/\e.loc=(n:Int) then w9 (bI k.slots n) else bI k.slots n):=by
 have hm:e∈(ak k.aj j).bh:=by grind
 unfold nN dN
 grind [jn,kV,AW]
theorem Pm (h:aW k) (hj:j<k.aj.length) {pre post:List bJ} (he:(ak k.aj j).bh=pre++e::post):aW (nN k j (pre++post) e):=by
 have b:=h.sp hj;obtain⟨f1,f2,f3,f4,f5,f6,f7⟩:=Hc h hj he;have A:(nN k j (pre++post) e).aj.length=k.aj.length:=by grind
 have q:∀x,x∈pre++post->x∈(ak k.aj j).bh:=λx hx=>by
  grind
 have NU:∀kd a:Int,∃X Y,bU k.aj kd a=X++(kR (ak k.aj j).aJ kd a [e]++Y)/\bU (k.aj.set j (eD (ak k.aj j) (pre++post))) kd a=X++Y:=λkd a=>by
  obtain⟨u,v,g1,g2⟩:=Cx k.aj j (eD (ak k.aj j) (pre++post)) kd a hj;refine⟨u++kR (ak k.aj j).aJ kd a pre,kR (ak k.aj j).aJ kd a post++v,?_,?_⟩
  . grind [Cy,oH,zQ]
  rw[g2,Cy];show u++(kR (ak k.aj j).aJ kd a (pre++post)++v)=_
  grind [oH]
 refine⟨?_,by rw[f3];exact h.lq,by simp_all [aW.hand],?_,?_,?_,?_⟩
 . have:=h.counts
   grind [pB]
 . rw[f1,f2,f3,f5];intro s hs;rcases ai1 hs with g | rfl
   . exact h.each s g
   refine⟨λdd=>?_,b.aJ,?_,λx hx=>b.Qs x (q x hx),b.aR⟩
   . have y:=(b.dead dd).2
     simp_all
   have hr:kL (ak k.aj j).bh:=b.lq;rw[he] at hr;exact aaX ((List.Sublist.append (List.Sublist.refl pre) (List.sublist_cons_self e post)).map _) hr
 . rw[f2,f5,Er _ _ (eD (ak k.aj j) (pre++post)) hj rfl];exact h.room
 . intro n hn;rw[f1] at hn;rw[f3,f5,f6];obtain⟨X,Y,h1,h2⟩:=NU 1 n
   grind [uB,pP,aW.EK,nz.less]
 intro n hn;rw[f2] at hn;rw[f5,f7];obtain⟨X,Y,h1,h2⟩:=NU 2 n
 grind [uB,pP,aW.slt,qC.less]
end Go.Proofs.YtlgoihmkgaaemaaGreat
