import Derived.Test.YtpgifpeohlllfaaGreatGP00
import Derived.Test.YtpgifpeohlllfaaGreatGP01
set_option maxHeartbeats 20000000
set_option linter.unusedVariables false
set_option maxRecDepth 100000
set_option linter.unusedSimpArgs false
namespace Go.Proofs.YtpgifpeohlllfaaGreat
namespace FM
open Go.RowKit
theorem sN:∀(qs ps:List Int),ps.Pairwise (·<·)->qs.Pairwise (·<·)->(∀x∈ps,x∈qs)->ps.length<=qs.length
 | [],[],_,_,_=>Nat.le_refl _
 | [],p::ps,_,_,h=>by cases h p List.mem_cons_self
 | q::qs,[],_,_,_=>by simp
 | q::qs,p::ps,h1,h2,h=>by
  rw[List.pairwise_cons] at h1 h2
  by_cases e:p=q
  · subst e
    have:=sN qs ps h1.2 h2.2 (fun x hx=>by
     rcases List.mem_cons.1 (h x (List.mem_cons_of_mem _ hx)) with g | g
     · have:=h1.1 x hx
       omega
     · exact g)
    simp only[List.length_cons]
    omega
  · have hp:p∈qs:=by
     rcases List.mem_cons.1 (h p List.mem_cons_self) with g | g
     · exact(e g).elim
     · exact g
    have hq:=h2.1 p hp
    have:=sN qs (p::ps) (List.pairwise_cons.2 h1) h2.2 (fun x hx=>by
     rcases List.mem_cons.1 (h x hx) with g | g
     · rcases List.mem_cons.1 hx with k | k
       · omega
       · have:=h1.1 x k
         omega
     · exact g)
    simp only[List.length_cons] at this ⊢
    omega
def run (p:Int):Nat->List Int
 | 0=>[]
 | n+1=>p::run (p+1) n
theorem El (p:Int):∀n,(run p n).length=n:=fun n=>by
 induction n generalizing p with
 | zero=>rfl
 | succ n ih=>show(run (p+1) n).length+1=_;rw[ih]
theorem ry:∀(n:Nat) (p x:Int),x∈run p n↔p<=x/\x<p+n
 | 0,p,x=>by constructor <;> intro h;cases h;omega
 | n+1,p,x=>by
  show x∈p::run (p+1) n↔_
  rw[List.mem_cons,ry n (p+1) x]
  omega
theorem vY:∀(n:Nat) (p:Int),(run p n).Pairwise (·<·)
 | 0,p=>List.Pairwise.nil
 | n+1,p=>List.pairwise_cons.2 ⟨fun x hx=>by have:=(ry n (p+1) x).1 hx;omega,vY n (p+1)⟩
def dD:List AM.Ar->List Int
 | []=>[]
 | a::r=>run a.page a.aB.toNat++dD r
theorem zg:∀(l:List AM.Ar) (x:Int),x∈dD l↔(AM.aN l x).2=true
 | [],x=>by constructor <;> intro h <;> cases h
 | a::r,x=>by
  show x∈run a.page a.aB.toNat++dD r↔_
  rw[List.mem_append,ry,zg r x]
  show _↔(if AM.hit a x=true then (a,true) else AM.aN r x).2=true
  by_cases c:AM.hit a x=true
  · have h6:a.page<=x/\x<a.page+a.aB:=of_decide_eq_true c
    rw[if_pos c]
    exact⟨fun _=>rfl,fun _=>.inl (by omega)⟩
  · have h6:¬(a.page<=x/\x<a.page+a.aB):=fun g=>c (decide_eq_true g)
    rw[if_neg c]
    exact⟨fun g=>by rcases g with g | g;omega;exact g,fun g=>.inr g⟩
def RO:Int->List AM.Ar->Prop
 | _,[]=>True
 | lo,a::r=>lo<=a.page/\1<=a.aB/\RO (a.page+a.aB) r
theorem RO.low:∀{l:List AM.Ar} {lo:Int},RO lo l->∀x∈dD l,lo<=x
 | [],lo,h,x,hx=>by cases hx
 | a::r,lo,h,x,hx=>by
  obtain⟨h1,h2,h3⟩:=h
  rcases List.mem_append.1 hx with g | g
  · have:=(ry _ _ _).1 g
    omega
  · have:=h3.low x g
    omega
theorem RO.sorted:∀{l:List AM.Ar} {lo:Int},RO lo l->(dD l).Pairwise (·<·)
 | [],lo,h=>List.Pairwise.nil
 | a::r,lo,h=>by
  obtain⟨h1,h2,h3⟩:=h
  show(run a.page a.aB.toNat++dD r).Pairwise (·<·)
  rw[List.pairwise_append]
  refine⟨vY _ _,h3.sorted,fun x hx y hy=>?_⟩
  have:=(ry _ _ _).1 hx
  have:=h3.low y hy
  omega
def Good (l:List AM.Ar):Prop:=∀i,i<l.length->(1<=(AM.at_ l i).page/\1<=(AM.at_ l i).aB)/\(0<i->(AM.at_ l (i-1)).page+(AM.at_ l (i-1)).aB<=(AM.at_ l i).page)
theorem Good.tail {a:AM.Ar} {r:List AM.Ar} (h:Good (a::r)):Good r:=fun i hi=>by
 have h1:=h (i+1) (by simp;omega)
 refine⟨h1.1,fun g=>?_⟩
 have h2:=h1.2 (by omega)
 obtain⟨j,rfl⟩:∃j,i=j+1:=⟨i-1,by omega⟩
 exact h2
theorem C8:∀(l:List AM.Ar) (lo:Int),Good l->(∀a r,l=a::r->lo<=a.page)->RO lo l
 | [],lo,h,_=>trivial
 | a::r,lo,h,hlo=>by
  have h0:=(h 0 (by simp)).1
  refine⟨hlo a r rfl,h0.2,C8 r _ h.tail (fun b q e=>?_)⟩
  subst e
  exact(h 1 (by simp)).2 (by omega)
theorem G3 {l:List AM.Ar} (hc:AM.aO l=0):Good l:=fun i hi=>by
 have h:=AM.cH l hc i hi
 have h1:=AM.cM l i h
 refine⟨⟨h1.1,h1.2.1⟩,fun g=>?_⟩
 unfold AM.mL at h
 simp only[Bool.and_eq_true,Bool.or_eq_true,beq_iff_eq] at h
 rcases h.2 with e | e
 · omega
 · unfold AM.eT at e
   by_cases c:(AM.at_ l i).page=(AM.at_ l (i-1)).dN
   · unfold AM.Ar.dN at c
     omega
   · rw[if_neg c] at e
     have:=of_decide_eq_true e
     unfold AM.Ar.dN at this
     omega
theorem Nb {l:List AM.Ar} (hc:AM.aO l=0):RO 1 l:=C8 l 1 (G3 hc) (fun a r e=>by
 subst e
 exact((G3 hc) 0 (by simp)).1.1)
theorem sum_cons (a:AM.Ar) (r:List AM.Ar):∀k,AM.sumTo (a::r) (k+1)=a.aB+AM.sumTo r k
 | 0=>by show(0:Int)+a.aB=a.aB+0;omega
 | k+1=>by
  show AM.sumTo (a::r) (k+1)+(AM.at_ (a::r) (k+1)).aB=a.aB+(AM.sumTo r k+(AM.at_ r k).aB)
  rw[sum_cons a r k]
  show _+(AM.at_ r k).aB=_
  omega
theorem rD:∀{l:List AM.Ar} {lo:Int},RO lo l->((dD l).length:Int)=AM.sumTo l l.length
 | [],lo,h=>rfl
 | a::r,lo,h=>by
  obtain⟨h1,h2,h3⟩:=h
  show(((run a.page a.aB.toNat++dD r).length:Nat):Int)=AM.sumTo (a::r) (r.length+1)
  rw[sum_cons,List.length_append,El,<- rD h3]
  omega
theorem BQ {l:List AM.Ar} (hc:AM.aO l=0):AM.cD l=((dD l).length:Int):=by
 unfold AM.cD
 rw[if_pos hc,rD (Nb hc)]
theorem Jm {l:List AM.Ar} (hc:AM.aO l=0) (x:Int):(AM.aK l x).2=true↔x∈dD l:=by
 rw[zg]
 unfold AM.aK
 rw[if_pos hc]
end FM
namespace KM
open Go.RowKit
structure Fr where
 data:ByteArray
 refs:Int
 bW:Bool
 seen:Bool
structure Sl where
 data:ByteArray
 refs:Int
structure En where
 page:Int
 kind:Int
 loc:Int
structure Sp where
 live:Bool
 aA:List AM.Ar
 au:List En
structure Kn where
 ak:List LM.Sh
 frames:List Fr
 slots:List Sl
 aj:List Sp
 hand:Int
def l9:Fr:=⟨⟨#[]⟩,0,false,false⟩
def xY:Sl:=⟨⟨#[]⟩,0⟩
def jz:En:=⟨0,0,0⟩
def DN:Sp:=⟨false,[],[]⟩
def aD (l:List Fr) (i:Nat):Fr:=l.getD i l9
def bk (l:List Sl) (i:Nat):Sl:=l.getD i xY
def aJ (l:List En) (i:Nat):En:=l.getD i jz
def aq (l:List Sp) (i:Nat):Sp:=l.getD i DN
theorem dB {α:Type} {d:α}:∀{l:List α} {i:Nat},i<l.length->l.getD i d∈l
 | [],i,h=>absurd h (Nat.not_lt_zero _)
 | a::r,0,h=>List.mem_cons_self
 | a::r,i+1,h=>List.mem_cons_of_mem _ (dB (l:=r) (Nat.lt_of_succ_lt_succ h))
theorem eu {α:Type} (d:α):∀{l:List α} {x:α},x∈l->∃i,i<l.length/\l.getD i d=x
 | a::r,x,h=>by
  rcases List.mem_cons.1 h with rfl | h
  · exact⟨0,Nat.zero_lt_succ _,rfl⟩
  · obtain⟨i,hi,e⟩:=eu d h
    exact⟨i+1,Nat.succ_lt_succ hi,e⟩
theorem bw {α:Type} (d x:α):∀(l:List α) (i:Nat),i<l.length->(l.set i x).getD i d=x
 | a::r,0,_=>rfl
 | a::r,i+1,h=>bw d x r i (Nat.lt_of_succ_lt_succ h)
theorem getD_set_ne {α:Type} (d x:α):∀(l:List α) (i j:Nat),i≠j->(l.set i x).getD j d=l.getD j d
 | [],_,_,_=>rfl
 | a::r,0,0,h=>absurd rfl h
 | a::r,0,j+1,_=>rfl
 | a::r,i+1,0,_=>rfl
 | a::r,i+1,j+1,h=>getD_set_ne d x r i j (fun e=>h (by rw[e]))
def eG (s:Sp) (kd at_:Int):List (Int×Bool):=(s.au.filter fun e=>decide (e.kind=kd/\e.loc=at_)).map fun e=>(e.page,(AM.aK s.aA e.page).1.zero)
def names (ss:List Sp) (kd at_:Int):List (Int×Bool):=ss.flatMap fun s=>eG s kd at_
def bK (hs:List LM.Sh) (p:Int):Option LM.Sh:=hs.find? fun s=>decide (s.page=p)
def filled (hs:List LM.Sh) (p:Int):ByteArray:=match bK hs p with
 | some s=>LM.lN s
 | none=>⟨#[]⟩
def oH:ByteArray:=⟨#[0,0,0,0,0,0,0,0,0,0,0,0,0,0,0,0]⟩
def dh (hs:List LM.Sh) (p:Int) (z:Bool):ByteArray:=if z then oH else filled hs p
def o5 (nf ns:Nat) (ar:List AM.Ar) (e:En):Prop:=(AM.aK ar e.page).2=true/\((e.kind=1/\0<=e.loc/\e.loc<nf)∨(e.kind=2/\0<=e.loc/\e.loc<ns))
structure J5 (hs:List LM.Sh) (nf ns:Nat) (s:Sp):Prop where
 dead:s.live=false->s.aA=[]/\s.au=[]
 aA:AM.aO s.aA=0
 dU:(s.au.map (·.page)).Pairwise (·<·)
 tH:∀e∈s.au,o5 nf ns s.aA e
 ak:∀p,(AM.aK s.aA p).2=true->(AM.aK s.aA p).1.zero=false->(bK hs p).isSome=true
structure uQ (hs:List LM.Sh) (L:List (Int×Bool)) (f:Fr):Prop where
 refs:f.refs=L.length
 zero:L=[]->f=l9
 one:∀x∈L,∀y∈L,x=y
 size:L≠[]->f.data.size=16
 fill:f.bW=false->∀x∈L,f.data=dh hs x.1 x.2
structure DC (L:List (Int×Bool)) (s:Sl):Prop where
 refs:s.refs=L.length
 zero:L=[]->s=xY
 one:∀x∈L,∀y∈L,x=y
 size:L≠[]->s.data.size=16
def fA (l:List Sp):Nat->Int
 | 0=>0
 | k+1=>fA l k+AM.cD (aq l k).aA
def room (l:List Sp):Int:=fA l l.length
def counts (k:Kn):Bool:=decide ((3<=k.frames.length/\k.frames.length<=64)/\k.slots.length<=512/\(1<=k.aj.length/\k.aj.length<=4)/\k.ak.length<=255)
structure aQ (k:Kn):Prop where
 counts:counts k=true
 dU:LM.cZ k.ak=true
 hand:0<=k.hand/\k.hand<k.frames.length
 each:∀s∈k.aj,J5 k.ak k.frames.length k.slots.length s
 room:room k.aj<=k.slots.length
 mO:∀i:Nat,i<k.frames.length->uQ k.ak (names k.aj 1 i) (aD k.frames i)
 slt:∀i:Nat,i<k.slots.length->DC (names k.aj 2 i) (bk k.slots i)
theorem aQ.c {k:Kn} (h:aQ k):(3<=k.frames.length/\k.frames.length<=64)/\k.slots.length<=512/\(1<=k.aj.length/\k.aj.length<=4)/\k.ak.length<=255:=of_decide_eq_true h.counts
theorem ID (kd a:Int):names [] kd a=[]:=rfl
theorem fC (s:Sp) (r:List Sp) (kd a:Int):names (s::r) kd a=eG s kd a++names r kd a:=List.flatMap_cons
theorem Ax (l r:List Sp) (kd a:Int):names (l++r) kd a=names l kd a++names r kd a:=List.flatMap_append
theorem lG {s:Sp} {kd a:Int} {x:Int×Bool}:x∈eG s kd a↔∃e∈s.au,e.kind=kd/\e.loc=a/\x=(e.page,(AM.aK s.aA e.page).1.zero):=by
 unfold eG
 simp only[List.mem_map,List.mem_filter,decide_eq_true_eq]
 exact⟨fun ⟨e,⟨h1,h2,h3⟩,h4⟩=>⟨e,h1,h2,h3,h4.symm⟩,fun ⟨e,h1,h2,h3,h4⟩=>⟨e,⟨h1,h2,h3⟩,h4.symm⟩⟩
theorem ig {ss:List Sp} {kd a:Int} {x:Int×Bool}:x∈names ss kd a↔∃s∈ss,∃e∈s.au,e.kind=kd/\e.loc=a/\x=(e.page,(AM.aK s.aA e.page).1.zero):=by
 unfold names
 rw[List.mem_flatMap]
 exact⟨fun ⟨s,hs,h⟩=>⟨s,hs,lG.1 h⟩,fun ⟨s,hs,h⟩=>⟨s,hs,lG.2 h⟩⟩
theorem sY:∀(l:List Sp) (j:Nat) (s:Sp) (kd a:Int),j<l.length->∃u v,names l kd a=u++(eG (aq l j) kd a++v)/\names (l.set j s) kd a=u++(eG s kd a++v)
 | x::r,0,s,kd,a,_=>⟨[],names r kd a,fC x r kd a,fC s r kd a⟩
 | x::r,j+1,s,kd,a,h=>by
  obtain⟨u,v,h1,h2⟩:=sY r j s kd a (Nat.lt_of_succ_lt_succ h)
  refine⟨eG x kd a++u,v,?_,?_⟩
  · rw[fC,h1,List.append_assoc];rfl
  · rw[List.set_cons_succ,fC,h2,List.append_assoc]
theorem kW (f:Sp->Sp) (kd a:Int) (Y5 a':Int):∀(l:List Sp),(∀s∈l,eG (f s) kd a=eG s Y5 a')->names (l.map f) kd a=names l Y5 a'
 | [],_=>rfl
 | x::r,h=>by
  rw[List.map_cons,fC,fC,h x List.mem_cons_self,kW f kd a Y5 a' r (fun s hs=>h s (List.mem_cons_of_mem _ hs))]
theorem iW (f:Sp->Sp) (kd a:Int):∀(l:List Sp),(∀s∈l,eG (f s) kd a=[])->names (l.map f) kd a=[]
 | [],_=>rfl
 | x::r,h=>by
  rw[List.map_cons,fC,h x List.mem_cons_self,iW f kd a r (fun s hs=>h s (List.mem_cons_of_mem _ hs))];rfl
theorem kR (l m:List Sp):∀k,(∀i,i<k->(aq l i).aA=(aq m i).aA)->fA l k=fA m k
 | 0,_=>rfl
 | k+1,h=>by rw[fA,fA,kR l m k (fun i hi=>h i (Nat.lt_succ_of_lt hi)),h k (Nat.lt_succ_self k)]
def jU (es:List En):Prop:=(es.map (·.page)).Pairwise (·<·)
def aT (es:List En) (p:Int):Option En:=es.find? fun e=>decide (e.page=p)
theorem yS {a:En} {r:List En} (h:jU (a::r)):jU r/\∀e∈r,a.page<e.page:=by
 have:=List.pairwise_cons.1 h
 exact⟨this.2,fun e he=>this.1 _ (List.mem_map_of_mem he)⟩
theorem di:∀{es:List En} {p:Int} {e:En},jU es->(aT es p=some e↔e∈es/\e.page=p)
 | [],p,e,_=>by simp[aT]
 | a::r,p,e,h=>by
  have hr:=yS h
  by_cases c:a.page=p
  · have:aT (a::r) p=some a:=by simp[aT,c]
    rw[this]
    refine⟨fun g=>by injection g with g;subst g;exact⟨List.mem_cons_self,c⟩,fun ⟨g1,g2⟩=>?_⟩
    rcases List.mem_cons.1 g1 with rfl | g1
    · rfl
    · have:=hr.2 e g1;omega
  · have:aT (a::r) p=aT r p:=by simp[aT,c]
    rw[this,di hr.1]
    refine⟨fun ⟨g1,g2⟩=>⟨List.mem_cons_of_mem _ g1,g2⟩,fun ⟨g1,g2⟩=>?_⟩
    rcases List.mem_cons.1 g1 with rfl | g1
    · exact absurd g2 c
    · exact⟨g1,g2⟩
theorem iJ {es:List En} {p:Int}:aT es p=none↔∀e∈es,e.page≠p:=by
 unfold aT
 rw[List.find?_eq_none]
 simp
def l6:List En->En->List En
 | [],e=>[e]
 | a::r,e=>if a.page<e.page then a::l6 r e else if a.page=e.page then e::r else e::a::r
theorem m9:∀{es:List En} {e:En},jU es->∃pre post,es=pre++((aT es e.page).toList++post)/\l6 es e=pre++e::post/\(∀x∈pre,x.page<e.page)/\∀x∈post,e.page<x.page
 | [],e,_=>⟨[],[],rfl,rfl,by simp,by simp⟩
 | a::r,e,h=>by
  have hr:=yS h
  unfold l6
  by_cases c:a.page<e.page
  · obtain⟨pre,post,h1,h2,h3,h4⟩:=m9 (es:=r) (e:=e) hr.1
    have:aT (a::r) e.page=aT r e.page:=by simp[aT,show ¬a.page=e.page by omega]
    rw[if_pos c,this]
    refine⟨a::pre,post,by rw[List.cons_append,<- h1],by rw[h2];rfl,fun x hx=>?_,h4⟩
    rcases List.mem_cons.1 hx with rfl | hx
    · exact c
    · exact h3 x hx
  · rw[if_neg c]
    by_cases d:a.page=e.page
    · have:aT (a::r) e.page=some a:=by simp[aT,d]
      rw[if_pos d,this]
      exact⟨[],r,rfl,rfl,by simp,fun x hx=>by have:=hr.2 x hx;omega⟩
    · have:aT (a::r) e.page=none:=iJ.2 fun x hx=>by
       rcases List.mem_cons.1 hx with rfl | hx
       · exact d
       · have:=hr.2 x hx;omega
      rw[if_neg d,this]
      refine⟨[],a::r,rfl,rfl,by simp,fun x hx=>?_⟩
      rcases List.mem_cons.1 hx with rfl | hx
      · omega
      · have:=hr.2 x hx;omega
theorem K7 {pre post:List En} {e:En} (hp:jU pre) (hq:jU post) (h1:∀x∈pre,x.page<e.page) (h2:∀x∈post,e.page<x.page):jU (pre++e::post):=by
 unfold jU at *
 rw[List.map_append,List.map_cons,List.pairwise_append,List.pairwise_cons]
 refine⟨hp,⟨fun y hy=>?_,hq⟩,fun x hx y hy=>?_⟩
 · obtain⟨z,hz,rfl⟩:=List.mem_map.1 hy
   exact h2 z hz
 · obtain⟨z,hz,rfl⟩:=List.mem_map.1 hx
   rcases List.mem_cons.1 hy with rfl | hy
   · exact h1 z hz
   · obtain⟨u,hu,rfl⟩:=List.mem_map.1 hy
     have:=h1 z hz;have:=h2 u hu;omega
theorem qB {a b:List En} (h:jU (a++b)):jU a/\jU b:=by
 unfold jU at *
 rw[List.map_append,List.pairwise_append] at h
 exact⟨h.1,h.2.1⟩
theorem Cu {es:List En} {e:En} (h:jU es):jU (l6 es e):=by
 obtain⟨pre,post,h1,h2,h3,h4⟩:=m9 (e:=e) h
 rw[h2]
 rw[h1] at h
 exact K7 (qB h).1 (qB (qB h).2).2 h3 h4
def nm (ar:List AM.Ar) (kd a:Int) (es:List En):List (Int×Bool):=(es.filter fun e=>decide (e.kind=kd/\e.loc=a)).map fun e=>(e.page,(AM.aK ar e.page).1.zero)
theorem pE (s:Sp) (kd a:Int):eG s kd a=nm s.aA kd a s.au:=rfl
theorem eZ (ar:List AM.Ar) (kd a:Int) (l r:List En):nm ar kd a (l++r)=nm ar kd a l++nm ar kd a r:=by unfold nm;rw[List.filter_append,List.map_append]
theorem pD (ar:List AM.Ar) (kd a:Int) (e:En) (r:List En):nm ar kd a (e::r)=nm ar kd a [e]++nm ar kd a r:=eZ ar kd a [e] r
theorem kE (ar:List AM.Ar) {kd a:Int} {e:En} (h:e.kind=kd/\e.loc=a):nm ar kd a [e]=[(e.page,(AM.aK ar e.page).1.zero)]:=by simp[nm,h]
theorem jq (ar:List AM.Ar) {kd a:Int} {e:En} (h:¬(e.kind=kd/\e.loc=a)):nm ar kd a [e]=[]:=by
 unfold nm
 rw[List.filter_cons_of_neg (by simpa using h)]
 rfl
theorem Aw {ar:List AM.Ar} {kd a:Int} {es:List En} {x:Int×Bool}:x∈nm ar kd a es↔∃e∈es,e.kind=kd/\e.loc=a/\x=(e.page,(AM.aK ar e.page).1.zero):=lG (s:=⟨true,ar,es⟩)
theorem y9 {ar:List AM.Ar} {kd a:Int} {es:List En} (h:∀e∈es,¬(e.kind=kd/\e.loc=a)):nm ar kd a es=[]:=by
 refine List.eq_nil_iff_forall_not_mem.2 fun x hx=>?_
 obtain⟨e,he,h1,h2,_⟩:=Aw.1 hx
 exact h e he ⟨h1,h2⟩
theorem vO {l:List Sp} {j:Nat} (h:j<l.length):aq l j∈l:=dB h
theorem aQ.sp {k:Kn} (h:aQ k) {j:Nat} (hj:j<k.aj.length):J5 k.ak k.frames.length k.slots.length (aq k.aj j):=h.each _ (vO hj)
theorem fw {ss:List Sp} {j:Nat} (hj:j<ss.length) {e:En} (he:e∈(aq ss j).au):(e.page,(AM.aK (aq ss j).aA e.page).1.zero)∈names ss e.kind e.loc:=ig.2 ⟨_,vO hj,e,he,rfl,rfl,rfl⟩
theorem aQ.frame {k:Kn} (h:aQ k) {i:Nat} {f:Fr} (hf:uQ k.ak (names k.aj 1 i) f):aQ { k with frames:=k.frames.set i f }:=by
 have hl:(k.frames.set i f).length=k.frames.length:=List.length_set
 refine⟨?_,h.dU,by show 0<=k.hand/\k.hand<((k.frames.set i f).length:Int);rw[hl];exact h.hand,?_,h.room,?_,h.slt⟩
 · have:=h.counts
   unfold KM.counts at this ⊢
   simp only[hl]
   exact this
 · show ∀s∈k.aj,J5 k.ak (k.frames.set i f).length k.slots.length s
   rw[hl];exact h.each
 · intro n hn
   have hn':n<k.frames.length:=by rw[<- hl];exact hn
   show uQ k.ak (names k.aj 1 n) ((k.frames.set i f).getD n l9)
   by_cases c:i=n
   · subst c;rw[bw _ _ _ _ hn'];exact hf
   · rw[getD_set_ne _ _ _ _ _ c];exact h.mO n hn'
theorem aQ.turn {k:Kn} (h:aQ k) {x:Int} (hx:0<=x/\x<k.frames.length):aQ { k with hand:=x }:=⟨h.counts,h.dU,hx,h.each,h.room,h.mO,h.slt⟩
theorem uQ.seen {hs:List LM.Sh} {L:List (Int×Bool)} {f:Fr} (h:uQ hs L f) (b:Bool) (hL:L≠[]):uQ hs L { f with seen:=b }:=⟨h.refs,fun e=>absurd e hL,h.one,h.size,h.fill⟩
theorem uQ.ne {hs:List LM.Sh} {L:List (Int×Bool)} {f:Fr} (h:uQ hs L f) (hr:f.refs≠0):L≠[]:=fun e=>hr (by rw[h.refs,e];rfl)
theorem uQ.nil {hs:List LM.Sh} {L:List (Int×Bool)} {f:Fr} (h:uQ hs L f) (hr:f.refs=0):L=[]:=by
 have:=h.refs
 rw[hr] at this
 exact List.eq_nil_of_length_eq_zero (by omega)
theorem DC.nil {L:List (Int×Bool)} {f:Sl} (h:DC L f) (hr:f.refs=0):L=[]:=by
 have:=h.refs
 rw[hr] at this
 exact List.eq_nil_of_length_eq_zero (by omega)
theorem uQ.none (hs:List LM.Sh):uQ hs [] l9:=⟨rfl,fun _=>rfl,by simp,fun h=>absurd rfl h,by simp⟩
theorem DC.none:DC [] xY:=⟨rfl,fun _=>rfl,by simp,fun h=>absurd rfl h⟩
def kK (f:Fr):Fr:=if f.refs-1=0 then l9 else { f with refs:=f.refs-1 }
def nr (f:Sl):Sl:=if f.refs-1=0 then xY else { f with refs:=f.refs-1 }
theorem uQ.less {hs:List LM.Sh} {X Y:List (Int×Bool)} {x:Int×Bool} {f:Fr} (h:uQ hs (X++x::Y) f):uQ hs (X++Y) (kK f):=by
 have hr:=h.refs
 have hn:X++x::Y≠[]:=by simp
 have hm:∀y∈X++Y,y∈X++x::Y:=fun y hy=>by
  rcases List.mem_append.1 hy with g | g
  · exact List.mem_append.2 (.inl g)
  · exact List.mem_append.2 (.inr (List.mem_cons_of_mem _ g))
 rw[List.length_append,List.length_cons] at hr
 unfold kK
 by_cases c:f.refs-1=0
 · rw[if_pos c]
   have:X++Y=[]:=List.eq_nil_of_length_eq_zero (by rw[List.length_append];omega)
   rw[this]
   exact uQ.none hs
 · rw[if_neg c]
   refine⟨?_,fun e=>?_,fun a ha b hb=>h.one a (hm a ha) b (hm b hb),fun _=>h.size hn,fun d y hy=>h.fill d y (hm y hy)⟩
   · show f.refs-1=_
     rw[List.length_append];omega
   · have:=congrArg List.length e
     rw[List.length_append] at this
     simp only[List.length_nil] at this
     omega
theorem DC.less {X Y:List (Int×Bool)} {x:Int×Bool} {f:Sl} (h:DC (X++x::Y) f):DC (X++Y) (nr f):=by
 have hr:=h.refs
 have hn:X++x::Y≠[]:=by simp
 have hm:∀y∈X++Y,y∈X++x::Y:=fun y hy=>by
  rcases List.mem_append.1 hy with g | g
  · exact List.mem_append.2 (.inl g)
  · exact List.mem_append.2 (.inr (List.mem_cons_of_mem _ g))
 rw[List.length_append,List.length_cons] at hr
 unfold nr
 by_cases c:f.refs-1=0
 · rw[if_pos c]
   have:X++Y=[]:=List.eq_nil_of_length_eq_zero (by rw[List.length_append];omega)
   rw[this]
   exact DC.none
 · rw[if_neg c]
   refine⟨?_,fun e=>?_,fun a ha b hb=>h.one a (hm a ha) b (hm b hb),fun _=>h.size hn⟩
   · show f.refs-1=_
     rw[List.length_append];omega
   · have:=congrArg List.length e
     rw[List.length_append] at this
     simp only[List.length_nil] at this
     omega
def iG (i:Int) (e:En):Bool:=decide (e.kind=1/\e.loc=i)
def wN (i:Int) (es:List En):List En:=es.filter fun e=>!iG i e
def fK (i s:Int) (es:List En):List En:=es.map fun e=>if iG i e then ⟨e.page,2,s⟩ else e
def ux (l:List Fr):Option Nat:=l.findIdx? fun f=>decide (f.refs=0)
def qc (l:List Sl):Option Nat:=l.findIdx? fun f=>decide (f.refs=0)
def ni (i:Int) (s:Sp):Sp:={ s with au:=wN i s.au }
def gD (i s:Int) (sp:Sp):Sp:={ sp with au:=fK i s sp.au }
def qi (k:Kn) (i:Nat):Kn:={ k with frames:=k.frames.set i l9,aj:=k.aj.map (ni i) }
def vM (k:Kn) (i s:Nat):Kn:={ k with frames:=k.frames.set i l9,slots:=k.slots.set s ⟨(aD k.frames i).data,(aD k.frames i).refs⟩,aj:=k.aj.map (gD i s) }
def cI (k:Kn) (i:Nat):Kn:=if (aD k.frames i).bW then (match qc k.slots with
 | some s=>vM k i s
 | none=>qi k i) else qi k i
def cK (k:Kn) (j:Nat) (p:Int):ByteArray:=match aT (aq k.aj j).au p with
 | some e=>if e.kind=1 then (aD k.frames e.loc.toNat).data else (bk k.slots e.loc.toNat).data
 | none=>dh k.ak p (AM.aK (aq k.aj j).aA p).1.zero
theorem getD_map {α β:Type} (f:α->β) (d:α) (d':β):∀(l:List α) (i:Nat),i<l.length->(l.map f).getD i d'=f (l.getD i d)
 | a::r,0,_=>rfl
 | a::r,i+1,h=>getD_map f d d' r i (Nat.lt_of_succ_lt_succ h)
theorem gW {i:Int} {e:En}:iG i e=true↔e.kind=1/\e.loc=i:=by simp[iG]
theorem iP {i:Int} {e:En}:iG i e=false↔¬(e.kind=1/\e.loc=i):=by simp[iG]
theorem rH {i:Int} {es:List En} {e:En}:e∈wN i es↔e∈es/\¬(e.kind=1/\e.loc=i):=by
 unfold wN
 rw[List.mem_filter,Bool.not_eq_true',iP]
theorem CB {i:Int} {es:List En} (h:jU es):jU (wN i es):=List.Pairwise.sublist (List.filter_sublist.map _) h
theorem Ec (i s:Int) (es:List En):(fK i s es).map (·.page)=es.map (·.page):=by
 unfold fK
 rw[List.map_map]
 refine List.map_congr_left fun e _=>?_
 show(if iG i e then (⟨e.page,2,s⟩:En) else e).page=e.page
 cases iG i e <;> rfl
theorem yM {i s:Int} {es:List En} (h:jU es):jU (fK i s es):=by unfold jU;rw[Ec];exact h
theorem oJ {i s:Int} {es:List En} {x:En}:x∈fK i s es↔(x∈es/\¬(x.kind=1/\x.loc=i))∨∃e∈es,(e.kind=1/\e.loc=i)/\x=⟨e.page,2,s⟩:=by
 unfold fK
 rw[List.mem_map]
 constructor
 · rintro⟨e,he,rfl⟩
   by_cases c:e.kind=1/\e.loc=i
   · rw[if_pos (gW.2 c)];exact .inr ⟨e,he,c,rfl⟩
   · rw[if_neg (by rw[iP.2 c];simp)];exact .inl ⟨he,c⟩
 · rintro(⟨h,c⟩ | ⟨e,he,c,rfl⟩)
   · exact⟨x,h,by rw[if_neg (by rw[iP.2 c];simp)]⟩
   · exact⟨e,he,by rw[if_pos (gW.2 c)]⟩
theorem uC {α:Type} (p q:α->Bool):∀(l:List α),(∀x∈l,p x=q x)->l.filter p=l.filter q
 | [],_=>rfl
 | a::r,h=>by
  rw[List.filter_cons,List.filter_cons,h a List.mem_cons_self,uC p q r (fun x hx=>h x (List.mem_cons_of_mem _ hx))]
theorem Lu (ar:List AM.Ar) (i kd a:Int) (es:List En) (h:¬(kd=1/\a=i)):nm ar kd a (wN i es)=nm ar kd a es:=by
 unfold nm wN
 rw[List.filter_filter]
 congr 1
 refine uC _ _ _ fun e _=>?_
 by_cases c:e.kind=kd/\e.loc=a
 · have:iG i e=false:=iP.2 (by rw[c.1,c.2];exact h)
   rw[this];simp
 · simp[c]
theorem nK (ar:List AM.Ar) (i:Int) (es:List En):nm ar 1 i (wN i es)=[]:=y9 fun e he=>(rH.1 he).2
theorem Av (ar:List AM.Ar) (i s kd a:Int) (h:¬(kd=1/\a=i)) (h2:¬(kd=2/\a=s)):∀es:List En,nm ar kd a (fK i s es)=nm ar kd a es
 | []=>rfl
 | e::r=>by
  have e1:fK i s (e::r)=(if iG i e then ⟨e.page,2,s⟩ else e)::fK i s r:=rfl
  rw[e1,pD,pD ar kd a e r,Av ar i s kd a h h2 r]
  congr 1
  by_cases c:e.kind=1/\e.loc=i
  · rw[if_pos (gW.2 c),jq ar (fun g=>h2 ⟨g.1.symm,g.2.symm⟩),jq ar (fun g=>h (by rw[<- g.1,<- g.2];exact c))]
  · rw[if_neg (by rw[iP.2 c];simp)]
theorem tZ (ar:List AM.Ar) (i s:Int) (es:List En):nm ar 1 i (fK i s es)=[]:=y9 fun e he g=>by
 rcases oJ.1 he with h | ⟨x,_,_,rfl⟩
 · exact h.2 g
 · have:=g.1;simp at this
theorem wQ (ar:List AM.Ar) (i s:Int):∀es:List En,(∀e∈es,¬(e.kind=2/\e.loc=s))->nm ar 2 s (fK i s es)=nm ar 1 i es
 | [],_=>rfl
 | e::r,h=>by
  have e1:fK i s (e::r)=(if iG i e then ⟨e.page,2,s⟩ else e)::fK i s r:=rfl
  rw[e1,pD,pD ar 1 i e r,wQ ar i s r (fun x hx=>h x (List.mem_cons_of_mem _ hx))]
  congr 1
  by_cases c:e.kind=1/\e.loc=i
  · rw[if_pos (gW.2 c),kE ar (e:=⟨e.page,2,s⟩) (kd:=2) (a:=s) ⟨rfl,rfl⟩,kE ar c]
  · rw[if_neg (by rw[iP.2 c];simp),jq ar (h e List.mem_cons_self),jq ar c]
theorem Co (f:Sp->Sp) (hf:∀s,(f s).aA=s.aA) (l:List Sp):room (l.map f)=room l:=by
 unfold room
 rw[List.length_map]
 refine kR _ _ _ fun i hi=>?_
 unfold aq
 rw[getD_map f DN DN l i hi,hf]
theorem aQ.qi {k:Kn} (h:aQ k) {i:Nat} (hi:i<k.frames.length):aQ (qi k i):=by
 have hl:(k.frames.set i l9).length=k.frames.length:=List.length_set
 have hm:(k.aj.map (ni i)).length=k.aj.length:=List.length_map ..
 refine⟨?_,h.dU,by show 0<=k.hand/\k.hand<((k.frames.set i l9).length:Int);rw[hl];exact h.hand,?_,?_,?_,?_⟩
 · have:=h.counts
   unfold KM.counts at this ⊢
   simp only[KM.qi,hl,hm]
   exact this
 · show ∀s∈k.aj.map (ni i),J5 k.ak (k.frames.set i l9).length k.slots.length s
   rw[hl]
   intro s hs
   obtain⟨s,Zh,rfl⟩:=List.mem_map.1 hs
   have g:=h.each s Zh
   exact⟨fun d=>⟨(g.dead d).1,by show wN i s.au=[];rw[(g.dead d).2];rfl⟩,g.aA,CB g.dU,fun e he=>g.tH e (rH.1 he).1,g.ak⟩
 · show KM.room (k.aj.map (ni i))<=_
   rw[Co (ni i) (fun _=>rfl)];exact h.room
 · intro n hn
   have hn':n<k.frames.length:=by rw[<- hl];exact hn
   show uQ k.ak (names (k.aj.map (ni i)) 1 n) ((k.frames.set i l9).getD n l9)
   by_cases c:i=n
   · subst c
     rw[bw _ _ _ _ hn',iW (ni i) 1 i _ (fun s _=>nK s.aA i s.au)]
     exact uQ.none _
   · rw[getD_set_ne _ _ _ _ _ c,kW (ni i) 1 n 1 n _ (fun s _=>Lu s.aA i 1 n s.au (by omega))]
     exact h.mO n hn'
 · intro n hn
   show DC (names (k.aj.map (ni i)) 2 n) (bk k.slots n)
   rw[kW (ni i) 2 n 2 n _ (fun s _=>Lu s.aA i 2 n s.au (by omega))]
   exact h.slt n hn
theorem aQ.vM {k:Kn} (h:aQ k) {i s:Nat} (hi:i<k.frames.length) (hs:s<k.slots.length) (hf:names k.aj 2 s=[]):aQ (vM k i s):=by
 have hl:(k.frames.set i l9).length=k.frames.length:=List.length_set
 have hl2:(k.slots.set s ⟨(aD k.frames i).data,(aD k.frames i).refs⟩).length=k.slots.length:=List.length_set
 have hm:(k.aj.map (gD i s)).length=k.aj.length:=List.length_map ..
 have hno:∀sp∈k.aj,∀e∈sp.au,¬(e.kind=2/\e.loc=(s:Int)):=fun sp hsp e he g=>by
  have:(e.page,(AM.aK sp.aA e.page).1.zero)∈names k.aj 2 s:=ig.2 ⟨sp,hsp,e,he,g.1,g.2,rfl⟩
  rw[hf] at this
  cases this
 refine⟨?_,h.dU,by show 0<=k.hand/\k.hand<((k.frames.set i l9).length:Int);rw[hl];exact h.hand,?_,?_,?_,?_⟩
 · have:=h.counts
   unfold KM.counts at this ⊢
   simp only[KM.vM,hl,hl2,hm]
   exact this
 · show ∀sp∈k.aj.map (gD i s),J5 k.ak (k.frames.set i l9).length (k.slots.set s ⟨(aD k.frames i).data,(aD k.frames i).refs⟩).length sp
   rw[hl,hl2]
   intro sp hsp
   obtain⟨sp,Zh,rfl⟩:=List.mem_map.1 hsp
   have g:=h.each sp Zh
   refine⟨fun d=>⟨(g.dead d).1,by show fK i s sp.au=[];rw[(g.dead d).2];rfl⟩,g.aA,yM g.dU,fun e he=>?_,g.ak⟩
   rcases oJ.1 he with x | ⟨x,hx,hc,rfl⟩
   · exact g.tH e x.1
   · exact⟨(g.tH x hx).1,.inr ⟨rfl,by show(0:Int)<=(s:Int);omega,by show(s:Int)<_;omega⟩⟩
 · show KM.room (k.aj.map (gD i s))<=((k.slots.set s ⟨(aD k.frames i).data,(aD k.frames i).refs⟩).length:Int)
   rw[hl2,Co (gD i s) (fun _=>rfl)];exact h.room
 · intro n hn
   have hn':n<k.frames.length:=by rw[<- hl];exact hn
   show uQ k.ak (names (k.aj.map (gD i s)) 1 n) ((k.frames.set i l9).getD n l9)
   by_cases c:i=n
   · subst c
     rw[bw _ _ _ _ hn',iW (gD i s) 1 i _ (fun sp _=>tZ sp.aA i s sp.au)]
     exact uQ.none _
   · rw[getD_set_ne _ _ _ _ _ c,kW (gD i s) 1 n 1 n _ (fun sp _=>Av sp.aA i s 1 n (by omega) (by omega) sp.au)]
     exact h.mO n hn'
 · intro n hn
   have hn':n<k.slots.length:=by rw[<- hl2];exact hn
   show DC (names (k.aj.map (gD i s)) 2 n) ((k.slots.set s ⟨(aD k.frames i).data,(aD k.frames i).refs⟩).getD n xY)
   by_cases c:s=n
   · subst c
     rw[bw _ _ _ _ hn',kW (gD i s) 2 s 1 i _ (fun sp hsp=>wQ sp.aA i s sp.au (hno sp hsp))]
     have g:=h.mO i hi
     exact⟨g.refs,fun e=>by rw[g.zero e];rfl,g.one,g.size⟩
   · rw[getD_set_ne _ _ _ _ _ c,kW (gD i s) 2 n 2 n _ (fun sp _=>Av sp.aA i s 2 n (by omega) (by omega) sp.au)]
     exact h.slt n hn'
theorem sW:∀(n:Nat) (L:List Int),(∀i:Nat,i<n->(i:Int)∈L)->n<=L.length
 | 0,_,_=>Nat.zero_le _
 | n+1,L,h=>by
  have hn:=h n (Nat.lt_succ_self n)
  have:=sW n (L.erase (n:Int)) (fun i hi=>(List.mem_erase_of_ne (by omega)).2 (h i (by omega)))
  rw[List.length_erase_of_mem hn] at this
  have:0<L.length:=List.length_pos_of_mem hn
  omega
def qV (ss:List Sp):List En:=ss.flatMap (·.au)
theorem lO {hs:List LM.Sh} {nf ns:Nat} {s:Sp} (g:J5 hs nf ns s):(s.au.length:Int)<=AM.cD s.aA:=by
 rw[FM.BQ g.aA]
 have:=FM.sN (FM.dD s.aA) (s.au.map (·.page)) g.dU (FM.Nb g.aA).sorted (fun x hx=>by
  obtain⟨e,he,rfl⟩:=List.mem_map.1 hx
  exact(FM.Jm g.aA _).1 (g.tH e he).1)
 rw[List.length_map] at this
 omega
theorem yh (l r:List Sp):∀k,k<=l.length->fA (l++r) k=fA l k:=fun k hk=>kR _ _ _ fun i hi=>by
 unfold aq
 rw[List.getD_eq_getElem?_getD,List.getD_eq_getElem?_getD,List.getElem?_append_left (by omega)]
theorem Iq (l:List Sp) (s:Sp):room (l++[s])=room l+AM.cD s.aA:=by
 unfold room
 rw[List.length_append,List.length_singleton,fA,yh l [s] l.length (Nat.le_refl _)]
 unfold aq
 rw[List.getD_eq_getElem?_getD,List.getElem?_append_right (Nat.le_refl _),Nat.sub_self]
 rfl
theorem xO:∀(m:Nat) (l:List Sp),l.length=m->(∀s∈l,(s.au.length:Int)<=AM.cD s.aA)->((qV l).length:Int)<=room l
 | 0,l,h,_=>by
  have:l=[]:=List.eq_nil_of_length_eq_zero h
  subst this
  exact Int.le_refl _
 | m+1,l,h,hs=>by
  have hne:l≠[]:=fun e=>by rw[e] at h;cases h
  obtain⟨l',s,rfl⟩:∃l' s,l=l'++[s]:=⟨l.dropLast,l.getLast hne,(List.dropLast_concat_getLast hne).symm⟩
  rw[Iq]
  have:=xO m l' (by rw[List.length_append,List.length_singleton] at h;omega) (fun x hx=>hs x (List.mem_append.2 (.inl hx)))
  have h2:=hs s (by simp)
  unfold qV at *
  rw[List.flatMap_append,List.length_append]
  simp only[List.flatMap_cons,List.flatMap_nil,List.append_nil]
  omega
theorem aQ.slot {k:Kn} (h:aQ k) {i:Nat} (hi:i<k.frames.length) (hr:(aD k.frames i).refs≠0):∃s,qc k.slots=some s/\s<k.slots.length/\names k.aj 2 s=[]:=by
 cases hf:qc k.slots with
 | some s =>
  obtain⟨h1,h2,_⟩:=List.findIdx?_eq_some_iff_getElem.1 hf
  refine⟨s,rfl,h1,(h.slt s h1).nil ?_⟩
  unfold bk
  rw[List.getD_eq_getElem?_getD,List.getElem?_eq_getElem h1]
  exact of_decide_eq_true h2
 | none =>
  exfalso
  have hno:=List.findIdx?_eq_none_iff.1 hf
  have hall:∀n:Nat,n<k.slots.length->∃e∈qV k.aj,e.kind=2/\e.loc=(n:Int):=fun n hn=>by
   have h1:=hno (bk k.slots n) (dB hn)
   have h2:=(h.slt n hn).refs
   have h3:names k.aj 2 n≠[]:=fun e=>by
    rw[e] at h2
    simp[h2] at h1
   obtain⟨x,hx⟩:=List.exists_mem_of_ne_nil _ h3
   obtain⟨s,hs,e,he,g1,g2,_⟩:=ig.1 hx
   exact⟨e,List.mem_flatMap.2 ⟨s,hs,he⟩,g1,g2⟩
  have hp:=sW k.slots.length (((qV k.aj).filter fun e:En=>decide (e.kind=2)).map (·.loc)) (fun n hn=>by
   obtain⟨e,he,g1,g2⟩:=hall n hn
   exact List.mem_map.2 ⟨e,List.mem_filter.2 ⟨he,by simpa using g1⟩,g2⟩)
  rw[List.length_map] at hp
  have hroom:=xO _ k.aj rfl (fun s hs=>lO (h.each s hs))
  have hr2:=h.room
  obtain⟨x,hx⟩:=List.exists_mem_of_ne_nil _ ((h.mO i hi).ne hr)
  obtain⟨s,hs,e,he,g1,g2,_⟩:=ig.1 hx
  have hea:e∈qV k.aj:=List.mem_flatMap.2 ⟨s,hs,he⟩
  have hlt:((qV k.aj).filter fun e:En=>decide (e.kind=2)).length<(qV k.aj).length:=by
   rcases Nat.lt_or_eq_of_le (List.length_filter_le (fun e:En=>decide (e.kind=2)) (qV k.aj)) with g | g
   · exact g
   · have:=(List.length_filter_eq_length_iff.1 g) e hea
     simp[g1] at this
  omega
theorem aQ.aside {k:Kn} (h:aQ k) {i:Nat} (hi:i<k.frames.length) (hr:(aD k.frames i).refs≠0):aQ (cI k i):=by
 unfold cI
 by_cases c:(aD k.frames i).bW=true
 · rw[if_pos c]
   obtain⟨s,h1,h2,h3⟩:=h.slot hi hr
   rw[h1]
   exact h.vM hi h2 h3
 · rw[if_neg c]
   exact h.qi hi
def dI (s:Sp) (es:List En):Sp:=⟨s.live,s.aA,es⟩
def cA (k:Kn) (e:En):Kn:=if e.kind=1 then { k with frames:=k.frames.set e.loc.toNat (kK (aD k.frames e.loc.toNat)) } else { k with slots:=k.slots.set e.loc.toNat (nr (bk k.slots e.loc.toNat)) }
def dJ (k:Kn) (j:Nat) (e:En):Kn:={ k with aj:=k.aj.set j (dI (aq k.aj j) (l6 (aq k.aj j).au e)) }
def iF (k:Kn) (i:Nat) (d:ByteArray) (dy:Bool):Kn:={ k with frames:=k.frames.set i ⟨d,1,dy,false⟩ }
def cJ (k:Kn) (j:Nat) (p:Int) (i:Nat) (d:ByteArray) (dy:Bool):Kn:=match aT (aq k.aj j).au p with
 | none=>dJ (iF k i d dy) j ⟨p,1,i⟩
 | some e=>cA (dJ (iF k i d dy) j ⟨p,1,i⟩) e
theorem wR {ss:List Sp} {j:Nat} (hj:j<ss.length) (e:En) (hr:jU (aq ss j).au) (kd a:Int):∃X Y,names ss kd a=X++(nm (aq ss j).aA kd a (aT (aq ss j).au e.page).toList++Y)/\names (ss.set j (dI (aq ss j) (l6 (aq ss j).au e))) kd a=X++(nm (aq ss j).aA kd a [e]++Y):=by
 obtain⟨pre,post,h1,h2,_,_⟩:=m9 (e:=e) hr
 obtain⟨u,v,g1,g2⟩:=sY ss j (dI (aq ss j) (l6 (aq ss j).au e)) kd a hj
 refine⟨u++nm (aq ss j).aA kd a pre,nm (aq ss j).aA kd a post++v,?_,?_⟩
 · rw[g1,pE]
   conv=>lhs;rw[h1]
   rw[eZ,eZ]
   simp only[List.append_assoc]
 · rw[g2,pE]
   show u++(nm (aq ss j).aA kd a (l6 (aq ss j).au e)++v)=_
   rw[h2,eZ,pD]
   simp only[List.append_assoc]
theorem Gq {es:List En} (h:jU es) (e:En) (p:Int):aT (l6 es e) p=if p=e.page then some e else aT es p:=by
 have hp:=Cu (e:=e) h
 obtain⟨pre,post,h1,h2,h3,h4⟩:=m9 (e:=e) h
 by_cases c:p=e.page
 · rw[if_pos c,di hp,h2]
   exact⟨by simp,c.symm⟩
 · rw[if_neg c]
   cases g:aT es p with
   | none =>
    rw[iJ] at g ⊢
    intro x hx
    rw[h2] at hx
    rcases List.mem_append.1 hx with y | y
    · exact g x (by rw[h1];exact List.mem_append.2 (.inl y))
    · rcases List.mem_cons.1 y with rfl | y
      · exact fun e=>c e.symm
      · exact g x (by rw[h1];exact List.mem_append.2 (.inr (List.mem_append.2 (.inr y))))
   | some x =>
    obtain⟨m1,m2⟩:=(di h).1 g
    rw[di hp,h2]
    refine⟨?_,m2⟩
    rw[h1] at m1
    rcases List.mem_append.1 m1 with y | y
    · exact List.mem_append.2 (.inl y)
    · rcases List.mem_append.1 y with z | z
      · have:aT es e.page=some x:=by
         cases q:aT es e.page with
         | none=>rw[q] at z;cases z
         | some y=>rw[q] at z;simp at z;rw[z]
        exact absurd (m2.symm.trans ((di h).1 this).2) c
      · exact List.mem_append.2 (.inr (List.mem_cons_of_mem _ z))
theorem fZ (l:List Sp) (j n:Nat) (s:Sp) (hj:j<l.length):aq (l.set j s) n=if j=n then s else aq l n:=by
 unfold aq
 by_cases c:j=n
 · subst c;rw[if_pos rfl,bw _ _ _ _ hj]
 · rw[if_neg c,getD_set_ne _ _ _ _ _ c]
theorem dZ (l:List Fr) (j n:Nat) (s:Fr) (hj:j<l.length):aD (l.set j s) n=if j=n then s else aD l n:=by
 unfold aD
 by_cases c:j=n
 · subst c;rw[if_pos rfl,bw _ _ _ _ hj]
 · rw[if_neg c,getD_set_ne _ _ _ _ _ c]
theorem mZ (l:List Sl) (j n:Nat) (s:Sl) (hj:j<l.length):bk (l.set j s) n=if j=n then s else bk l n:=by
 unfold bk
 by_cases c:j=n
 · subst c;rw[if_pos rfl,bw _ _ _ _ hj]
 · rw[if_neg c,getD_set_ne _ _ _ _ _ c]
theorem Cn (l:List Sp) (j:Nat) (s:Sp) (hj:j<l.length) (ha:s.aA=(aq l j).aA):room (l.set j s)=room l:=by
 unfold room
 rw[List.length_set]
 refine kR _ _ _ fun i _=>?_
 rw[fZ l j i s hj]
 by_cases c:j=i
 · rw[if_pos c,ha,c]
 · rw[if_neg c]
structure j6 (k:Kn) (j:Nat) (p:Int) (i:Nat) (d:ByteArray) (dy:Bool):Prop where
 right:aQ k
 hj:j<k.aj.length
 hp:(AM.aK (aq k.aj j).aA p).2=true
 hi:i<k.frames.length
 free:names k.aj 1 i=[]
 size:d.size=16
 fill:dy=false->d=dh k.ak p (AM.aK (aq k.aj j).aA p).1.zero
theorem fE {k:Kn} (h:aQ k) {j:Nat} (hj:j<k.aj.length) {e:En} (he:e∈(aq k.aj j).au):(e.kind=1/\(e.loc.toNat:Int)=e.loc/\e.loc.toNat<k.frames.length)∨(e.kind=2/\(e.loc.toNat:Int)=e.loc/\e.loc.toNat<k.slots.length):=by
 rcases((h.sp hj).tH e he).2 with g | g
 · exact .inl ⟨g.1,by omega,by omega⟩
 · exact .inr ⟨g.1,by omega,by omega⟩
theorem gV (k:Kn) (j:Nat) (p:Int) (i:Nat) (d:ByteArray) (dy:Bool) (m:j6 k j p i d dy):(cJ k j p i d dy).frames.length=k.frames.length/\(cJ k j p i d dy).slots.length=k.slots.length/\(cJ k j p i d dy).ak=k.ak/\(cJ k j p i d dy).hand=k.hand/\(cJ k j p i d dy).aj=k.aj.set j (dI (aq k.aj j) (l6 (aq k.aj j).au ⟨p,1,i⟩)) /\
  (∀n,aD (cJ k j p i d dy).frames n=if n=i then ⟨d,1,dy,false⟩ else match aT (aq k.aj j).au p with
   | some e=>if e.kind=1/\e.loc=(n:Int) then kK (aD k.frames n) else aD k.frames n
   | none=>aD k.frames n) /\
  (∀n,bk (cJ k j p i d dy).slots n=match aT (aq k.aj j).au p with
   | some e=>if e.kind=2/\e.loc=(n:Int) then nr (bk k.slots n) else bk k.slots n
   | none=>bk k.slots n):=by
 have hr:=(m.right.sp m.hj).dU
 unfold cJ
 cases g:aT (aq k.aj j).au p with
 | none =>
  refine⟨List.length_set,rfl,rfl,rfl,rfl,fun n=>?_,fun n=>rfl⟩
  show aD (k.frames.set i _) n=_
  rw[dZ _ _ _ _ m.hi]
  by_cases c:n=i
  · rw[if_pos c,if_pos c.symm]
  · rw[if_neg c,if_neg (fun e=>c e.symm)]
 | some e =>
  have he:=(di hr).1 g
  have hne:e.kind=1->e.loc.toNat≠i:=fun h1 h2=>by
   have:=fw m.hj he.1
   rcases fE m.right m.hj he.1 with b | b
   · rw[h1,<- b.2.1,h2,m.free] at this;cases this
   · omega
  dsimp only
  unfold cA
  rcases fE m.right m.hj he.1 with b | b
  · rw[if_pos b.1]
    have hne:=hne b.1
    refine⟨by show((k.frames.set i _).set _ _).length=_;rw[List.length_set,List.length_set],rfl,rfl,rfl,rfl,fun n=>?_,fun n=>?_⟩
    · show aD ((k.frames.set i _).set _ (kK (aD (k.frames.set i _) _))) n=_
      rw[dZ _ _ _ _ (by rw[List.length_set];exact b.2.2),dZ _ _ n _ m.hi,dZ _ _ e.loc.toNat _ m.hi,if_neg (show ¬i=e.loc.toNat from fun e=>hne e.symm)]
      by_cases c:n=i
      · rw[if_neg (by omega),if_pos c.symm,if_pos c]
      · rw[if_neg c,if_neg (show ¬i=n from fun e=>c e.symm)]
        by_cases c2:e.loc.toNat=n
        · rw[if_pos c2]
          show _=if e.kind=1/\e.loc=(n:Int) then _ else _
          rw[if_pos ⟨b.1,by omega⟩,c2]
        · rw[if_neg c2]
          show _=if e.kind=1/\e.loc=(n:Int) then _ else _
          rw[if_neg (by omega)]
    · show bk k.slots n=if e.kind=2/\e.loc=(n:Int) then _ else _
      rw[if_neg (by omega)]
  · rw[if_neg (by omega)]
    refine⟨List.length_set,List.length_set,rfl,rfl,rfl,fun n=>?_,fun n=>?_⟩
    · show aD (k.frames.set i _) n=if n=i then _ else if e.kind=1/\e.loc=(n:Int) then _ else _
      rw[dZ _ _ _ _ m.hi,if_neg (show ¬(e.kind=1/\e.loc=(n:Int)) by omega)]
      by_cases c:n=i
      · rw[if_pos c,if_pos c.symm]
      · rw[if_neg c,if_neg (fun e=>c e.symm)]
    · show bk (k.slots.set _ (nr (bk k.slots _))) n=if e.kind=2/\e.loc=(n:Int) then _ else _
      rw[mZ _ _ _ _ b.2.2]
      by_cases c2:e.loc.toNat=n
      · rw[if_pos c2,if_pos ⟨b.1,by omega⟩,c2]
      · rw[if_neg c2,if_neg (by omega)]
theorem nM {k:Kn} {j:Nat} {p:Int} {i:Nat} {d:ByteArray} {dy:Bool} (m:j6 k j p i d dy):aQ (cJ k j p i d dy):=by
 have h:=m.right
 have hsp:=h.sp m.hj
 obtain⟨f1,f2,f3,f4,f5,f6,f7⟩:=gV k j p i d dy m
 have hlen:(cJ k j p i d dy).aj.length=k.aj.length:=by rw[f5,List.length_set]
 refine⟨?_,by rw[f3];exact h.dU,by rw[f4,f1];exact h.hand,?_,?_,?_,?_⟩
 · have:=h.counts
   unfold KM.counts at this ⊢
   rw[f1,f2,f3,hlen]
   exact this
 · rw[f1,f2,f3,f5]
   intro s hs
   rcases List.mem_or_eq_of_mem_set hs with g | rfl
   · exact h.each s g
   · refine⟨fun dd=>?_,hsp.aA,Cu hsp.dU,fun e he=>?_,hsp.ak⟩
     · have:=m.hp
       rw[(hsp.dead dd).1] at this
       cases this
     · obtain⟨pre,post,h1,h2,_,_⟩:=m9 (e:=(⟨p,1,i⟩:En)) hsp.dU
       rw[show(dI (aq k.aj j) (l6 (aq k.aj j).au ⟨p,1,i⟩)).au=pre++⟨p,1,i⟩::post from h2] at he
       have hin:∀x,x∈pre∨x∈post->x∈(aq k.aj j).au:=fun x hx=>by
        rw[h1]
        rcases hx with g | g
        · exact List.mem_append.2 (.inl g)
        · exact List.mem_append.2 (.inr (List.mem_append.2 (.inr g)))
       rcases List.mem_append.1 he with g | g
       · exact hsp.tH e (hin e (.inl g))
       · rcases List.mem_cons.1 g with rfl | g
         · exact⟨m.hp,.inl ⟨rfl,by show(0:Int)<=(i:Int);omega,by show(i:Int)<_;have:=m.hi;omega⟩⟩
         · exact hsp.tH e (hin e (.inr g))
 · rw[f2,f5,Cn _ _ (dI (aq k.aj j) (l6 (aq k.aj j).au ⟨p,1,i⟩)) m.hj rfl];exact h.room
 · intro n hn
   rw[f1] at hn
   rw[f3,f5,f6]
   obtain⟨X,Y,h1,h2⟩:=wR m.hj ⟨p,1,i⟩ hsp.dU 1 n
   rw[h2]
   by_cases c:n=i
   · subst c
     rw[if_pos rfl,kE _ (e:=(⟨p,1,n⟩:En)) ⟨rfl,rfl⟩]
     rw[m.free] at h1
     have hX:X=[]:=(List.append_eq_nil_iff.1 h1.symm).1
     have hY:Y=[]:=(List.append_eq_nil_iff.1 (List.append_eq_nil_iff.1 h1.symm).2).2
     subst hX hY
     refine⟨rfl,fun e=>(by cases e),fun x hx y hy=>?_,fun _=>m.size,fun e x hx=>?_⟩
     · simp at hx hy;rw[hx,hy]
     · simp at hx;rw[hx];exact m.fill e
   · rw[if_neg c,jq _ (e:=(⟨p,1,i⟩:En)) (fun g=>c (by have:=g.2;simp at this;omega))]
     have hf:=h.mO n hn
     rw[h1] at hf
     cases g:aT (aq k.aj j).au p with
     | none =>
      rw[g] at hf
      exact hf
     | some e =>
      rw[g] at hf
      show uQ k.ak (X++([]++Y)) (if e.kind=1/\e.loc=(n:Int) then kK (aD k.frames n) else aD k.frames n)
      rw[List.nil_append]
      by_cases c2:e.kind=1/\e.loc=(n:Int)
      · rw[if_pos c2]
        rw[show(some e).toList=[e] from rfl,kE _ c2] at hf
        exact hf.less
      · rw[if_neg c2]
        rw[show(some e).toList=[e] from rfl,jq _ c2] at hf
        exact hf
 · intro n hn
   rw[f2] at hn
   rw[f5,f7]
   obtain⟨X,Y,h1,h2⟩:=wR m.hj ⟨p,1,i⟩ hsp.dU 2 n
   rw[h2,jq _ (e:=(⟨p,1,i⟩:En)) (fun g=>by have:=g.1;simp at this)]
   have hf:=h.slt n hn
   rw[h1] at hf
   cases g:aT (aq k.aj j).au p with
   | none =>
    rw[g] at hf
    exact hf
   | some e =>
    rw[g] at hf
    show DC (X++([]++Y)) (if e.kind=2/\e.loc=(n:Int) then nr (bk k.slots n) else bk k.slots n)
    rw[List.nil_append]
    by_cases c2:e.kind=2/\e.loc=(n:Int)
    · rw[if_pos c2]
      rw[show(some e).toList=[e] from rfl,kE _ c2] at hf
      exact hf.less
    · rw[if_neg c2]
      rw[show(some e).toList=[e] from rfl,jq _ c2] at hf
      exact hf
end KM
end Go.Proofs.YtpgifpeohlllfaaGreat
