import Derived.Test.YtpgifpeohlllfaaGreatGS00
import Derived.Test.YtpgifpeohlllfaaGreatGS03
set_option maxHeartbeats 20000000
set_option linter.unusedVariables false
set_option maxRecDepth 100000
set_option linter.unusedSimpArgs false
namespace Go.Proofs.YtpgifpeohlllfaaGreat
namespace KM
open Go.RowKit
structure Fr where
 data:ByteArray
 refs:Int
 b9:Bool
 seen:Bool
structure Sl where
 data:ByteArray
 refs:Int
structure En where
 page:Int
 kind:Int
 loc:Int
structure Sp where
 live:Bool
 aD:List AM.Ar
 aA:List En
structure Kn where
 ak:List LM.Sh
 frames:List Fr
 slots:List Sl
 aj:List Sp
 hand:Int
def kY:Fr:=⟨⟨#[]⟩,0,false,false⟩
def sS:Sl:=⟨⟨#[]⟩,0⟩
def jI:En:=⟨0,0,0⟩
def Fw:Sp:=⟨false,[],[]⟩
def aI (l:List Fr) (i:Nat):Fr:=l.getD i kY
def bG (l:List Sl) (i:Nat):Sl:=l.getD i sS
def aN (l:List En) (i:Nat):En:=l.getD i jI
def au (l:List Sp) (i:Nat):Sp:=l.getD i Fw
theorem dX {α:Type} {d:α}:∀{l:List α} {i:Nat},i<l.length->l.getD i d∈l
 | [],i,h=>absurd h (Nat.not_lt_zero _)
 | a::r,0,h=>List.mem_cons_self
 | a::r,i+1,h=>List.mem_cons_of_mem _ (dX (l:=r) (Nat.lt_of_succ_lt_succ h))
theorem eZ {α:Type} (d:α):∀{l:List α} {x:α},x∈l->∃i,i<l.length/\l.getD i d=x
 | a::r,x,h=>by
  rcases List.mem_cons.1 h with rfl | h
  · exact⟨0,Nat.zero_lt_succ _,rfl⟩
  · obtain⟨i,hi,e⟩:=eZ d h
    exact⟨i+1,Nat.succ_lt_succ hi,e⟩
theorem bK {α:Type} (d x:α):∀(l:List α) (i:Nat),i<l.length->(l.set i x).getD i d=x
 | a::r,0,_=>rfl
 | a::r,i+1,h=>bK d x r i (Nat.lt_of_succ_lt_succ h)
theorem getD_set_ne {α:Type} (d x:α):∀(l:List α) (i j:Nat),i≠j->(l.set i x).getD j d=l.getD j d
 | [],_,_,_=>rfl
 | a::r,0,0,h=>absurd rfl h
 | a::r,0,j+1,_=>rfl
 | a::r,i+1,0,_=>rfl
 | a::r,i+1,j+1,h=>getD_set_ne d x r i j (fun e=>h (by rw[e]))
def fq (s:Sp) (kd at_:Int):List (Int×Bool):=(s.aA.filter fun e=>decide (e.kind=kd/\e.loc=at_)).map fun e=>(e.page,(AM.aT s.aD e.page).1.zero)
def names (ss:List Sp) (kd at_:Int):List (Int×Bool):=ss.flatMap fun s=>fq s kd at_
def bU (hs:List LM.Sh) (p:Int):Option LM.Sh:=hs.find? fun s=>decide (s.page=p)
def filled (hs:List LM.Sh) (p:Int):ByteArray:=match bU hs p with
 | some s=>LM.mA s
 | none=>⟨#[]⟩
def pH:ByteArray:=⟨#[0,0,0,0,0,0,0,0,0,0,0,0,0,0,0,0]⟩
def dY (hs:List LM.Sh) (p:Int) (z:Bool):ByteArray:=if z then pH else filled hs p
def pY (nf ns:Nat) (ar:List AM.Ar) (e:En):Prop:=(AM.aT ar e.page).2=true/\((e.kind=1/\0<=e.loc/\e.loc<nf)∨(e.kind=2/\0<=e.loc/\e.loc<ns))
structure Mc (hs:List LM.Sh) (nf ns:Nat) (s:Sp):Prop where
 dead:s.live=false->s.aD=[]/\s.aA=[]
 aD:AM.aR s.aD=0
 eN:(s.aA.map (·.page)).Pairwise (·<·)
 vW:∀e∈s.aA,pY nf ns s.aD e
 ak:∀p,(AM.aT s.aD p).2=true->(AM.aT s.aD p).1.zero=false->(bU hs p).isSome=true
structure wj (hs:List LM.Sh) (L:List (Int×Bool)) (f:Fr):Prop where
 refs:f.refs=L.length
 zero:L=[]->f=kY
 one:∀x∈L,∀y∈L,x=y
 size:L≠[]->f.data.size=16
 fill:f.b9=false->∀x∈L,f.data=dY hs x.1 x.2
structure Fh (L:List (Int×Bool)) (s:Sl):Prop where
 refs:s.refs=L.length
 zero:L=[]->s=sS
 one:∀x∈L,∀y∈L,x=y
 size:L≠[]->s.data.size=16
def fQ (l:List Sp):Nat->Int
 | 0=>0
 | k+1=>fQ l k+AM.cm (au l k).aD
def room (l:List Sp):Int:=fQ l l.length
def counts (k:Kn):Bool:=decide ((3<=k.frames.length/\k.frames.length<=64)/\k.slots.length<=512/\(1<=k.aj.length/\k.aj.length<=4)/\k.ak.length<=255)
structure aU (k:Kn):Prop where
 counts:counts k=true
 eN:LM.cV k.ak=true
 hand:0<=k.hand/\k.hand<k.frames.length
 each:∀s∈k.aj,Mc k.ak k.frames.length k.slots.length s
 room:room k.aj<=k.slots.length
 nz:∀i:Nat,i<k.frames.length->wj k.ak (names k.aj 1 i) (aI k.frames i)
 slt:∀i:Nat,i<k.slots.length->Fh (names k.aj 2 i) (bG k.slots i)
theorem aU.c {k:Kn} (h:aU k):(3<=k.frames.length/\k.frames.length<=64)/\k.slots.length<=512/\(1<=k.aj.length/\k.aj.length<=4)/\k.ak.length<=255:=of_decide_eq_true h.counts
theorem Kc (kd a:Int):names [] kd a=[]:=rfl
theorem fT (s:Sp) (r:List Sp) (kd a:Int):names (s::r) kd a=fq s kd a++names r kd a:=List.flatMap_cons
theorem Cx (l r:List Sp) (kd a:Int):names (l++r) kd a=names l kd a++names r kd a:=List.flatMap_append
theorem mq {s:Sp} {kd a:Int} {x:Int×Bool}:x∈fq s kd a↔∃e∈s.aA,e.kind=kd/\e.loc=a/\x=(e.page,(AM.aT s.aD e.page).1.zero):=by
 unfold fq
 simp only[List.mem_map,List.mem_filter,decide_eq_true_eq]
 exact⟨fun ⟨e,⟨h1,h2,h3⟩,h4⟩=>⟨e,h1,h2,h3,h4.symm⟩,fun ⟨e,h1,h2,h3,h4⟩=>⟨e,⟨h1,h2,h3⟩,h4.symm⟩⟩
theorem iL {ss:List Sp} {kd a:Int} {x:Int×Bool}:x∈names ss kd a↔∃s∈ss,∃e∈s.aA,e.kind=kd/\e.loc=a/\x=(e.page,(AM.aT s.aD e.page).1.zero):=by
 unfold names
 rw[List.mem_flatMap]
 exact⟨fun ⟨s,hs,h⟩=>⟨s,hs,mq.1 h⟩,fun ⟨s,hs,h⟩=>⟨s,hs,mq.2 h⟩⟩
theorem uu:∀(l:List Sp) (j:Nat) (s:Sp) (kd a:Int),j<l.length->∃u v,names l kd a=u++(fq (au l j) kd a++v)/\names (l.set j s) kd a=u++(fq s kd a++v)
 | x::r,0,s,kd,a,_=>⟨[],names r kd a,fT x r kd a,fT s r kd a⟩
 | x::r,j+1,s,kd,a,h=>by
  obtain⟨u,v,h1,h2⟩:=uu r j s kd a (Nat.lt_of_succ_lt_succ h)
  refine⟨fq x kd a++u,v,?_,?_⟩
  · rw[fT,h1,List.append_assoc];rfl
  · rw[List.set_cons_succ,fT,h2,List.append_assoc]
theorem lW (f:Sp->Sp) (kd a:Int) (kd' a':Int):∀(l:List Sp),(∀s∈l,fq (f s) kd a=fq s kd' a')->names (l.map f) kd a=names l kd' a'
 | [],_=>rfl
 | x::r,h=>by
  rw[List.map_cons,fT,fT,h x List.mem_cons_self,lW f kd a kd' a' r (fun s hs=>h s (List.mem_cons_of_mem _ hs))]
theorem ju (f:Sp->Sp) (kd a:Int):∀(l:List Sp),(∀s∈l,fq (f s) kd a=[])->names (l.map f) kd a=[]
 | [],_=>rfl
 | x::r,h=>by
  rw[List.map_cons,fT,h x List.mem_cons_self,ju f kd a r (fun s hs=>h s (List.mem_cons_of_mem _ hs))];rfl
theorem lN (l m:List Sp):∀k,(∀i,i<k->(au l i).aD=(au m i).aD)->fQ l k=fQ m k
 | 0,_=>rfl
 | k+1,h=>by rw[fQ,fQ,lN l m k (fun i hi=>h i (Nat.lt_succ_of_lt hi)),h k (Nat.lt_succ_self k)]
def kI (es:List En):Prop:=(es.map (·.page)).Pairwise (·<·)
def bc (es:List En) (p:Int):Option En:=es.find? fun e=>decide (e.page=p)
theorem AG {a:En} {r:List En} (h:kI (a::r)):kI r/\∀e∈r,a.page<e.page:=by
 have:=List.pairwise_cons.1 h
 exact⟨this.2,fun e he=>this.1 _ (List.mem_map_of_mem he)⟩
theorem dH:∀{es:List En} {p:Int} {e:En},kI es->(bc es p=some e↔e∈es/\e.page=p)
 | [],p,e,_=>by simp[bc]
 | a::r,p,e,h=>by
  have hr:=AG h
  by_cases c:a.page=p
  · have:bc (a::r) p=some a:=by simp[bc,c]
    rw[this]
    refine⟨fun g=>by injection g with g;subst g;exact⟨List.mem_cons_self,c⟩,fun ⟨g1,g2⟩=>?_⟩
    rcases List.mem_cons.1 g1 with rfl | g1
    · rfl
    · have:=hr.2 e g1;omega
  · have:bc (a::r) p=bc r p:=by simp[bc,c]
    rw[this,dH hr.1]
    refine⟨fun ⟨g1,g2⟩=>⟨List.mem_cons_of_mem _ g1,g2⟩,fun ⟨g1,g2⟩=>?_⟩
    rcases List.mem_cons.1 g1 with rfl | g1
    · exact absurd g2 c
    · exact⟨g1,g2⟩
theorem kW {es:List En} {p:Int}:bc es p=none↔∀e∈es,e.page≠p:=by
 unfold bc
 rw[List.find?_eq_none]
 simp
def mK:List En->En->List En
 | [],e=>[e]
 | a::r,e=>if a.page<e.page then a::mK r e else if a.page=e.page then e::r else e::a::r
theorem nU:∀{es:List En} {e:En},kI es->∃pre post,es=pre++((bc es e.page).toList++post)/\mK es e=pre++e::post/\(∀x∈pre,x.page<e.page)/\∀x∈post,e.page<x.page
 | [],e,_=>⟨[],[],rfl,rfl,by simp,by simp⟩
 | a::r,e,h=>by
  have hr:=AG h
  unfold mK
  by_cases c:a.page<e.page
  · obtain⟨pre,post,h1,h2,h3,h4⟩:=nU (es:=r) (e:=e) hr.1
    have:bc (a::r) e.page=bc r e.page:=by simp[bc,show ¬a.page=e.page by omega]
    rw[if_pos c,this]
    refine⟨a::pre,post,by rw[List.cons_append,<- h1],by rw[h2];rfl,fun x hx=>?_,h4⟩
    rcases List.mem_cons.1 hx with rfl | hx
    · exact c
    · exact h3 x hx
  · rw[if_neg c]
    by_cases d:a.page=e.page
    · have:bc (a::r) e.page=some a:=by simp[bc,d]
      rw[if_pos d,this]
      exact⟨[],r,rfl,rfl,by simp,fun x hx=>by have:=hr.2 x hx;omega⟩
    · have:bc (a::r) e.page=none:=kW.2 fun x hx=>by
       rcases List.mem_cons.1 hx with rfl | hx
       · exact d
       · have:=hr.2 x hx;omega
      rw[if_neg d,this]
      refine⟨[],a::r,rfl,rfl,by simp,fun x hx=>?_⟩
      rcases List.mem_cons.1 hx with rfl | hx
      · omega
      · have:=hr.2 x hx;omega
theorem MW {pre post:List En} {e:En} (hp:kI pre) (hq:kI post) (h1:∀x∈pre,x.page<e.page) (h2:∀x∈post,e.page<x.page):kI (pre++e::post):=by
 unfold kI at *
 rw[List.map_append,List.map_cons,List.pairwise_append,List.pairwise_cons]
 refine⟨hp,⟨fun y hy=>?_,hq⟩,fun x hx y hy=>?_⟩
 · obtain⟨z,hz,rfl⟩:=List.mem_map.1 hy
   exact h2 z hz
 · obtain⟨z,hz,rfl⟩:=List.mem_map.1 hx
   rcases List.mem_cons.1 hy with rfl | hy
   · exact h1 z hz
   · obtain⟨u,hu,rfl⟩:=List.mem_map.1 hy
     have:=h1 z hz;have:=h2 u hu;omega
theorem rO {a b:List En} (h:kI (a++b)):kI a/\kI b:=by
 unfold kI at *
 rw[List.map_append,List.pairwise_append] at h
 exact⟨h.1,h.2.1⟩
theorem D3 {es:List En} {e:En} (h:kI es):kI (mK es e):=by
 obtain⟨pre,post,h1,h2,h3,h4⟩:=nU (e:=e) h
 rw[h2]
 rw[h1] at h
 exact MW (rO h).1 (rO (rO h).2).2 h3 h4
def nm (ar:List AM.Ar) (kd a:Int) (es:List En):List (Int×Bool):=(es.filter fun e=>decide (e.kind=kd/\e.loc=a)).map fun e=>(e.page,(AM.aT ar e.page).1.zero)
theorem qu (s:Sp) (kd a:Int):fq s kd a=nm s.aD kd a s.aA:=rfl
theorem fJ (ar:List AM.Ar) (kd a:Int) (l r:List En):nm ar kd a (l++r)=nm ar kd a l++nm ar kd a r:=by unfold nm;rw[List.filter_append,List.map_append]
theorem qm (ar:List AM.Ar) (kd a:Int) (e:En) (r:List En):nm ar kd a (e::r)=nm ar kd a [e]++nm ar kd a r:=fJ ar kd a [e] r
theorem ld (ar:List AM.Ar) {kd a:Int} {e:En} (h:e.kind=kd/\e.loc=a):nm ar kd a [e]=[(e.page,(AM.aT ar e.page).1.zero)]:=by simp[nm,h]
theorem jS (ar:List AM.Ar) {kd a:Int} {e:En} (h:¬(e.kind=kd/\e.loc=a)):nm ar kd a [e]=[]:=by
 unfold nm
 rw[List.filter_cons_of_neg (by simpa using h)]
 rfl
theorem Cu {ar:List AM.Ar} {kd a:Int} {es:List En} {x:Int×Bool}:x∈nm ar kd a es↔∃e∈es,e.kind=kd/\e.loc=a/\x=(e.page,(AM.aT ar e.page).1.zero):=mq (s:=⟨true,ar,es⟩)
theorem AZ {ar:List AM.Ar} {kd a:Int} {es:List En} (h:∀e∈es,¬(e.kind=kd/\e.loc=a)):nm ar kd a es=[]:=by
 refine List.eq_nil_iff_forall_not_mem.2 fun x hx=>?_
 obtain⟨e,he,h1,h2,_⟩:=Cu.1 hx
 exact h e he ⟨h1,h2⟩
theorem xD {l:List Sp} {j:Nat} (h:j<l.length):au l j∈l:=dX h
theorem aU.sp {k:Kn} (h:aU k) {j:Nat} (hj:j<k.aj.length):Mc k.ak k.frames.length k.slots.length (au k.aj j):=h.each _ (xD hj)
theorem fO {ss:List Sp} {j:Nat} (hj:j<ss.length) {e:En} (he:e∈(au ss j).aA):(e.page,(AM.aT (au ss j).aD e.page).1.zero)∈names ss e.kind e.loc:=iL.2 ⟨_,xD hj,e,he,rfl,rfl,rfl⟩
theorem aU.frame {k:Kn} (h:aU k) {i:Nat} {f:Fr} (hf:wj k.ak (names k.aj 1 i) f):aU { k with frames:=k.frames.set i f }:=by
 have hl:(k.frames.set i f).length=k.frames.length:=List.length_set
 refine⟨?_,h.eN,by show 0<=k.hand/\k.hand<((k.frames.set i f).length:Int);rw[hl];exact h.hand,?_,h.room,?_,h.slt⟩
 · have:=h.counts
   unfold KM.counts at this ⊢
   simp only[hl]
   exact this
 · show ∀s∈k.aj,Mc k.ak (k.frames.set i f).length k.slots.length s
   rw[hl];exact h.each
 · intro n hn
   have hn':n<k.frames.length:=by rw[<- hl];exact hn
   show wj k.ak (names k.aj 1 n) ((k.frames.set i f).getD n kY)
   by_cases c:i=n
   · subst c;rw[bK _ _ _ _ hn'];exact hf
   · rw[getD_set_ne _ _ _ _ _ c];exact h.nz n hn'
theorem aU.turn {k:Kn} (h:aU k) {x:Int} (hx:0<=x/\x<k.frames.length):aU { k with hand:=x }:=⟨h.counts,h.eN,hx,h.each,h.room,h.nz,h.slt⟩
theorem wj.seen {hs:List LM.Sh} {L:List (Int×Bool)} {f:Fr} (h:wj hs L f) (b:Bool) (hL:L≠[]):wj hs L { f with seen:=b }:=⟨h.refs,fun e=>absurd e hL,h.one,h.size,h.fill⟩
theorem wj.ne {hs:List LM.Sh} {L:List (Int×Bool)} {f:Fr} (h:wj hs L f) (hr:f.refs≠0):L≠[]:=fun e=>hr (by rw[h.refs,e];rfl)
theorem wj.nil {hs:List LM.Sh} {L:List (Int×Bool)} {f:Fr} (h:wj hs L f) (hr:f.refs=0):L=[]:=by
 have:=h.refs
 rw[hr] at this
 exact List.eq_nil_of_length_eq_zero (by omega)
theorem Fh.nil {L:List (Int×Bool)} {f:Sl} (h:Fh L f) (hr:f.refs=0):L=[]:=by
 have:=h.refs
 rw[hr] at this
 exact List.eq_nil_of_length_eq_zero (by omega)
theorem wj.none (hs:List LM.Sh):wj hs [] kY:=⟨rfl,fun _=>rfl,by simp,fun h=>absurd rfl h,by simp⟩
theorem Fh.none:Fh [] sS:=⟨rfl,fun _=>rfl,by simp,fun h=>absurd rfl h⟩
def lq (f:Fr):Fr:=if f.refs-1=0 then kY else { f with refs:=f.refs-1 }
def n7 (f:Sl):Sl:=if f.refs-1=0 then sS else { f with refs:=f.refs-1 }
theorem wj.less {hs:List LM.Sh} {X Y:List (Int×Bool)} {x:Int×Bool} {f:Fr} (h:wj hs (X++x::Y) f):wj hs (X++Y) (lq f):=by
 have hr:=h.refs
 have hn:X++x::Y≠[]:=by simp
 have hm:∀y∈X++Y,y∈X++x::Y:=fun y hy=>by
  rcases List.mem_append.1 hy with g | g
  · exact List.mem_append.2 (.inl g)
  · exact List.mem_append.2 (.inr (List.mem_cons_of_mem _ g))
 rw[List.length_append,List.length_cons] at hr
 unfold lq
 by_cases c:f.refs-1=0
 · rw[if_pos c]
   have:X++Y=[]:=List.eq_nil_of_length_eq_zero (by rw[List.length_append];omega)
   rw[this]
   exact wj.none hs
 · rw[if_neg c]
   refine⟨?_,fun e=>?_,fun a ha b hb=>h.one a (hm a ha) b (hm b hb),fun _=>h.size hn,fun d y hy=>h.fill d y (hm y hy)⟩
   · show f.refs-1=_
     rw[List.length_append];omega
   · have:=congrArg List.length e
     rw[List.length_append] at this
     simp only[List.length_nil] at this
     omega
theorem Fh.less {X Y:List (Int×Bool)} {x:Int×Bool} {f:Sl} (h:Fh (X++x::Y) f):Fh (X++Y) (n7 f):=by
 have hr:=h.refs
 have hn:X++x::Y≠[]:=by simp
 have hm:∀y∈X++Y,y∈X++x::Y:=fun y hy=>by
  rcases List.mem_append.1 hy with g | g
  · exact List.mem_append.2 (.inl g)
  · exact List.mem_append.2 (.inr (List.mem_cons_of_mem _ g))
 rw[List.length_append,List.length_cons] at hr
 unfold n7
 by_cases c:f.refs-1=0
 · rw[if_pos c]
   have:X++Y=[]:=List.eq_nil_of_length_eq_zero (by rw[List.length_append];omega)
   rw[this]
   exact Fh.none
 · rw[if_neg c]
   refine⟨?_,fun e=>?_,fun a ha b hb=>h.one a (hm a ha) b (hm b hb),fun _=>h.size hn⟩
   · show f.refs-1=_
     rw[List.length_append];omega
   · have:=congrArg List.length e
     rw[List.length_append] at this
     simp only[List.length_nil] at this
     omega
def jc (i:Int) (e:En):Bool:=decide (e.kind=1/\e.loc=i)
def yj (i:Int) (es:List En):List En:=es.filter fun e=>!jc i e
def gw (i s:Int) (es:List En):List En:=es.map fun e=>if jc i e then ⟨e.page,2,s⟩ else e
def vJ (l:List Fr):Option Nat:=l.findIdx? fun f=>decide (f.refs=0)
def rq (l:List Sl):Option Nat:=l.findIdx? fun f=>decide (f.refs=0)
def nX (i:Int) (s:Sp):Sp:={ s with aA:=yj i s.aA }
def ie (i s:Int) (sp:Sp):Sp:={ sp with aA:=gw i s sp.aA }
def rA (k:Kn) (i:Nat):Kn:={ k with frames:=k.frames.set i kY,aj:=k.aj.map (nX i) }
def xB (k:Kn) (i s:Nat):Kn:={ k with frames:=k.frames.set i kY,slots:=k.slots.set s ⟨(aI k.frames i).data,(aI k.frames i).refs⟩,aj:=k.aj.map (ie i s) }
def cT (k:Kn) (i:Nat):Kn:=if (aI k.frames i).b9 then (match rq k.slots with
 | some s=>xB k i s
 | none=>rA k i) else rA k i
def dB (k:Kn) (j:Nat) (p:Int):ByteArray:=match bc (au k.aj j).aA p with
 | some e=>if e.kind=1 then (aI k.frames e.loc.toNat).data else (bG k.slots e.loc.toNat).data
 | none=>dY k.ak p (AM.aT (au k.aj j).aD p).1.zero
theorem getD_map {α β:Type} (f:α->β) (d:α) (d':β):∀(l:List α) (i:Nat),i<l.length->(l.map f).getD i d'=f (l.getD i d)
 | a::r,0,_=>rfl
 | a::r,i+1,h=>getD_map f d d' r i (Nat.lt_of_succ_lt_succ h)
theorem iC {i:Int} {e:En}:jc i e=true↔e.kind=1/\e.loc=i:=by simp[jc]
theorem jn {i:Int} {e:En}:jc i e=false↔¬(e.kind=1/\e.loc=i):=by simp[jc]
theorem s8 {i:Int} {es:List En} {e:En}:e∈yj i es↔e∈es/\¬(e.kind=1/\e.loc=i):=by
 unfold yj
 rw[List.mem_filter,Bool.not_eq_true',jn]
theorem D9 {i:Int} {es:List En} (h:kI es):kI (yj i es):=List.Pairwise.sublist (List.filter_sublist.map _) h
theorem F8 (i s:Int) (es:List En):(gw i s es).map (·.page)=es.map (·.page):=by
 unfold gw
 rw[List.map_map]
 refine List.map_congr_left fun e _=>?_
 show(if jc i e then (⟨e.page,2,s⟩:En) else e).page=e.page
 cases jc i e <;> rfl
theorem Aq {i s:Int} {es:List En} (h:kI es):kI (gw i s es):=by unfold kI;rw[F8];exact h
theorem pJ {i s:Int} {es:List En} {x:En}:x∈gw i s es↔(x∈es/\¬(x.kind=1/\x.loc=i))∨∃e∈es,(e.kind=1/\e.loc=i)/\x=⟨e.page,2,s⟩:=by
 unfold gw
 rw[List.mem_map]
 constructor
 · rintro⟨e,he,rfl⟩
   by_cases c:e.kind=1/\e.loc=i
   · rw[if_pos (iC.2 c)];exact .inr ⟨e,he,c,rfl⟩
   · rw[if_neg (by rw[jn.2 c];simp)];exact .inl ⟨he,c⟩
 · rintro(⟨h,c⟩ | ⟨e,he,c,rfl⟩)
   · exact⟨x,h,by rw[if_neg (by rw[jn.2 c];simp)]⟩
   · exact⟨e,he,by rw[if_pos (iC.2 c)]⟩
theorem vO {α:Type} (p q:α->Bool):∀(l:List α),(∀x∈l,p x=q x)->l.filter p=l.filter q
 | [],_=>rfl
 | a::r,h=>by
  rw[List.filter_cons,List.filter_cons,h a List.mem_cons_self,vO p q r (fun x hx=>h x (List.mem_cons_of_mem _ hx))]
theorem Nq (ar:List AM.Ar) (i kd a:Int) (es:List En) (h:¬(kd=1/\a=i)):nm ar kd a (yj i es)=nm ar kd a es:=by
 unfold nm yj
 rw[List.filter_filter]
 congr 1
 refine vO _ _ _ fun e _=>?_
 by_cases c:e.kind=kd/\e.loc=a
 · have:jc i e=false:=jn.2 (by rw[c.1,c.2];exact h)
   rw[this];simp
 · simp[c]
theorem ow (ar:List AM.Ar) (i:Int) (es:List En):nm ar 1 i (yj i es)=[]:=AZ fun e he=>(s8.1 he).2
theorem Ct (ar:List AM.Ar) (i s kd a:Int) (h:¬(kd=1/\a=i)) (h2:¬(kd=2/\a=s)):∀es:List En,nm ar kd a (gw i s es)=nm ar kd a es
 | []=>rfl
 | e::r=>by
  have e1:gw i s (e::r)=(if jc i e then ⟨e.page,2,s⟩ else e)::gw i s r:=rfl
  rw[e1,qm,qm ar kd a e r,Ct ar i s kd a h h2 r]
  congr 1
  by_cases c:e.kind=1/\e.loc=i
  · rw[if_pos (iC.2 c),jS ar (fun g=>h2 ⟨g.1.symm,g.2.symm⟩),jS ar (fun g=>h (by rw[<- g.1,<- g.2];exact c))]
  · rw[if_neg (by rw[jn.2 c];simp)]
theorem vd (ar:List AM.Ar) (i s:Int) (es:List En):nm ar 1 i (gw i s es)=[]:=AZ fun e he g=>by
 rcases pJ.1 he with h | ⟨x,_,_,rfl⟩
 · exact h.2 g
 · have:=g.1;simp at this
theorem yq (ar:List AM.Ar) (i s:Int):∀es:List En,(∀e∈es,¬(e.kind=2/\e.loc=s))->nm ar 2 s (gw i s es)=nm ar 1 i es
 | [],_=>rfl
 | e::r,h=>by
  have e1:gw i s (e::r)=(if jc i e then ⟨e.page,2,s⟩ else e)::gw i s r:=rfl
  rw[e1,qm,qm ar 1 i e r,yq ar i s r (fun x hx=>h x (List.mem_cons_of_mem _ hx))]
  congr 1
  by_cases c:e.kind=1/\e.loc=i
  · rw[if_pos (iC.2 c),ld ar (e:=⟨e.page,2,s⟩) (kd:=2) (a:=s) ⟨rfl,rfl⟩,ld ar c]
  · rw[if_neg (by rw[jn.2 c];simp),jS ar (h e List.mem_cons_self),jS ar c]
theorem DW (f:Sp->Sp) (hf:∀s,(f s).aD=s.aD) (l:List Sp):room (l.map f)=room l:=by
 unfold room
 rw[List.length_map]
 refine lN _ _ _ fun i hi=>?_
 unfold au
 rw[getD_map f Fw Fw l i hi,hf]
theorem aU.rA {k:Kn} (h:aU k) {i:Nat} (hi:i<k.frames.length):aU (rA k i):=by
 have hl:(k.frames.set i kY).length=k.frames.length:=List.length_set
 have hm:(k.aj.map (nX i)).length=k.aj.length:=List.length_map ..
 refine⟨?_,h.eN,by show 0<=k.hand/\k.hand<((k.frames.set i kY).length:Int);rw[hl];exact h.hand,?_,?_,?_,?_⟩
 · have:=h.counts
   unfold KM.counts at this ⊢
   simp only[KM.rA,hl,hm]
   exact this
 · show ∀s∈k.aj.map (nX i),Mc k.ak (k.frames.set i kY).length k.slots.length s
   rw[hl]
   intro s hs
   obtain⟨s,hsq,rfl⟩:=List.mem_map.1 hs
   have g:=h.each s hsq
   exact⟨fun d=>⟨(g.dead d).1,by show yj i s.aA=[];rw[(g.dead d).2];rfl⟩,g.aD,D9 g.eN,fun e he=>g.vW e (s8.1 he).1,g.ak⟩
 · show KM.room (k.aj.map (nX i))<=_
   rw[DW (nX i) (fun _=>rfl)];exact h.room
 · intro n hn
   have hn':n<k.frames.length:=by rw[<- hl];exact hn
   show wj k.ak (names (k.aj.map (nX i)) 1 n) ((k.frames.set i kY).getD n kY)
   by_cases c:i=n
   · subst c
     rw[bK _ _ _ _ hn',ju (nX i) 1 i _ (fun s _=>ow s.aD i s.aA)]
     exact wj.none _
   · rw[getD_set_ne _ _ _ _ _ c,lW (nX i) 1 n 1 n _ (fun s _=>Nq s.aD i 1 n s.aA (by omega))]
     exact h.nz n hn'
 · intro n hn
   show Fh (names (k.aj.map (nX i)) 2 n) (bG k.slots n)
   rw[lW (nX i) 2 n 2 n _ (fun s _=>Nq s.aD i 2 n s.aA (by omega))]
   exact h.slt n hn
theorem aU.xB {k:Kn} (h:aU k) {i s:Nat} (hi:i<k.frames.length) (hs:s<k.slots.length) (hf:names k.aj 2 s=[]):aU (xB k i s):=by
 have hl:(k.frames.set i kY).length=k.frames.length:=List.length_set
 have hl2:(k.slots.set s ⟨(aI k.frames i).data,(aI k.frames i).refs⟩).length=k.slots.length:=List.length_set
 have hm:(k.aj.map (ie i s)).length=k.aj.length:=List.length_map ..
 have hno:∀sp∈k.aj,∀e∈sp.aA,¬(e.kind=2/\e.loc=(s:Int)):=fun sp hsp e he g=>by
  have:(e.page,(AM.aT sp.aD e.page).1.zero)∈names k.aj 2 s:=iL.2 ⟨sp,hsp,e,he,g.1,g.2,rfl⟩
  rw[hf] at this
  cases this
 refine⟨?_,h.eN,by show 0<=k.hand/\k.hand<((k.frames.set i kY).length:Int);rw[hl];exact h.hand,?_,?_,?_,?_⟩
 · have:=h.counts
   unfold KM.counts at this ⊢
   simp only[KM.xB,hl,hl2,hm]
   exact this
 · show ∀sp∈k.aj.map (ie i s),Mc k.ak (k.frames.set i kY).length (k.slots.set s ⟨(aI k.frames i).data,(aI k.frames i).refs⟩).length sp
   rw[hl,hl2]
   intro sp hsp
   obtain⟨sp,hsq,rfl⟩:=List.mem_map.1 hsp
   have g:=h.each sp hsq
   refine⟨fun d=>⟨(g.dead d).1,by show gw i s sp.aA=[];rw[(g.dead d).2];rfl⟩,g.aD,Aq g.eN,fun e he=>?_,g.ak⟩
   rcases pJ.1 he with x | ⟨x,hx,hc,rfl⟩
   · exact g.vW e x.1
   · exact⟨(g.vW x hx).1,.inr ⟨rfl,by show(0:Int)<=(s:Int);omega,by show(s:Int)<_;omega⟩⟩
 · show KM.room (k.aj.map (ie i s))<=((k.slots.set s ⟨(aI k.frames i).data,(aI k.frames i).refs⟩).length:Int)
   rw[hl2,DW (ie i s) (fun _=>rfl)];exact h.room
 · intro n hn
   have hn':n<k.frames.length:=by rw[<- hl];exact hn
   show wj k.ak (names (k.aj.map (ie i s)) 1 n) ((k.frames.set i kY).getD n kY)
   by_cases c:i=n
   · subst c
     rw[bK _ _ _ _ hn',ju (ie i s) 1 i _ (fun sp _=>vd sp.aD i s sp.aA)]
     exact wj.none _
   · rw[getD_set_ne _ _ _ _ _ c,lW (ie i s) 1 n 1 n _ (fun sp _=>Ct sp.aD i s 1 n (by omega) (by omega) sp.aA)]
     exact h.nz n hn'
 · intro n hn
   have hn':n<k.slots.length:=by rw[<- hl2];exact hn
   show Fh (names (k.aj.map (ie i s)) 2 n) ((k.slots.set s ⟨(aI k.frames i).data,(aI k.frames i).refs⟩).getD n sS)
   by_cases c:s=n
   · subst c
     rw[bK _ _ _ _ hn',lW (ie i s) 2 s 1 i _ (fun sp hsp=>yq sp.aD i s sp.aA (hno sp hsp))]
     have g:=h.nz i hi
     exact⟨g.refs,fun e=>by rw[g.zero e];rfl,g.one,g.size⟩
   · rw[getD_set_ne _ _ _ _ _ c,lW (ie i s) 2 n 2 n _ (fun sp _=>Ct sp.aD i s 2 n (by omega) (by omega) sp.aA)]
     exact h.slt n hn'
theorem uo:∀(n:Nat) (L:List Int),(∀i:Nat,i<n->(i:Int)∈L)->n<=L.length
 | 0,_,_=>Nat.zero_le _
 | n+1,L,h=>by
  have hn:=h n (Nat.lt_succ_self n)
  have:=uo n (L.erase (n:Int)) (fun i hi=>(List.mem_erase_of_ne (by omega)).2 (h i (by omega)))
  rw[List.length_erase_of_mem hn] at this
  have:0<L.length:=List.length_pos_of_mem hn
  omega
def sD (ss:List Sp):List En:=ss.flatMap (·.aA)
theorem mC {hs:List LM.Sh} {nf ns:Nat} {s:Sp} (g:Mc hs nf ns s):(s.aA.length:Int)<=AM.cm s.aD:=by
 rw[FM.Dx g.aD]
 have:=FM.ue (FM.dO s.aD) (s.aA.map (·.page)) g.eN (FM.Pn g.aD).sorted (fun x hx=>by
  obtain⟨e,he,rfl⟩:=List.mem_map.1 hx
  exact(FM.Ll g.aD _).1 (g.vW e he).1)
 rw[List.length_map] at this
 omega
theorem zS (l r:List Sp):∀k,k<=l.length->fQ (l++r) k=fQ l k:=fun k hk=>lN _ _ _ fun i hi=>by
 unfold au
 rw[List.getD_eq_getElem?_getD,List.getD_eq_getElem?_getD,List.getElem?_append_left (by omega)]
theorem J5 (l:List Sp) (s:Sp):room (l++[s])=room l+AM.cm s.aD:=by
 unfold room
 rw[List.length_append,List.length_singleton,fQ,zS l [s] l.length (Nat.le_refl _)]
 unfold au
 rw[List.getD_eq_getElem?_getD,List.getElem?_append_right (Nat.le_refl _),Nat.sub_self]
 rfl
theorem zw:∀(m:Nat) (l:List Sp),l.length=m->(∀s∈l,(s.aA.length:Int)<=AM.cm s.aD)->((sD l).length:Int)<=room l
 | 0,l,h,_=>by
  have:l=[]:=List.eq_nil_of_length_eq_zero h
  subst this
  exact Int.le_refl _
 | m+1,l,h,hs=>by
  have hne:l≠[]:=fun e=>by rw[e] at h;cases h
  obtain⟨l',s,rfl⟩:∃l' s,l=l'++[s]:=⟨l.dropLast,l.getLast hne,(List.dropLast_concat_getLast hne).symm⟩
  rw[J5]
  have:=zw m l' (by rw[List.length_append,List.length_singleton] at h;omega) (fun x hx=>hs x (List.mem_append.2 (.inl hx)))
  have h2:=hs s (by simp)
  unfold sD at *
  rw[List.flatMap_append,List.length_append]
  simp only[List.flatMap_cons,List.flatMap_nil,List.append_nil]
  omega
theorem aU.slot {k:Kn} (h:aU k) {i:Nat} (hi:i<k.frames.length) (hr:(aI k.frames i).refs≠0):∃s,rq k.slots=some s/\s<k.slots.length/\names k.aj 2 s=[]:=by
 cases hf:rq k.slots with
 | some s =>
  obtain⟨h1,h2,_⟩:=List.findIdx?_eq_some_iff_getElem.1 hf
  refine⟨s,rfl,h1,(h.slt s h1).nil ?_⟩
  unfold bG
  rw[List.getD_eq_getElem?_getD,List.getElem?_eq_getElem h1]
  exact of_decide_eq_true h2
 | none =>
  exfalso
  have hno:=List.findIdx?_eq_none_iff.1 hf
  have hall:∀n:Nat,n<k.slots.length->∃e∈sD k.aj,e.kind=2/\e.loc=(n:Int):=fun n hn=>by
   have h1:=hno (bG k.slots n) (dX hn)
   have h2:=(h.slt n hn).refs
   have h3:names k.aj 2 n≠[]:=fun e=>by
    rw[e] at h2
    simp[h2] at h1
   obtain⟨x,hx⟩:=List.exists_mem_of_ne_nil _ h3
   obtain⟨s,hs,e,he,g1,g2,_⟩:=iL.1 hx
   exact⟨e,List.mem_flatMap.2 ⟨s,hs,he⟩,g1,g2⟩
  have hp:=uo k.slots.length (((sD k.aj).filter fun e:En=>decide (e.kind=2)).map (·.loc)) (fun n hn=>by
   obtain⟨e,he,g1,g2⟩:=hall n hn
   exact List.mem_map.2 ⟨e,List.mem_filter.2 ⟨he,by simpa using g1⟩,g2⟩)
  rw[List.length_map] at hp
  have hroom:=zw _ k.aj rfl (fun s hs=>mC (h.each s hs))
  have hr2:=h.room
  obtain⟨x,hx⟩:=List.exists_mem_of_ne_nil _ ((h.nz i hi).ne hr)
  obtain⟨s,hs,e,he,g1,g2,_⟩:=iL.1 hx
  have hea:e∈sD k.aj:=List.mem_flatMap.2 ⟨s,hs,he⟩
  have hlt:((sD k.aj).filter fun e:En=>decide (e.kind=2)).length<(sD k.aj).length:=by
   rcases Nat.lt_or_eq_of_le (List.length_filter_le (fun e:En=>decide (e.kind=2)) (sD k.aj)) with g | g
   · exact g
   · have:=(List.length_filter_eq_length_iff.1 g) e hea
     simp[g1] at this
  omega
theorem aU.aside {k:Kn} (h:aU k) {i:Nat} (hi:i<k.frames.length) (hr:(aI k.frames i).refs≠0):aU (cT k i):=by
 unfold cT
 by_cases c:(aI k.frames i).b9=true
 · rw[if_pos c]
   obtain⟨s,h1,h2,h3⟩:=h.slot hi hr
   rw[h1]
   exact h.xB hi h2 h3
 · rw[if_neg c]
   exact h.rA hi
def dV (s:Sp) (es:List En):Sp:=⟨s.live,s.aD,es⟩
def cN (k:Kn) (e:En):Kn:=if e.kind=1 then { k with frames:=k.frames.set e.loc.toNat (lq (aI k.frames e.loc.toNat)) } else { k with slots:=k.slots.set e.loc.toNat (n7 (bG k.slots e.loc.toNat)) }
def dZ (k:Kn) (j:Nat) (e:En):Kn:={ k with aj:=k.aj.set j (dV (au k.aj j) (mK (au k.aj j).aA e)) }
def jb (k:Kn) (i:Nat) (d:ByteArray) (dy:Bool):Kn:={ k with frames:=k.frames.set i ⟨d,1,dy,false⟩ }
def cW (k:Kn) (j:Nat) (p:Int) (i:Nat) (d:ByteArray) (dy:Bool):Kn:=match bc (au k.aj j).aA p with
 | none=>dZ (jb k i d dy) j ⟨p,1,i⟩
 | some e=>cN (dZ (jb k i d dy) j ⟨p,1,i⟩) e
theorem yr {ss:List Sp} {j:Nat} (hj:j<ss.length) (e:En) (hr:kI (au ss j).aA) (kd a:Int):∃X Y,names ss kd a=X++(nm (au ss j).aD kd a (bc (au ss j).aA e.page).toList++Y)/\names (ss.set j (dV (au ss j) (mK (au ss j).aA e))) kd a=X++(nm (au ss j).aD kd a [e]++Y):=by
 obtain⟨pre,post,h1,h2,_,_⟩:=nU (e:=e) hr
 obtain⟨u,v,g1,g2⟩:=uu ss j (dV (au ss j) (mK (au ss j).aA e)) kd a hj
 refine⟨u++nm (au ss j).aD kd a pre,nm (au ss j).aD kd a post++v,?_,?_⟩
 · rw[g1,qu]
   conv=>lhs;rw[h1]
   rw[fJ,fJ]
   simp only[List.append_assoc]
 · rw[g2,qu]
   show u++(nm (au ss j).aD kd a (mK (au ss j).aA e)++v)=_
   rw[h2,fJ,qm]
   simp only[List.append_assoc]
theorem IG {es:List En} (h:kI es) (e:En) (p:Int):bc (mK es e) p=if p=e.page then some e else bc es p:=by
 have hp:=D3 (e:=e) h
 obtain⟨pre,post,h1,h2,h3,h4⟩:=nU (e:=e) h
 by_cases c:p=e.page
 · rw[if_pos c,dH hp,h2]
   exact⟨by simp,c.symm⟩
 · rw[if_neg c]
   cases g:bc es p with
   | none =>
    rw[kW] at g ⊢
    intro x hx
    rw[h2] at hx
    rcases List.mem_append.1 hx with y | y
    · exact g x (by rw[h1];exact List.mem_append.2 (.inl y))
    · rcases List.mem_cons.1 y with rfl | y
      · exact fun e=>c e.symm
      · exact g x (by rw[h1];exact List.mem_append.2 (.inr (List.mem_append.2 (.inr y))))
   | some x =>
    obtain⟨m1,m2⟩:=(dH h).1 g
    rw[dH hp,h2]
    refine⟨?_,m2⟩
    rw[h1] at m1
    rcases List.mem_append.1 m1 with y | y
    · exact List.mem_append.2 (.inl y)
    · rcases List.mem_append.1 y with z | z
      · have:bc es e.page=some x:=by
         cases q:bc es e.page with
         | none=>rw[q] at z;cases z
         | some y=>rw[q] at z;simp at z;rw[z]
        exact absurd (m2.symm.trans ((dH h).1 this).2) c
      · exact List.mem_append.2 (.inr (List.mem_cons_of_mem _ z))
theorem gL (l:List Sp) (j n:Nat) (s:Sp) (hj:j<l.length):au (l.set j s) n=if j=n then s else au l n:=by
 unfold au
 by_cases c:j=n
 · subst c;rw[if_pos rfl,bK _ _ _ _ hj]
 · rw[if_neg c,getD_set_ne _ _ _ _ _ c]
theorem eU (l:List Fr) (j n:Nat) (s:Fr) (hj:j<l.length):aI (l.set j s) n=if j=n then s else aI l n:=by
 unfold aI
 by_cases c:j=n
 · subst c;rw[if_pos rfl,bK _ _ _ _ hj]
 · rw[if_neg c,getD_set_ne _ _ _ _ _ c]
theorem nO (l:List Sl) (j n:Nat) (s:Sl) (hj:j<l.length):bG (l.set j s) n=if j=n then s else bG l n:=by
 unfold bG
 by_cases c:j=n
 · subst c;rw[if_pos rfl,bK _ _ _ _ hj]
 · rw[if_neg c,getD_set_ne _ _ _ _ _ c]
theorem DV (l:List Sp) (j:Nat) (s:Sp) (hj:j<l.length) (ha:s.aD=(au l j).aD):room (l.set j s)=room l:=by
 unfold room
 rw[List.length_set]
 refine lN _ _ _ fun i _=>?_
 rw[gL l j i s hj]
 by_cases c:j=i
 · rw[if_pos c,ha,c]
 · rw[if_neg c]
structure kQ (k:Kn) (j:Nat) (p:Int) (i:Nat) (d:ByteArray) (dy:Bool):Prop where
 right:aU k
 hj:j<k.aj.length
 hp:(AM.aT (au k.aj j).aD p).2=true
 hi:i<k.frames.length
 free:names k.aj 1 i=[]
 size:d.size=16
 fill:dy=false->d=dY k.ak p (AM.aT (au k.aj j).aD p).1.zero
theorem fV {k:Kn} (h:aU k) {j:Nat} (hj:j<k.aj.length) {e:En} (he:e∈(au k.aj j).aA):(e.kind=1/\(e.loc.toNat:Int)=e.loc/\e.loc.toNat<k.frames.length)∨(e.kind=2/\(e.loc.toNat:Int)=e.loc/\e.loc.toNat<k.slots.length):=by
 rcases((h.sp hj).vW e he).2 with g | g
 · exact .inl ⟨g.1,by omega,by omega⟩
 · exact .inr ⟨g.1,by omega,by omega⟩
theorem iB (k:Kn) (j:Nat) (p:Int) (i:Nat) (d:ByteArray) (dy:Bool) (m:kQ k j p i d dy):(cW k j p i d dy).frames.length=k.frames.length/\(cW k j p i d dy).slots.length=k.slots.length/\(cW k j p i d dy).ak=k.ak/\(cW k j p i d dy).hand=k.hand/\(cW k j p i d dy).aj=k.aj.set j (dV (au k.aj j) (mK (au k.aj j).aA ⟨p,1,i⟩)) /\
  (∀n,aI (cW k j p i d dy).frames n=if n=i then ⟨d,1,dy,false⟩ else match bc (au k.aj j).aA p with
   | some e=>if e.kind=1/\e.loc=(n:Int) then lq (aI k.frames n) else aI k.frames n
   | none=>aI k.frames n) /\
  (∀n,bG (cW k j p i d dy).slots n=match bc (au k.aj j).aA p with
   | some e=>if e.kind=2/\e.loc=(n:Int) then n7 (bG k.slots n) else bG k.slots n
   | none=>bG k.slots n):=by
 have hr:=(m.right.sp m.hj).eN
 unfold cW
 cases g:bc (au k.aj j).aA p with
 | none =>
  refine⟨List.length_set,rfl,rfl,rfl,rfl,fun n=>?_,fun n=>rfl⟩
  show aI (k.frames.set i _) n=_
  rw[eU _ _ _ _ m.hi]
  by_cases c:n=i
  · rw[if_pos c,if_pos c.symm]
  · rw[if_neg c,if_neg (fun e=>c e.symm)]
 | some e =>
  have he:=(dH hr).1 g
  have hne:e.kind=1->e.loc.toNat≠i:=fun h1 h2=>by
   have:=fO m.hj he.1
   rcases fV m.right m.hj he.1 with b | b
   · rw[h1,<- b.2.1,h2,m.free] at this;cases this
   · omega
  dsimp only
  unfold cN
  rcases fV m.right m.hj he.1 with b | b
  · rw[if_pos b.1]
    have hne:=hne b.1
    refine⟨by show((k.frames.set i _).set _ _).length=_;rw[List.length_set,List.length_set],rfl,rfl,rfl,rfl,fun n=>?_,fun n=>?_⟩
    · show aI ((k.frames.set i _).set _ (lq (aI (k.frames.set i _) _))) n=_
      rw[eU _ _ _ _ (by rw[List.length_set];exact b.2.2),eU _ _ n _ m.hi,eU _ _ e.loc.toNat _ m.hi,if_neg (show ¬i=e.loc.toNat from fun e=>hne e.symm)]
      by_cases c:n=i
      · rw[if_neg (by omega),if_pos c.symm,if_pos c]
      · rw[if_neg c,if_neg (show ¬i=n from fun e=>c e.symm)]
        by_cases c2:e.loc.toNat=n
        · rw[if_pos c2]
          show _=if e.kind=1/\e.loc=(n:Int) then _ else _
          rw[if_pos ⟨b.1,by omega⟩,c2]
        · rw[if_neg c2]
          show _=if e.kind=1/\e.loc=(n:Int) then _ else _
          rw[if_neg (by omega)]
    · show bG k.slots n=if e.kind=2/\e.loc=(n:Int) then _ else _
      rw[if_neg (by omega)]
  · rw[if_neg (by omega)]
    refine⟨List.length_set,List.length_set,rfl,rfl,rfl,fun n=>?_,fun n=>?_⟩
    · show aI (k.frames.set i _) n=if n=i then _ else if e.kind=1/\e.loc=(n:Int) then _ else _
      rw[eU _ _ _ _ m.hi,if_neg (show ¬(e.kind=1/\e.loc=(n:Int)) by omega)]
      by_cases c:n=i
      · rw[if_pos c,if_pos c.symm]
      · rw[if_neg c,if_neg (fun e=>c e.symm)]
    · show bG (k.slots.set _ (n7 (bG k.slots _))) n=if e.kind=2/\e.loc=(n:Int) then _ else _
      rw[nO _ _ _ _ b.2.2]
      by_cases c2:e.loc.toNat=n
      · rw[if_pos c2,if_pos ⟨b.1,by omega⟩,c2]
      · rw[if_neg c2,if_neg (by omega)]
theorem oD {k:Kn} {j:Nat} {p:Int} {i:Nat} {d:ByteArray} {dy:Bool} (m:kQ k j p i d dy):aU (cW k j p i d dy):=by
 have h:=m.right
 have hsp:=h.sp m.hj
 obtain⟨f1,f2,f3,f4,f5,f6,f7⟩:=iB k j p i d dy m
 have hlen:(cW k j p i d dy).aj.length=k.aj.length:=by rw[f5,List.length_set]
 refine⟨?_,by rw[f3];exact h.eN,by rw[f4,f1];exact h.hand,?_,?_,?_,?_⟩
 · have:=h.counts
   unfold KM.counts at this ⊢
   rw[f1,f2,f3,hlen]
   exact this
 · rw[f1,f2,f3,f5]
   intro s hs
   rcases List.mem_or_eq_of_mem_set hs with g | rfl
   · exact h.each s g
   · refine⟨fun dd=>?_,hsp.aD,D3 hsp.eN,fun e he=>?_,hsp.ak⟩
     · have:=m.hp
       rw[(hsp.dead dd).1] at this
       cases this
     · obtain⟨pre,post,h1,h2,_,_⟩:=nU (e:=(⟨p,1,i⟩:En)) hsp.eN
       rw[show(dV (au k.aj j) (mK (au k.aj j).aA ⟨p,1,i⟩)).aA=pre++⟨p,1,i⟩::post from h2] at he
       have hin:∀x,x∈pre∨x∈post->x∈(au k.aj j).aA:=fun x hx=>by
        rw[h1]
        rcases hx with g | g
        · exact List.mem_append.2 (.inl g)
        · exact List.mem_append.2 (.inr (List.mem_append.2 (.inr g)))
       rcases List.mem_append.1 he with g | g
       · exact hsp.vW e (hin e (.inl g))
       · rcases List.mem_cons.1 g with rfl | g
         · exact⟨m.hp,.inl ⟨rfl,by show(0:Int)<=(i:Int);omega,by show(i:Int)<_;have:=m.hi;omega⟩⟩
         · exact hsp.vW e (hin e (.inr g))
 · rw[f2,f5,DV _ _ (dV (au k.aj j) (mK (au k.aj j).aA ⟨p,1,i⟩)) m.hj rfl];exact h.room
 · intro n hn
   rw[f1] at hn
   rw[f3,f5,f6]
   obtain⟨X,Y,h1,h2⟩:=yr m.hj ⟨p,1,i⟩ hsp.eN 1 n
   rw[h2]
   by_cases c:n=i
   · subst c
     rw[if_pos rfl,ld _ (e:=(⟨p,1,n⟩:En)) ⟨rfl,rfl⟩]
     rw[m.free] at h1
     have hX:X=[]:=(List.append_eq_nil_iff.1 h1.symm).1
     have hY:Y=[]:=(List.append_eq_nil_iff.1 (List.append_eq_nil_iff.1 h1.symm).2).2
     subst hX hY
     refine⟨rfl,fun e=>(by cases e),fun x hx y hy=>?_,fun _=>m.size,fun e x hx=>?_⟩
     · simp at hx hy;rw[hx,hy]
     · simp at hx;rw[hx];exact m.fill e
   · rw[if_neg c,jS _ (e:=(⟨p,1,i⟩:En)) (fun g=>c (by have:=g.2;simp at this;omega))]
     have hf:=h.nz n hn
     rw[h1] at hf
     cases g:bc (au k.aj j).aA p with
     | none =>
      rw[g] at hf
      exact hf
     | some e =>
      rw[g] at hf
      show wj k.ak (X++([]++Y)) (if e.kind=1/\e.loc=(n:Int) then lq (aI k.frames n) else aI k.frames n)
      rw[List.nil_append]
      by_cases c2:e.kind=1/\e.loc=(n:Int)
      · rw[if_pos c2]
        rw[show(some e).toList=[e] from rfl,ld _ c2] at hf
        exact hf.less
      · rw[if_neg c2]
        rw[show(some e).toList=[e] from rfl,jS _ c2] at hf
        exact hf
 · intro n hn
   rw[f2] at hn
   rw[f5,f7]
   obtain⟨X,Y,h1,h2⟩:=yr m.hj ⟨p,1,i⟩ hsp.eN 2 n
   rw[h2,jS _ (e:=(⟨p,1,i⟩:En)) (fun g=>by have:=g.1;simp at this)]
   have hf:=h.slt n hn
   rw[h1] at hf
   cases g:bc (au k.aj j).aA p with
   | none =>
    rw[g] at hf
    exact hf
   | some e =>
    rw[g] at hf
    show Fh (X++([]++Y)) (if e.kind=2/\e.loc=(n:Int) then n7 (bG k.slots n) else bG k.slots n)
    rw[List.nil_append]
    by_cases c2:e.kind=2/\e.loc=(n:Int)
    · rw[if_pos c2]
      rw[show(some e).toList=[e] from rfl,ld _ c2] at hf
      exact hf.less
    · rw[if_neg c2]
      rw[show(some e).toList=[e] from rfl,jS _ c2] at hf
      exact hf
end KM
end Go.Proofs.YtpgifpeohlllfaaGreat
