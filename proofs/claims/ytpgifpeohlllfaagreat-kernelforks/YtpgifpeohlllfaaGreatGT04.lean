import Derived.Test.YtpgifpeohlllfaaGreatGT03
set_option maxHeartbeats 20000000
set_option linter.unusedVariables false
set_option maxRecDepth 100000
set_option linter.unusedSimpArgs false
namespace Go.Proofs.YtpgifpeohlllfaaGreat
namespace KM
open Go.RowKit
structure Fr where
 data:ByteArray
 refs:Int
 cj:Bool
 seen:Bool
structure Sl where
 data:ByteArray
 refs:Int
structure En where
 page:Int
 kind:Int
 loc:Int
structure Sp where
 live:Bool
 aB:List AM.Ar
 aA:List En
structure Kn where
 ak:List LM.Sh
 frames:List Fr
 slots:List Sl
 aj:List Sp
 hand:Int
def mz:Fr:=⟨⟨#[]⟩,0,false,false⟩
def xe:Sl:=⟨⟨#[]⟩,0⟩
def js:En:=⟨0,0,0⟩
def uu:Sp:=⟨false,[],[]⟩
def aH (l:List Fr) (i:Nat):Fr:=l.getD i mz
def bj (l:List Sl) (i:Nat):Sl:=l.getD i xe
def aM (l:List En) (i:Nat):En:=l.getD i js
def au (l:List Sp) (i:Nat):Sp:=l.getD i uu
theorem dO {α:Type} {d:α}:∀{l:List α} {i:Nat},i<l.length->l.getD i d∈l
 | [],i,h=>absurd h (Nat.not_lt_zero _)
 | a::r,0,h=>List.mem_cons_self
 | a::r,i+1,h=>List.mem_cons_of_mem _ (dO (l:=r) (Nat.lt_of_succ_lt_succ h))
theorem fu {α:Type} (d:α):∀{l:List α} {x:α},x∈l->∃i,i<l.length/\l.getD i d=x
 | a::r,x,h=>by
  rcases List.mem_cons.1 h with rfl | h
  · exact⟨0,Nat.zero_lt_succ _,rfl⟩
  · obtain⟨i,hi,e⟩:=fu d h;exact⟨i+1,Nat.succ_lt_succ hi,e⟩
theorem bC {α:Type} (d x:α):∀(l:List α) (i:Nat),i<l.length->(l.set i x).getD i d=x
 | a::r,0,_=>rfl
 | a::r,i+1,h=>bC d x r i (Nat.lt_of_succ_lt_succ h)
theorem getD_set_ne {α:Type} (d x:α):∀(l:List α) (i j:Nat),i≠j->(l.set i x).getD j d=l.getD j d
 | [],_,_,_=>rfl
 | a::r,0,0,h=>absurd rfl h
 | a::r,0,j+1,_=>rfl
 | a::r,i+1,0,_=>rfl
 | a::r,i+1,j+1,h=>getD_set_ne d x r i j (fun e=>h (by rw[e]))
def dH (s:Sp) (kd at_:Int):List (Int×Bool):=(s.aA.filter fun e=>decide (e.kind=kd/\e.loc=at_)).map fun e=>(e.page,(AM.aR s.aB e.page).1.zero)
def names (ss:List Sp) (kd at_:Int):List (Int×Bool):=ss.flatMap fun s=>dH s kd at_
def bW (hs:List LM.Sh) (p:Int):Option LM.Sh:=hs.find? fun s=>decide (s.page=p)
def filled (hs:List LM.Sh) (p:Int):ByteArray:=match bW hs p with
 | some s=>LM.mQ s
 | none=>⟨#[]⟩
def pT:ByteArray:=⟨#[0,0,0,0,0,0,0,0,0,0,0,0,0,0,0,0]⟩
def dY (hs:List LM.Sh) (p:Int) (z:Bool):ByteArray:=if z then pT else filled hs p
def qq (nf ns:Nat) (ar:List AM.Ar) (e:En):Prop:=(AM.aR ar e.page).2=true/\((e.kind=1/\0<=e.loc/\e.loc<nf)∨(e.kind=2/\0<=e.loc/\e.loc<ns))
structure J8 (hs:List LM.Sh) (nf ns:Nat) (s:Sp):Prop where
 dead:s.live=false->s.aB=[]/\s.aA=[]
 aB:AM.aW s.aB=0
 eJ:(s.aA.map (·.page)).Pairwise (·<·)
 u9:∀e∈s.aA,qq nf ns s.aB e
 ak:∀p,(AM.aR s.aB p).2=true->(AM.aR s.aB p).1.zero=false->(bW hs p).isSome=true
structure vA (hs:List LM.Sh) (L:List (Int×Bool)) (f:Fr):Prop where
 refs:f.refs=L.length
 zero:L=[]->f=mz
 one:∀x∈L,∀y∈L,x=y
 size:L≠[]->f.data.size=16
 fill:f.cj=false->∀x∈L,f.data=dY hs x.1 x.2
structure DT (L:List (Int×Bool)) (s:Sl):Prop where
 refs:s.refs=L.length
 zero:L=[]->s=xe
 one:∀x∈L,∀y∈L,x=y
 size:L≠[]->s.data.size=16
def fp (l:List Sp):Nat->Int
 | 0=>0
 | k+1=>fp l k+AM.b7 (au l k).aB
def room (l:List Sp):Int:=fp l l.length
def counts (k:Kn):Bool:=decide ((3<=k.frames.length/\k.frames.length<=64)/\k.slots.length<=512/\(1<=k.aj.length/\k.aj.length<=4)/\k.ak.length<=255)
structure aQ (k:Kn):Prop where
 counts:counts k=true
 eJ:LM.dC k.ak=true
 hand:0<=k.hand/\k.hand<k.frames.length
 each:∀s∈k.aj,J8 k.ak k.frames.length k.slots.length s
 room:room k.aj<=k.slots.length
 m7:∀i:Nat,i<k.frames.length->vA k.ak (names k.aj 1 i) (aH k.frames i)
 slt:∀i:Nat,i<k.slots.length->DT (names k.aj 2 i) (bj k.slots i)
theorem aQ.c {k:Kn} (h:aQ k):(3<=k.frames.length/\k.frames.length<=64)/\k.slots.length<=512/\(1<=k.aj.length/\k.aj.length<=4)/\k.ak.length<=255:=of_decide_eq_true h.counts
theorem Bu (kd a:Int):names [] kd a=[]:=rfl
theorem fG (s:Sp) (r:List Sp) (kd a:Int):names (s::r) kd a=dH s kd a++names r kd a:=List.flatMap_cons
theorem tL (l r:List Sp) (kd a:Int):names (l++r) kd a=names l kd a++names r kd a:=List.flatMap_append
theorem kJ {s:Sp} {kd a:Int} {x:Int×Bool}:x∈dH s kd a↔∃e∈s.aA,e.kind=kd/\e.loc=a/\x=(e.page,(AM.aR s.aB e.page).1.zero):=by
 unfold dH;simp only[List.mem_map,List.mem_filter,decide_eq_true_eq];exact⟨fun ⟨e,⟨h1,h2,h3⟩,h4⟩=>⟨e,h1,h2,h3,h4.symm⟩,fun ⟨e,h1,h2,h3,h4⟩=>⟨e,⟨h1,h2,h3⟩,h4.symm⟩⟩
theorem gT {ss:List Sp} {kd a:Int} {x:Int×Bool}:x∈names ss kd a↔∃s∈ss,∃e∈s.aA,e.kind=kd/\e.loc=a/\x=(e.page,(AM.aR s.aB e.page).1.zero):=by
 unfold names;rw[List.mem_flatMap];exact⟨fun ⟨s,hs,h⟩=>⟨s,hs,kJ.1 h⟩,fun ⟨s,hs,h⟩=>⟨s,hs,kJ.2 h⟩⟩
theorem qM:∀(l:List Sp) (j:Nat) (s:Sp) (kd a:Int),j<l.length->∃u v,names l kd a=u++(dH (au l j) kd a++v)/\names (l.set j s) kd a=u++(dH s kd a++v)
 | x::r,0,s,kd,a,_=>⟨[],names r kd a,fG x r kd a,fG s r kd a⟩
 | x::r,j+1,s,kd,a,h=>by
  obtain⟨u,v,h1,h2⟩:=qM r j s kd a (Nat.lt_of_succ_lt_succ h);refine⟨dH x kd a++u,v,?_,?_⟩
  · rw[fG,h1,List.append_assoc];rfl
  · rw[List.set_cons_succ,fG,h2,List.append_assoc]
theorem mq (f:Sp->Sp) (kd a:Int) (kd' a':Int):∀(l:List Sp),(∀s∈l,dH (f s) kd a=dH s kd' a')->names (l.map f) kd a=names l kd' a'
 | [],_=>rfl
 | x::r,h=>by
  rw[List.map_cons,fG,fG,h x List.mem_cons_self,mq f kd a kd' a' r (fun s hs=>h s (List.mem_cons_of_mem _ hs))]
theorem jG (f:Sp->Sp) (kd a:Int):∀(l:List Sp),(∀s∈l,dH (f s) kd a=[])->names (l.map f) kd a=[]
 | [],_=>rfl
 | x::r,h=>by
  rw[List.map_cons,fG,h x List.mem_cons_self,jG f kd a r (fun s hs=>h s (List.mem_cons_of_mem _ hs))];rfl
theorem mg (l m:List Sp):∀k,(∀i,i<k->(au l i).aB=(au m i).aB)->fp l k=fp m k
 | 0,_=>rfl
 | k+1,h=>by rw[fp,fp,mg l m k (fun i hi=>h i (Nat.lt_succ_of_lt hi)),h k (Nat.lt_succ_self k)]
def kW (es:List En):Prop:=(es.map (·.page)).Pairwise (·<·)
def bf (es:List En) (p:Int):Option En:=es.find? fun e=>decide (e.page=p)
theorem Bi {a:En} {r:List En} (h:kW (a::r)):kW r/\∀e∈r,a.page<e.page:=by
 have:=List.pairwise_cons.1 h;exact⟨this.2,fun e he=>this.1 _ (List.mem_map_of_mem he)⟩
theorem dM:∀{es:List En} {p:Int} {e:En},kW es->(bf es p=some e↔e∈es/\e.page=p)
 | [],p,e,_=>by simp[bf]
 | a::r,p,e,h=>by
  have hr:=Bi h;by_cases c:a.page=p
  · have:bf (a::r) p=some a:=by simp[bf,c]
    rw[this];refine⟨fun g=>by injection g with g;subst g;exact⟨List.mem_cons_self,c⟩,fun ⟨g1,g2⟩=>?_⟩;rcases List.mem_cons.1 g1 with rfl | g1
    · rfl
    · have:=hr.2 e g1;omega
  · have:bf (a::r) p=bf r p:=by simp[bf,c]
    rw[this,dM hr.1];refine⟨fun ⟨g1,g2⟩=>⟨List.mem_cons_of_mem _ g1,g2⟩,fun ⟨g1,g2⟩=>?_⟩;rcases List.mem_cons.1 g1 with rfl | g1
    · exact absurd g2 c
    · exact⟨g1,g2⟩
theorem lQ {es:List En} {p:Int}:bf es p=none↔∀e∈es,e.page≠p:=by
 unfold bf;rw[List.find?_eq_none];simp
def m8:List En->En->List En
 | [],e=>[e]
 | a::r,e=>if a.page<e.page then a::m8 r e else if a.page=e.page then e::r else e::a::r
theorem ow:∀{es:List En} {e:En},kW es->∃pre post,es=pre++((bf es e.page).toList++post)/\m8 es e=pre++e::post/\(∀x∈pre,x.page<e.page)/\∀x∈post,e.page<x.page
 | [],e,_=>⟨[],[],rfl,rfl,by simp,by simp⟩
 | a::r,e,h=>by
  have hr:=Bi h;unfold m8;by_cases c:a.page<e.page
  · obtain⟨pre,post,h1,h2,h3,h4⟩:=ow (es:=r) (e:=e) hr.1;have:bf (a::r) e.page=bf r e.page:=by simp[bf,show ¬a.page=e.page by omega]
    rw[if_pos c,this];refine⟨a::pre,post,by rw[List.cons_append,<- h1],by rw[h2];rfl,fun x hx=>?_,h4⟩;rcases List.mem_cons.1 hx with rfl | hx
    · exact c
    · exact h3 x hx
  · rw[if_neg c];by_cases d:a.page=e.page
    · have:bf (a::r) e.page=some a:=by simp[bf,d]
      rw[if_pos d,this];exact⟨[],r,rfl,rfl,by simp,fun x hx=>by have:=hr.2 x hx;omega⟩
    · have:bf (a::r) e.page=none:=lQ.2 fun x hx=>by
       rcases List.mem_cons.1 hx with rfl | hx
       · exact d
       · have:=hr.2 x hx;omega
      rw[if_neg d,this];refine⟨[],a::r,rfl,rfl,by simp,fun x hx=>?_⟩;rcases List.mem_cons.1 hx with rfl | hx
      · omega
      · have:=hr.2 x hx;omega
theorem NU {pre post:List En} {e:En} (hp:kW pre) (hq:kW post) (h1:∀x∈pre,x.page<e.page) (h2:∀x∈post,e.page<x.page):kW (pre++e::post):=by
 unfold kW at *;rw[List.map_append,List.map_cons,List.pairwise_append,List.pairwise_cons];refine⟨hp,⟨fun y hy=>?_,hq⟩,fun x hx y hy=>?_⟩
 · obtain⟨z,hz,rfl⟩:=List.mem_map.1 hy;exact h2 z hz
 · obtain⟨z,hz,rfl⟩:=List.mem_map.1 hx;rcases List.mem_cons.1 hy with rfl | hy
   · exact h1 z hz
   · obtain⟨u,hu,rfl⟩:=List.mem_map.1 hy;have:=h1 z hz;have:=h2 u hu;omega
theorem se {a b:List En} (h:kW (a++b)):kW a/\kW b:=by
 unfold kW at *;rw[List.map_append,List.pairwise_append] at h;exact⟨h.1,h.2.1⟩
theorem ED {es:List En} {e:En} (h:kW es):kW (m8 es e):=by
 obtain⟨pre,post,h1,h2,h3,h4⟩:=ow (e:=e) h;rw[h2];rw[h1] at h;exact NU (se h).1 (se (se h).2).2 h3 h4
def nm (ar:List AM.Ar) (kd a:Int) (es:List En):List (Int×Bool):=(es.filter fun e=>decide (e.kind=kd/\e.loc=a)).map fun e=>(e.page,(AM.aR ar e.page).1.zero)
theorem qN (s:Sp) (kd a:Int):dH s kd a=nm s.aB kd a s.aA:=rfl
theorem fQ (ar:List AM.Ar) (kd a:Int) (l r:List En):nm ar kd a (l++r)=nm ar kd a l++nm ar kd a r:=by unfold nm;rw[List.filter_append,List.map_append]
theorem qK (ar:List AM.Ar) (kd a:Int) (e:En) (r:List En):nm ar kd a (e::r)=nm ar kd a [e]++nm ar kd a r:=fQ ar kd a [e] r
theorem lT (ar:List AM.Ar) {kd a:Int} {e:En} (h:e.kind=kd/\e.loc=a):nm ar kd a [e]=[(e.page,(AM.aR ar e.page).1.zero)]:=by simp[nm,h]
theorem jY (ar:List AM.Ar) {kd a:Int} {e:En} (h:¬(e.kind=kd/\e.loc=a)):nm ar kd a [e]=[]:=by
 unfold nm;rw[List.filter_cons_of_neg (by simpa using h)];rfl
theorem CZ {ar:List AM.Ar} {kd a:Int} {es:List En} {x:Int×Bool}:x∈nm ar kd a es↔∃e∈es,e.kind=kd/\e.loc=a/\x=(e.page,(AM.aR ar e.page).1.zero):=kJ (s:=⟨true,ar,es⟩)
theorem Bt {ar:List AM.Ar} {kd a:Int} {es:List En} (h:∀e∈es,¬(e.kind=kd/\e.loc=a)):nm ar kd a es=[]:=by
 refine List.eq_nil_iff_forall_not_mem.2 fun x hx=>?_
 obtain⟨e,he,h1,h2,_⟩:=CZ.1 hx;exact h e he ⟨h1,h2⟩
theorem tC {l:List Sp} {j:Nat} (h:j<l.length):au l j∈l:=dO h
theorem aQ.sp {k:Kn} (h:aQ k) {j:Nat} (hj:j<k.aj.length):J8 k.ak k.frames.length k.slots.length (au k.aj j):=h.each _ (tC hj)
theorem fW {ss:List Sp} {j:Nat} (hj:j<ss.length) {e:En} (he:e∈(au ss j).aA):(e.page,(AM.aR (au ss j).aB e.page).1.zero)∈names ss e.kind e.loc:=gT.2 ⟨_,tC hj,e,he,rfl,rfl,rfl⟩
theorem aQ.frame {k:Kn} (h:aQ k) {i:Nat} {f:Fr} (hf:vA k.ak (names k.aj 1 i) f):aQ { k with frames:=k.frames.set i f }:=by
 have hl:(k.frames.set i f).length=k.frames.length:=List.length_set;refine⟨?_,h.eJ,by show 0<=k.hand/\k.hand<((k.frames.set i f).length:Int);rw[hl];exact h.hand,?_,h.room,?_,h.slt⟩
 · have:=h.counts;unfold KM.counts at this ⊢;simp only[hl];exact this
 · show ∀s∈k.aj,J8 k.ak (k.frames.set i f).length k.slots.length s;rw[hl];exact h.each
 · intro n hn;have hn':n<k.frames.length:=by rw[<- hl];exact hn
   show vA k.ak (names k.aj 1 n) ((k.frames.set i f).getD n mz);by_cases c:i=n
   · subst c;rw[bC _ _ _ _ hn'];exact hf
   · rw[getD_set_ne _ _ _ _ _ c];exact h.m7 n hn'
theorem aQ.turn {k:Kn} (h:aQ k) {x:Int} (hx:0<=x/\x<k.frames.length):aQ { k with hand:=x }:=⟨h.counts,h.eJ,hx,h.each,h.room,h.m7,h.slt⟩
theorem vA.seen {hs:List LM.Sh} {L:List (Int×Bool)} {f:Fr} (h:vA hs L f) (b:Bool) (hL:L≠[]):vA hs L { f with seen:=b }:=⟨h.refs,fun e=>absurd e hL,h.one,h.size,h.fill⟩
theorem vA.ne {hs:List LM.Sh} {L:List (Int×Bool)} {f:Fr} (h:vA hs L f) (hr:f.refs≠0):L≠[]:=fun e=>hr (by rw[h.refs,e];rfl)
theorem vA.nil {hs:List LM.Sh} {L:List (Int×Bool)} {f:Fr} (h:vA hs L f) (hr:f.refs=0):L=[]:=by
 have:=h.refs;rw[hr] at this;exact List.eq_nil_of_length_eq_zero (by omega)
theorem DT.nil {L:List (Int×Bool)} {f:Sl} (h:DT L f) (hr:f.refs=0):L=[]:=by
 have:=h.refs;rw[hr] at this;exact List.eq_nil_of_length_eq_zero (by omega)
theorem vA.none (hs:List LM.Sh):vA hs [] mz:=⟨rfl,fun _=>rfl,by simp,fun h=>absurd rfl h,by simp⟩
theorem DT.none:DT [] xe:=⟨rfl,fun _=>rfl,by simp,fun h=>absurd rfl h⟩
def jk (f:Fr):Fr:=if f.refs-1=0 then mz else { f with refs:=f.refs-1 }
def kv (f:Sl):Sl:=if f.refs-1=0 then xe else { f with refs:=f.refs-1 }
theorem vA.less {hs:List LM.Sh} {X Y:List (Int×Bool)} {x:Int×Bool} {f:Fr} (h:vA hs (X++x::Y) f):vA hs (X++Y) (jk f):=by
 have hr:=h.refs;have hn:X++x::Y≠[]:=by simp
 have hm:∀y∈X++Y,y∈X++x::Y:=fun y hy=>by
  rcases List.mem_append.1 hy with g | g
  · exact List.mem_append.2 (.inl g)
  · exact List.mem_append.2 (.inr (List.mem_cons_of_mem _ g))
 rw[List.length_append,List.length_cons] at hr;unfold jk;by_cases c:f.refs-1=0
 · rw[if_pos c];have:X++Y=[]:=List.eq_nil_of_length_eq_zero (by rw[List.length_append];omega);rw[this];exact vA.none hs
 · rw[if_neg c];refine⟨?_,fun e=>?_,fun a ha b hb=>h.one a (hm a ha) b (hm b hb),fun _=>h.size hn,fun d y hy=>h.fill d y (hm y hy)⟩
   · show f.refs-1=_;rw[List.length_append];omega
   · have:=congrArg List.length e;rw[List.length_append] at this;simp only[List.length_nil] at this;omega
theorem DT.less {X Y:List (Int×Bool)} {x:Int×Bool} {f:Sl} (h:DT (X++x::Y) f):DT (X++Y) (kv f):=by
 have hr:=h.refs;have hn:X++x::Y≠[]:=by simp
 have hm:∀y∈X++Y,y∈X++x::Y:=fun y hy=>by
  rcases List.mem_append.1 hy with g | g
  · exact List.mem_append.2 (.inl g)
  · exact List.mem_append.2 (.inr (List.mem_cons_of_mem _ g))
 rw[List.length_append,List.length_cons] at hr;unfold kv;by_cases c:f.refs-1=0
 · rw[if_pos c];have:X++Y=[]:=List.eq_nil_of_length_eq_zero (by rw[List.length_append];omega);rw[this];exact DT.none
 · rw[if_neg c];refine⟨?_,fun e=>?_,fun a ha b hb=>h.one a (hm a ha) b (hm b hb),fun _=>h.size hn⟩
   · show f.refs-1=_;rw[List.length_append];omega
   · have:=congrArg List.length e;rw[List.length_append] at this;simp only[List.length_nil] at this;omega
def jn (i:Int) (e:En):Bool:=decide (e.kind=1/\e.loc=i)
def yK (i:Int) (es:List En):List En:=es.filter fun e=>!jn i e
def gy (i s:Int) (es:List En):List En:=es.map fun e=>if jn i e then ⟨e.page,2,s⟩ else e
def wH (l:List Fr):Option Nat:=l.findIdx? fun f=>decide (f.refs=0)
def rN (l:List Sl):Option Nat:=l.findIdx? fun f=>decide (f.refs=0)
def oF (i:Int) (s:Sp):Sp:={ s with aA:=yK i s.aA }
def ie (i s:Int) (sp:Sp):Sp:={ sp with aA:=gy i s sp.aA }
def fJ (k:Kn) (i:Nat):Kn:={ k with frames:=k.frames.set i mz,aj:=k.aj.map (oF i) }
def xZ (k:Kn) (i s:Nat):Kn:={ k with frames:=k.frames.set i mz,slots:=k.slots.set s ⟨(aH k.frames i).data,(aH k.frames i).refs⟩,aj:=k.aj.map (ie i s) }
def cY (k:Kn) (i:Nat):Kn:=if (aH k.frames i).cj then (match rN k.slots with
 | some s=>xZ k i s
 | none=>fJ k i) else fJ k i
def dD (k:Kn) (j:Nat) (p:Int):ByteArray:=match bf (au k.aj j).aA p with
 | some e=>if e.kind=1 then (aH k.frames e.loc.toNat).data else (bj k.slots e.loc.toNat).data
 | none=>dY k.ak p (AM.aR (au k.aj j).aB p).1.zero
theorem getD_map {α β:Type} (f:α->β) (d:α) (d':β):∀(l:List α) (i:Nat),i<l.length->(l.map f).getD i d'=f (l.getD i d)
 | a::r,0,_=>rfl
 | a::r,i+1,h=>getD_map f d d' r i (Nat.lt_of_succ_lt_succ h)
theorem iI {i:Int} {e:En}:jn i e=true↔e.kind=1/\e.loc=i:=by simp[jn]
theorem jz {i:Int} {e:En}:jn i e=false↔¬(e.kind=1/\e.loc=i):=by simp[jn]
theorem tJ {i:Int} {es:List En} {e:En}:e∈yK i es↔e∈es/\¬(e.kind=1/\e.loc=i):=by
 unfold yK;rw[List.mem_filter,Bool.not_eq_true',jz]
theorem EJ {i:Int} {es:List En} (h:kW es):kW (yK i es):=List.Pairwise.sublist (List.filter_sublist.map _) h
theorem GA (i s:Int) (es:List En):(gy i s es).map (·.page)=es.map (·.page):=by
 unfold gy;rw[List.map_map];refine List.map_congr_left fun e _=>?_
 show(if jn i e then (⟨e.page,2,s⟩:En) else e).page=e.page;cases jn i e <;> rfl
theorem Ba {i s:Int} {es:List En} (h:kW es):kW (gy i s es):=by unfold kW;rw[GA];exact h
theorem pV {i s:Int} {es:List En} {x:En}:x∈gy i s es↔(x∈es/\¬(x.kind=1/\x.loc=i))∨∃e∈es,(e.kind=1/\e.loc=i)/\x=⟨e.page,2,s⟩:=by
 unfold gy;rw[List.mem_map];constructor
 · rintro⟨e,he,rfl⟩;by_cases c:e.kind=1/\e.loc=i
   · rw[if_pos (iI.2 c)];exact .inr ⟨e,he,c,rfl⟩
   · rw[if_neg (by rw[jz.2 c];simp)];exact .inl ⟨he,c⟩
 · rintro(⟨h,c⟩ | ⟨e,he,c,rfl⟩)
   · exact⟨x,h,by rw[if_neg (by rw[jz.2 c];simp)]⟩
   · exact⟨e,he,by rw[if_pos (iI.2 c)]⟩
theorem wL {α:Type} (p q:α->Bool):∀(l:List α),(∀x∈l,p x=q x)->l.filter p=l.filter q
 | [],_=>rfl
 | a::r,h=>by
  rw[List.filter_cons,List.filter_cons,h a List.mem_cons_self,wL p q r (fun x hx=>h x (List.mem_cons_of_mem _ hx))]
theorem Oh (ar:List AM.Ar) (i kd a:Int) (es:List En) (h:¬(kd=1/\a=i)):nm ar kd a (yK i es)=nm ar kd a es:=by
 unfold nm yK;rw[List.filter_filter];congr 1;refine wL _ _ _ fun e _=>?_
 by_cases c:e.kind=kd/\e.loc=a
 · have:jn i e=false:=jz.2 (by rw[c.1,c.2];exact h);rw[this];simp
 · simp[c]
theorem oY (ar:List AM.Ar) (i:Int) (es:List En):nm ar 1 i (yK i es)=[]:=Bt fun e he=>(tJ.1 he).2
theorem CY (ar:List AM.Ar) (i s kd a:Int) (h:¬(kd=1/\a=i)) (h2:¬(kd=2/\a=s)):∀es:List En,nm ar kd a (gy i s es)=nm ar kd a es
 | []=>rfl
 | e::r=>by
  have e1:gy i s (e::r)=(if jn i e then ⟨e.page,2,s⟩ else e)::gy i s r:=rfl;rw[e1,qK,qK ar kd a e r,CY ar i s kd a h h2 r];congr 1;by_cases c:e.kind=1/\e.loc=i
  · rw[if_pos (iI.2 c),jY ar (fun g=>h2 ⟨g.1.symm,g.2.symm⟩),jY ar (fun g=>h (by rw[<- g.1,<- g.2];exact c))]
  · rw[if_neg (by rw[jz.2 c];simp)]
theorem vT (ar:List AM.Ar) (i s:Int) (es:List En):nm ar 1 i (gy i s es)=[]:=Bt fun e he g=>by
 rcases pV.1 he with h | ⟨x,_,_,rfl⟩
 · exact h.2 g
 · have:=g.1;simp at this
theorem yO (ar:List AM.Ar) (i s:Int):∀es:List En,(∀e∈es,¬(e.kind=2/\e.loc=s))->nm ar 2 s (gy i s es)=nm ar 1 i es
 | [],_=>rfl
 | e::r,h=>by
  have e1:gy i s (e::r)=(if jn i e then ⟨e.page,2,s⟩ else e)::gy i s r:=rfl;rw[e1,qK,qK ar 1 i e r,yO ar i s r (fun x hx=>h x (List.mem_cons_of_mem _ hx))];congr 1;by_cases c:e.kind=1/\e.loc=i
  · rw[if_pos (iI.2 c),lT ar (e:=⟨e.page,2,s⟩) (kd:=2) (a:=s) ⟨rfl,rfl⟩,lT ar c]
  · rw[if_neg (by rw[jz.2 c];simp),jY ar (h e List.mem_cons_self),jY ar c]
theorem Ew (f:Sp->Sp) (hf:∀s,(f s).aB=s.aB) (l:List Sp):room (l.map f)=room l:=by
 unfold room;rw[List.length_map];refine mg _ _ _ fun i hi=>?_
 unfold au;rw[getD_map f uu uu l i hi,hf]
theorem aQ.fJ {k:Kn} (h:aQ k) {i:Nat} (hi:i<k.frames.length):aQ (fJ k i):=by
 have hl:(k.frames.set i mz).length=k.frames.length:=List.length_set;have hm:(k.aj.map (oF i)).length=k.aj.length:=List.length_map ..;refine⟨?_,h.eJ,by show 0<=k.hand/\k.hand<((k.frames.set i mz).length:Int);rw[hl];exact h.hand,?_,?_,?_,?_⟩
 · have:=h.counts;unfold KM.counts at this ⊢;simp only[KM.fJ,hl,hm];exact this
 · show ∀s∈k.aj.map (oF i),J8 k.ak (k.frames.set i mz).length k.slots.length s;rw[hl];intro s hs;obtain⟨s,hsq,rfl⟩:=List.mem_map.1 hs;have g:=h.each s hsq;exact⟨fun d=>⟨(g.dead d).1,by show yK i s.aA=[];rw[(g.dead d).2];rfl⟩,g.aB,EJ g.eJ,fun e he=>g.u9 e (tJ.1 he).1,g.ak⟩
 · show KM.room (k.aj.map (oF i))<=_;rw[Ew (oF i) (fun _=>rfl)];exact h.room
 · intro n hn;have hn':n<k.frames.length:=by rw[<- hl];exact hn
   show vA k.ak (names (k.aj.map (oF i)) 1 n) ((k.frames.set i mz).getD n mz);by_cases c:i=n
   · subst c;rw[bC _ _ _ _ hn',jG (oF i) 1 i _ (fun s _=>oY s.aB i s.aA)];exact vA.none _
   · rw[getD_set_ne _ _ _ _ _ c,mq (oF i) 1 n 1 n _ (fun s _=>Oh s.aB i 1 n s.aA (by omega))];exact h.m7 n hn'
 · intro n hn;show DT (names (k.aj.map (oF i)) 2 n) (bj k.slots n);rw[mq (oF i) 2 n 2 n _ (fun s _=>Oh s.aB i 2 n s.aA (by omega))];exact h.slt n hn
theorem aQ.xZ {k:Kn} (h:aQ k) {i s:Nat} (hi:i<k.frames.length) (hs:s<k.slots.length) (hf:names k.aj 2 s=[]):aQ (xZ k i s):=by
 have hl:(k.frames.set i mz).length=k.frames.length:=List.length_set;have hl2:(k.slots.set s ⟨(aH k.frames i).data,(aH k.frames i).refs⟩).length=k.slots.length:=List.length_set;have hm:(k.aj.map (ie i s)).length=k.aj.length:=List.length_map ..;have hno:∀sp∈k.aj,∀e∈sp.aA,¬(e.kind=2/\e.loc=(s:Int)):=fun sp hsp e he g=>by
  have:(e.page,(AM.aR sp.aB e.page).1.zero)∈names k.aj 2 s:=gT.2 ⟨sp,hsp,e,he,g.1,g.2,rfl⟩;rw[hf] at this;cases this
 refine⟨?_,h.eJ,by show 0<=k.hand/\k.hand<((k.frames.set i mz).length:Int);rw[hl];exact h.hand,?_,?_,?_,?_⟩
 · have:=h.counts;unfold KM.counts at this ⊢;simp only[KM.xZ,hl,hl2,hm];exact this
 · show ∀sp∈k.aj.map (ie i s),J8 k.ak (k.frames.set i mz).length (k.slots.set s ⟨(aH k.frames i).data,(aH k.frames i).refs⟩).length sp;rw[hl,hl2];intro sp hsp;obtain⟨sp,hsq,rfl⟩:=List.mem_map.1 hsp;have g:=h.each sp hsq;refine⟨fun d=>⟨(g.dead d).1,by show gy i s sp.aA=[];rw[(g.dead d).2];rfl⟩,g.aB,Ba g.eJ,fun e he=>?_,g.ak⟩;rcases pV.1 he with x | ⟨x,hx,hc,rfl⟩
   · exact g.u9 e x.1
   · exact⟨(g.u9 x hx).1,.inr ⟨rfl,by show(0:Int)<=(s:Int);omega,by show(s:Int)<_;omega⟩⟩
 · show KM.room (k.aj.map (ie i s))<=((k.slots.set s ⟨(aH k.frames i).data,(aH k.frames i).refs⟩).length:Int);rw[hl2,Ew (ie i s) (fun _=>rfl)];exact h.room
 · intro n hn;have hn':n<k.frames.length:=by rw[<- hl];exact hn
   show vA k.ak (names (k.aj.map (ie i s)) 1 n) ((k.frames.set i mz).getD n mz);by_cases c:i=n
   · subst c;rw[bC _ _ _ _ hn',jG (ie i s) 1 i _ (fun sp _=>vT sp.aB i s sp.aA)];exact vA.none _
   · rw[getD_set_ne _ _ _ _ _ c,mq (ie i s) 1 n 1 n _ (fun sp _=>CY sp.aB i s 1 n (by omega) (by omega) sp.aA)];exact h.m7 n hn'
 · intro n hn;have hn':n<k.slots.length:=by rw[<- hl2];exact hn
   show DT (names (k.aj.map (ie i s)) 2 n) ((k.slots.set s ⟨(aH k.frames i).data,(aH k.frames i).refs⟩).getD n xe);by_cases c:s=n
   · subst c;rw[bC _ _ _ _ hn',mq (ie i s) 2 s 1 i _ (fun sp hsp=>yO sp.aB i s sp.aA (hno sp hsp))];have g:=h.m7 i hi;exact⟨g.refs,fun e=>by rw[g.zero e];rfl,g.one,g.size⟩
   · rw[getD_set_ne _ _ _ _ _ c,mq (ie i s) 2 n 2 n _ (fun sp _=>CY sp.aB i s 2 n (by omega) (by omega) sp.aA)];exact h.slt n hn'
theorem uM:∀(n:Nat) (L:List Int),(∀i:Nat,i<n->(i:Int)∈L)->n<=L.length
 | 0,_,_=>Nat.zero_le _
 | n+1,L,h=>by
  have hn:=h n (Nat.lt_succ_self n);have:=uM n (L.erase (n:Int)) (fun i hi=>(List.mem_erase_of_ne (by omega)).2 (h i (by omega)));rw[List.length_erase_of_mem hn] at this;have:0<L.length:=List.length_pos_of_mem hn;omega
def sX (ss:List Sp):List En:=ss.flatMap (·.aA)
theorem kP {hs:List LM.Sh} {nf ns:Nat} {s:Sp} (g:J8 hs nf ns s):(s.aA.length:Int)<=AM.b7 s.aB:=by
 rw[FM.Eb g.aB];have:=FM.uF (FM.dV s.aB) (s.aA.map (·.page)) g.eJ (FM.Qs g.aB).sorted (fun x hx=>by
  obtain⟨e,he,rfl⟩:=List.mem_map.1 hx;exact(FM.Mb g.aB _).1 (g.u9 e he).1)
 rw[List.length_map] at this;omega
theorem Av (l r:List Sp):∀k,k<=l.length->fp (l++r) k=fp l k:=fun k hk=>mg _ _ _ fun i hi=>by
 unfold au;rw[List.getD_eq_getElem?_getD,List.getD_eq_getElem?_getD,List.getElem?_append_left (by omega)]
theorem Bg (l:List Sp) (s:Sp):room (l++[s])=room l+AM.b7 s.aB:=by
 unfold room;rw[List.length_append,List.length_singleton,fp,Av l [s] l.length (Nat.le_refl _)];unfold au;rw[List.getD_eq_getElem?_getD,List.getElem?_append_right (Nat.le_refl _),Nat.sub_self];rfl
theorem zW:∀(m:Nat) (l:List Sp),l.length=m->(∀s∈l,(s.aA.length:Int)<=AM.b7 s.aB)->((sX l).length:Int)<=room l
 | 0,l,h,_=>by
  have:l=[]:=List.eq_nil_of_length_eq_zero h;subst this;exact Int.le_refl _
 | m+1,l,h,hs=>by
  have hne:l≠[]:=fun e=>by rw[e] at h;cases h
  obtain⟨l',s,rfl⟩:∃l' s,l=l'++[s]:=⟨l.dropLast,l.getLast hne,(List.dropLast_concat_getLast hne).symm⟩;rw[Bg];have:=zW m l' (by rw[List.length_append,List.length_singleton] at h;omega) (fun x hx=>hs x (List.mem_append.2 (.inl hx)));have h2:=hs s (by simp);unfold sX at *;rw[List.flatMap_append,List.length_append];simp only[List.flatMap_cons,List.flatMap_nil,List.append_nil];omega
theorem aQ.slot {k:Kn} (h:aQ k) {i:Nat} (hi:i<k.frames.length) (hr:(aH k.frames i).refs≠0):∃s,rN k.slots=some s/\s<k.slots.length/\names k.aj 2 s=[]:=by
 cases hf:rN k.slots with
 | some s =>
  obtain⟨h1,h2,_⟩:=List.findIdx?_eq_some_iff_getElem.1 hf;refine⟨s,rfl,h1,(h.slt s h1).nil ?_⟩;unfold bj;rw[List.getD_eq_getElem?_getD,List.getElem?_eq_getElem h1];exact of_decide_eq_true h2
 | none =>
  exfalso;have hno:=List.findIdx?_eq_none_iff.1 hf;have hall:∀n:Nat,n<k.slots.length->∃e∈sX k.aj,e.kind=2/\e.loc=(n:Int):=fun n hn=>by
   have h1:=hno (bj k.slots n) (dO hn);have h2:=(h.slt n hn).refs;have h3:names k.aj 2 n≠[]:=fun e=>by
    rw[e] at h2;simp[h2] at h1
   obtain⟨x,hx⟩:=List.exists_mem_of_ne_nil _ h3;obtain⟨s,hs,e,he,g1,g2,_⟩:=gT.1 hx;exact⟨e,List.mem_flatMap.2 ⟨s,hs,he⟩,g1,g2⟩
  have hp:=uM k.slots.length (((sX k.aj).filter fun e:En=>decide (e.kind=2)).map (·.loc)) (fun n hn=>by
   obtain⟨e,he,g1,g2⟩:=hall n hn;exact List.mem_map.2 ⟨e,List.mem_filter.2 ⟨he,by simpa using g1⟩,g2⟩)
  rw[List.length_map] at hp;have hroom:=zW _ k.aj rfl (fun s hs=>kP (h.each s hs));have hr2:=h.room;obtain⟨x,hx⟩:=List.exists_mem_of_ne_nil _ ((h.m7 i hi).ne hr);obtain⟨s,hs,e,he,g1,g2,_⟩:=gT.1 hx;have hea:e∈sX k.aj:=List.mem_flatMap.2 ⟨s,hs,he⟩;have hlt:((sX k.aj).filter fun e:En=>decide (e.kind=2)).length<(sX k.aj).length:=by
   rcases Nat.lt_or_eq_of_le (List.length_filter_le (fun e:En=>decide (e.kind=2)) (sX k.aj)) with g | g
   · exact g
   · have:=(List.length_filter_eq_length_iff.1 g) e hea;simp[g1] at this
  omega
theorem aQ.aside {k:Kn} (h:aQ k) {i:Nat} (hi:i<k.frames.length) (hr:(aH k.frames i).refs≠0):aQ (cY k i):=by
 unfold cY;by_cases c:(aH k.frames i).cj=true
 · rw[if_pos c];obtain⟨s,h1,h2,h3⟩:=h.slot hi hr;rw[h1];exact h.xZ hi h2 h3
 · rw[if_neg c];exact h.fJ hi
def dU (s:Sp) (es:List En):Sp:=⟨s.live,s.aB,es⟩
def b9 (k:Kn) (e:En):Kn:=if e.kind=1 then { k with frames:=k.frames.set e.loc.toNat (jk (aH k.frames e.loc.toNat)) } else { k with slots:=k.slots.set e.loc.toNat (kv (bj k.slots e.loc.toNat)) }
def dZ (k:Kn) (j:Nat) (e:En):Kn:={ k with aj:=k.aj.set j (dU (au k.aj j) (m8 (au k.aj j).aA e)) }
def jm (k:Kn) (i:Nat) (d:ByteArray) (dy:Bool):Kn:={ k with frames:=k.frames.set i ⟨d,1,dy,false⟩ }
def cZ (k:Kn) (j:Nat) (p:Int) (i:Nat) (d:ByteArray) (dy:Bool):Kn:=match bf (au k.aj j).aA p with
 | none=>dZ (jm k i d dy) j ⟨p,1,i⟩
 | some e=>b9 (dZ (jm k i d dy) j ⟨p,1,i⟩) e
theorem yP {ss:List Sp} {j:Nat} (hj:j<ss.length) (e:En) (hr:kW (au ss j).aA) (kd a:Int):∃X Y,names ss kd a=X++(nm (au ss j).aB kd a (bf (au ss j).aA e.page).toList++Y)/\names (ss.set j (dU (au ss j) (m8 (au ss j).aA e))) kd a=X++(nm (au ss j).aB kd a [e]++Y):=by
 obtain⟨pre,post,h1,h2,_,_⟩:=ow (e:=e) hr;obtain⟨u,v,g1,g2⟩:=qM ss j (dU (au ss j) (m8 (au ss j).aA e)) kd a hj;refine⟨u++nm (au ss j).aB kd a pre,nm (au ss j).aB kd a post++v,?_,?_⟩
 · rw[g1,qN]
   conv=>lhs;rw[h1]
   rw[fQ,fQ];simp only[List.append_assoc]
 · rw[g2,qN];show u++(nm (au ss j).aB kd a (m8 (au ss j).aA e)++v)=_;rw[h2,fQ,qK];simp only[List.append_assoc]
theorem Jn {es:List En} (h:kW es) (e:En) (p:Int):bf (m8 es e) p=if p=e.page then some e else bf es p:=by
 have hp:=ED (e:=e) h;obtain⟨pre,post,h1,h2,h3,h4⟩:=ow (e:=e) h;by_cases c:p=e.page
 · rw[if_pos c,dM hp,h2];exact⟨by simp,c.symm⟩
 · rw[if_neg c];cases g:bf es p with
   | none =>
    rw[lQ] at g ⊢;intro x hx;rw[h2] at hx;rcases List.mem_append.1 hx with y | y
    · exact g x (by rw[h1];exact List.mem_append.2 (.inl y))
    · rcases List.mem_cons.1 y with rfl | y
      · exact fun e=>c e.symm
      · exact g x (by rw[h1];exact List.mem_append.2 (.inr (List.mem_append.2 (.inr y))))
   | some x =>
    obtain⟨m1,m2⟩:=(dM h).1 g;rw[dM hp,h2];refine⟨?_,m2⟩;rw[h1] at m1;rcases List.mem_append.1 m1 with y | y
    · exact List.mem_append.2 (.inl y)
    · rcases List.mem_append.1 y with z | z
      · have:bf es e.page=some x:=by
         cases q:bf es e.page with
         | none=>rw[q] at z;cases z
         | some y=>rw[q] at z;simp at z;rw[z]
        exact absurd (m2.symm.trans ((dM h).1 this).2) c
      · exact List.mem_append.2 (.inr (List.mem_cons_of_mem _ z))
theorem fR (l:List Sp) (j n:Nat) (s:Sp) (hj:j<l.length):au (l.set j s) n=if j=n then s else au l n:=by
 unfold au;by_cases c:j=n
 · subst c;rw[if_pos rfl,bC _ _ _ _ hj]
 · rw[if_neg c,getD_set_ne _ _ _ _ _ c]
theorem eW (l:List Fr) (j n:Nat) (s:Fr) (hj:j<l.length):aH (l.set j s) n=if j=n then s else aH l n:=by
 unfold aH;by_cases c:j=n
 · subst c;rw[if_pos rfl,bC _ _ _ _ hj]
 · rw[if_neg c,getD_set_ne _ _ _ _ _ c]
theorem ot (l:List Sl) (j n:Nat) (s:Sl) (hj:j<l.length):bj (l.set j s) n=if j=n then s else bj l n:=by
 unfold bj;by_cases c:j=n
 · subst c;rw[if_pos rfl,bC _ _ _ _ hj]
 · rw[if_neg c,getD_set_ne _ _ _ _ _ c]
theorem yw (l:List Sp) (j:Nat) (s:Sp) (hj:j<l.length) (ha:s.aB=(au l j).aB):room (l.set j s)=room l:=by
 unfold room;rw[List.length_set];refine mg _ _ _ fun i _=>?_
 rw[fR l j i s hj];by_cases c:j=i
 · rw[if_pos c,ha,c]
 · rw[if_neg c]
structure lu (k:Kn) (j:Nat) (p:Int) (i:Nat) (d:ByteArray) (dy:Bool):Prop where
 right:aQ k
 hj:j<k.aj.length
 hp:(AM.aR (au k.aj j).aB p).2=true
 hi:i<k.frames.length
 free:names k.aj 1 i=[]
 size:d.size=16
 fill:dy=false->d=dY k.ak p (AM.aR (au k.aj j).aB p).1.zero
theorem fN {k:Kn} (h:aQ k) {j:Nat} (hj:j<k.aj.length) {e:En} (he:e∈(au k.aj j).aA):(e.kind=1/\(e.loc.toNat:Int)=e.loc/\e.loc.toNat<k.frames.length)∨(e.kind=2/\(e.loc.toNat:Int)=e.loc/\e.loc.toNat<k.slots.length):=by
 rcases((h.sp hj).u9 e he).2 with g | g
 · exact .inl ⟨g.1,by omega,by omega⟩
 · exact .inr ⟨g.1,by omega,by omega⟩
theorem iF (k:Kn) (j:Nat) (p:Int) (i:Nat) (d:ByteArray) (dy:Bool) (m:lu k j p i d dy):(cZ k j p i d dy).frames.length=k.frames.length/\(cZ k j p i d dy).slots.length=k.slots.length/\(cZ k j p i d dy).ak=k.ak/\(cZ k j p i d dy).hand=k.hand/\(cZ k j p i d dy).aj=k.aj.set j (dU (au k.aj j) (m8 (au k.aj j).aA ⟨p,1,i⟩)) /\
  (∀n,aH (cZ k j p i d dy).frames n=if n=i then ⟨d,1,dy,false⟩ else match bf (au k.aj j).aA p with
   | some e=>if e.kind=1/\e.loc=(n:Int) then jk (aH k.frames n) else aH k.frames n
   | none=>aH k.frames n) /\
  (∀n,bj (cZ k j p i d dy).slots n=match bf (au k.aj j).aA p with
   | some e=>if e.kind=2/\e.loc=(n:Int) then kv (bj k.slots n) else bj k.slots n
   | none=>bj k.slots n):=by
 have hr:=(m.right.sp m.hj).eJ;unfold cZ;cases g:bf (au k.aj j).aA p with
 | none =>
  refine⟨List.length_set,rfl,rfl,rfl,rfl,fun n=>?_,fun n=>rfl⟩;show aH (k.frames.set i _) n=_;rw[eW _ _ _ _ m.hi];by_cases c:n=i
  · rw[if_pos c,if_pos c.symm]
  · rw[if_neg c,if_neg (fun e=>c e.symm)]
 | some e =>
  have he:=(dM hr).1 g;have hne:e.kind=1->e.loc.toNat≠i:=fun h1 h2=>by
   have:=fW m.hj he.1;rcases fN m.right m.hj he.1 with b | b
   · rw[h1,<- b.2.1,h2,m.free] at this;cases this
   · omega
  dsimp only;unfold b9;rcases fN m.right m.hj he.1 with b | b
  · rw[if_pos b.1];have hne:=hne b.1;refine⟨by show((k.frames.set i _).set _ _).length=_;rw[List.length_set,List.length_set],rfl,rfl,rfl,rfl,fun n=>?_,fun n=>?_⟩
    · show aH ((k.frames.set i _).set _ (jk (aH (k.frames.set i _) _))) n=_;rw[eW _ _ _ _ (by rw[List.length_set];exact b.2.2),eW _ _ n _ m.hi,eW _ _ e.loc.toNat _ m.hi,if_neg (show ¬i=e.loc.toNat from fun e=>hne e.symm)];by_cases c:n=i
      · rw[if_neg (by omega),if_pos c.symm,if_pos c]
      · rw[if_neg c,if_neg (show ¬i=n from fun e=>c e.symm)];by_cases c2:e.loc.toNat=n
        · rw[if_pos c2];show _=if e.kind=1/\e.loc=(n:Int) then _ else _
          rw[if_pos ⟨b.1,by omega⟩,c2]
        · rw[if_neg c2];show _=if e.kind=1/\e.loc=(n:Int) then _ else _
          rw[if_neg (by omega)]
    · show bj k.slots n=if e.kind=2/\e.loc=(n:Int) then _ else _
      rw[if_neg (by omega)]
  · rw[if_neg (by omega)];refine⟨List.length_set,List.length_set,rfl,rfl,rfl,fun n=>?_,fun n=>?_⟩
    · show aH (k.frames.set i _) n=if n=i then _ else if e.kind=1/\e.loc=(n:Int) then _ else _
      rw[eW _ _ _ _ m.hi,if_neg (show ¬(e.kind=1/\e.loc=(n:Int)) by omega)];by_cases c:n=i
      · rw[if_pos c,if_pos c.symm]
      · rw[if_neg c,if_neg (fun e=>c e.symm)]
    · show bj (k.slots.set _ (kv (bj k.slots _))) n=if e.kind=2/\e.loc=(n:Int) then _ else _
      rw[ot _ _ _ _ b.2.2];by_cases c2:e.loc.toNat=n
      · rw[if_pos c2,if_pos ⟨b.1,by omega⟩,c2]
      · rw[if_neg c2,if_neg (by omega)]
theorem oZ {k:Kn} {j:Nat} {p:Int} {i:Nat} {d:ByteArray} {dy:Bool} (m:lu k j p i d dy):aQ (cZ k j p i d dy):=by
 have h:=m.right;have hsp:=h.sp m.hj;obtain⟨f1,f2,f3,f4,f5,f6,f7⟩:=iF k j p i d dy m;have hlen:(cZ k j p i d dy).aj.length=k.aj.length:=by rw[f5,List.length_set]
 refine⟨?_,by rw[f3];exact h.eJ,by rw[f4,f1];exact h.hand,?_,?_,?_,?_⟩
 · have:=h.counts;unfold KM.counts at this ⊢;rw[f1,f2,f3,hlen];exact this
 · rw[f1,f2,f3,f5];intro s hs;rcases List.mem_or_eq_of_mem_set hs with g | rfl
   · exact h.each s g
   · refine⟨fun dd=>?_,hsp.aB,ED hsp.eJ,fun e he=>?_,hsp.ak⟩
     · have:=m.hp;rw[(hsp.dead dd).1] at this;cases this
     · obtain⟨pre,post,h1,h2,_,_⟩:=ow (e:=(⟨p,1,i⟩:En)) hsp.eJ;rw[show(dU (au k.aj j) (m8 (au k.aj j).aA ⟨p,1,i⟩)).aA=pre++⟨p,1,i⟩::post from h2] at he;have hin:∀x,x∈pre∨x∈post->x∈(au k.aj j).aA:=fun x hx=>by
        rw[h1];rcases hx with g | g
        · exact List.mem_append.2 (.inl g)
        · exact List.mem_append.2 (.inr (List.mem_append.2 (.inr g)))
       rcases List.mem_append.1 he with g | g
       · exact hsp.u9 e (hin e (.inl g))
       · rcases List.mem_cons.1 g with rfl | g
         · exact⟨m.hp,.inl ⟨rfl,by show(0:Int)<=(i:Int);omega,by show(i:Int)<_;have:=m.hi;omega⟩⟩
         · exact hsp.u9 e (hin e (.inr g))
 · rw[f2,f5,yw _ _ (dU (au k.aj j) (m8 (au k.aj j).aA ⟨p,1,i⟩)) m.hj rfl];exact h.room
 · intro n hn;rw[f1] at hn;rw[f3,f5,f6];obtain⟨X,Y,h1,h2⟩:=yP m.hj ⟨p,1,i⟩ hsp.eJ 1 n;rw[h2];by_cases c:n=i
   · subst c;rw[if_pos rfl,lT _ (e:=(⟨p,1,n⟩:En)) ⟨rfl,rfl⟩];rw[m.free] at h1;have hX:X=[]:=(List.append_eq_nil_iff.1 h1.symm).1;have hY:Y=[]:=(List.append_eq_nil_iff.1 (List.append_eq_nil_iff.1 h1.symm).2).2;subst hX hY;refine⟨rfl,fun e=>(by cases e),fun x hx y hy=>?_,fun _=>m.size,fun e x hx=>?_⟩
     · simp at hx hy;rw[hx,hy]
     · simp at hx;rw[hx];exact m.fill e
   · rw[if_neg c,jY _ (e:=(⟨p,1,i⟩:En)) (fun g=>c (by have:=g.2;simp at this;omega))];have hf:=h.m7 n hn;rw[h1] at hf;cases g:bf (au k.aj j).aA p with
     | none =>
      rw[g] at hf;exact hf
     | some e =>
      rw[g] at hf;show vA k.ak (X++([]++Y)) (if e.kind=1/\e.loc=(n:Int) then jk (aH k.frames n) else aH k.frames n);rw[List.nil_append];by_cases c2:e.kind=1/\e.loc=(n:Int)
      · rw[if_pos c2];rw[show(some e).toList=[e] from rfl,lT _ c2] at hf;exact hf.less
      · rw[if_neg c2];rw[show(some e).toList=[e] from rfl,jY _ c2] at hf;exact hf
 · intro n hn;rw[f2] at hn;rw[f5,f7];obtain⟨X,Y,h1,h2⟩:=yP m.hj ⟨p,1,i⟩ hsp.eJ 2 n;rw[h2,jY _ (e:=(⟨p,1,i⟩:En)) (fun g=>by have:=g.1;simp at this)];have hf:=h.slt n hn;rw[h1] at hf;cases g:bf (au k.aj j).aA p with
   | none =>
    rw[g] at hf;exact hf
   | some e =>
    rw[g] at hf;show DT (X++([]++Y)) (if e.kind=2/\e.loc=(n:Int) then kv (bj k.slots n) else bj k.slots n);rw[List.nil_append];by_cases c2:e.kind=2/\e.loc=(n:Int)
    · rw[if_pos c2];rw[show(some e).toList=[e] from rfl,lT _ c2] at hf;exact hf.less
    · rw[if_neg c2];rw[show(some e).toList=[e] from rfl,jY _ c2] at hf;exact hf
end KM
end Go.Proofs.YtpgifpeohlllfaaGreat
