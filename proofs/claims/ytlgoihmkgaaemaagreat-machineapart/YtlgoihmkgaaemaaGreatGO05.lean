import Derived.Test.YtlgoihmkgaaemaaGreatGO04
set_option maxHeartbeats 20000000
set_option linter.unusedVariables false
set_option maxRecDepth 100000
set_option linter.unusedSimpArgs false
namespace Go.Proofs.YtlgoihmkgaaemaaGreat
open Go.RowKit
structure lV where
 data:ByteArray
 refs:Int
 jG:Bool
 seen:Bool
structure pd where
 data:ByteArray
 refs:Int
structure bD where
 page:Int
 kind:Int
 loc:Int
structure cZ where
 live:Bool
 aT:List aY
 bf:List bD
structure aR where
 aM:List bG
 frames:List lV
 slots:List pd
 aj:List cZ
 hand:Int
def gX:lV:=⟨⟨#[]⟩,0,false,false⟩
def oc:pd:=⟨⟨#[]⟩,0⟩
def gY:bD:=⟨0,0,0⟩
def rp:cZ:=⟨false,[],[]⟩
def aH (l:List lV) (i:Nat):lV:=l.getD i gX
def bE (l:List pd) (i:Nat):pd:=l.getD i oc
def aX (l:List bD) (i:Nat):bD:=l.getD i gY
def ak (l:List cZ) (i:Nat):cZ:=l.getD i rp
theorem jT {α:Type} {d:α}:∀{l:List α} {i:Nat},i<l.length->l.getD i d∈l
 | [],i,h=>absurd h (jf _)
 | a::r,0,h=>Dy
 | a::r,i+1,h=>Hb _ (jT (l:=r) (Dx h))
theorem lM {α:Type} (d:α):∀{l:List α} {x:α},x∈l->∃i,i<l.length/\l.getD i d=x
 | a::r,x,h=>by
  rcases uQ.1 h with rfl | h
  · exact⟨0,Pk _,rfl⟩
  · obtain⟨i,hi,e⟩:=lM d h;exact⟨i+1,Pj hi,e⟩
theorem eT {α:Type} (d x:α):∀(l:List α) (i:Nat),i<l.length->(l.set i x).getD i d=x
 | a::r,0,_=>rfl
 | a::r,i+1,h=>eT d x r i (Dx h)
theorem tu {α:Type} (d x:α):∀(l:List α) (i j:Nat),i≠j->(l.set i x).getD j d=l.getD j d
 | [],_,_,_=>rfl
 | a::r,0,0,h=>absurd rfl h
 | a::r,0,j+1,_=>rfl
 | a::r,i+1,0,_=>rfl
 | a::r,i+1,j+1,h=>tu d x r i j (fun e=>h (by rw[e]))
def fJ (s:cZ) (kd at_:Int):List (Int×Bool):=(s.bf.filter fun e=>decide (e.kind=kd/\e.loc=at_)).map fun e=>(e.page,(aV s.aT e.page).1.zero)
def bU (ss:List cZ) (kd at_:Int):List (Int×Bool):=ss.flatMap fun s=>fJ s kd at_
def iJ (hs:List bG) (p:Int):Option bG:=hs.find? fun s=>decide (s.page=p)
def fq (hs:List bG) (p:Int):ByteArray:=match iJ hs p with
 | some s=>rI s
 | none=>⟨#[]⟩
def vC:ByteArray:=⟨#[0,0,0,0,0,0,0,0,0,0,0,0,0,0,0,0]⟩
def fY (hs:List bG) (p:Int) (z:Bool):ByteArray:=if z then vC else fq hs p
def yC (nf ns:Nat) (ar:List aY) (e:bD):Prop:=(aV ar e.page).2=true/\((e.kind=1/\0<=e.loc/\e.loc<nf)∨(e.kind=2/\0<=e.loc/\e.loc<ns))
structure vh (hs:List bG) (nf ns:Nat) (s:cZ):Prop where
 dead:s.live=false->s.aT=[]/\s.bf=[]
 aT:bj s.aT=0
 lT:(s.bf.map (·.page)).Pairwise (·<·)
 Mq:∀e∈s.bf,yC nf ns s.aT e
 aM:∀p,(aV s.aT p).2=true->(aV s.aT p).1.zero=false->(iJ hs p).isSome=true
structure lU (hs:List bG) (L:List (Int×Bool)) (f:lV):Prop where
 refs:f.refs=L.length
 zero:L=[]->f=gX
 one:∀x∈L,∀y∈L,x=y
 size:L≠[]->f.data.size=16
 fill:f.jG=false->∀x∈L,f.data=fY hs x.1 x.2
structure oV (L:List (Int×Bool)) (s:pd):Prop where
 refs:s.refs=L.length
 zero:L=[]->s=oc
 one:∀x∈L,∀y∈L,x=y
 size:L≠[]->s.data.size=16
def jH (l:List cZ):Nat->Int
 | 0=>0
 | k+1=>jH l k+bh (ak l k).aT
def eD (l:List cZ):Int:=jH l l.length
def nz (k:aR):Bool:=decide ((3<=k.frames.length/\k.frames.length<=64)/\k.slots.length<=512/\(1<=k.aj.length/\k.aj.length<=4)/\k.aM.length<=255)
structure aW (k:aR):Prop where
 counts:nz k=true
 lT:ia k.aM=true
 hand:0<=k.hand/\k.hand<k.frames.length
 each:∀s∈k.aj,vh k.aM k.frames.length k.slots.length s
 room:eD k.aj<=k.slots.length
 zP:∀i:Nat,i<k.frames.length->lU k.aM (bU k.aj 1 i) (aH k.frames i)
 slt:∀i:Nat,i<k.slots.length->oV (bU k.aj 2 i) (bE k.slots i)
theorem aW.c {k:aR} (h:aW k):(3<=k.frames.length/\k.frames.length<=64)/\k.slots.length<=512/\(1<=k.aj.length/\k.aj.length<=4)/\k.aM.length<=255:=o5 h.counts
theorem Li (kd a:Int):bU [] kd a=[]:=rfl
theorem kT (s:cZ) (r:List cZ) (kd a:Int):bU (s::r) kd a=fJ s kd a++bU r kd a:=nV
theorem EU (l r:List cZ) (kd a:Int):bU (l++r) kd a=bU l kd a++bU r kd a:=xO
theorem uE {s:cZ} {kd a:Int} {x:Int×Bool}:x∈fJ s kd a↔∃e∈s.bf,e.kind=kd/\e.loc=a/\x=(e.page,(aV s.aT e.page).1.zero):=by
 grind [fJ]
theorem pI {ss:List cZ} {kd a:Int} {x:Int×Bool}:x∈bU ss kd a↔∃s∈ss,∃e∈s.bf,e.kind=kd/\e.loc=a/\x=(e.page,(aV s.aT e.page).1.zero):=by
 grind [bU,uE]
theorem zw:∀(l:List cZ) (j:Nat) (s:cZ) (kd a:Int),j<l.length->∃u v,bU l kd a=u++(fJ (ak l j) kd a++v)/\bU (l.set j s) kd a=u++(fJ s kd a++v)
 | x::r,0,s,kd,a,_=>⟨[],bU r kd a,kT x r kd a,kT s r kd a⟩
 | x::r,j+1,s,kd,a,h=>by
  obtain⟨u,v,h1,h2⟩:=zw r j s kd a (Dx h);refine⟨fJ x kd a++u,v,?_,?_⟩
  · rw[kT,h1,vR];rfl
  grind [kT]
theorem tU (f:cZ->cZ) (kd a:Int) (kd' a':Int):∀(l:List cZ),(∀s∈l,fJ (f s) kd a=fJ s kd' a')->bU (l.map f) kd a=bU l kd' a'
 | [],_=>rfl
 | x::r,h=>by
  rw[y9,kT,kT,h x Dy,tU f kd a kd' a' r (fun s hs=>h s (Hb _ hs))]
theorem pU (f:cZ->cZ) (kd a:Int):∀(l:List cZ),(∀s∈l,fJ (f s) kd a=[])->bU (l.map f) kd a=[]
 | [],_=>rfl
 | x::r,h=>by
  rw[y9,kT,h x Dy,pU f kd a r (fun s hs=>h s (Hb _ hs))];rfl
theorem uW (l m:List cZ):∀k,(∀i,i<k->(ak l i).aT=(ak m i).aT)->jH l k=jH m k
 | 0,_=>rfl
 | k+1,h=>by rw[jH,jH,uW l m k (fun i hi=>h i (Nat.lt_succ_of_lt hi)),h k (Pm k)]
open Go.RowKit
def jJ (es:List bD):Prop:=(es.map (·.page)).Pairwise (·<·)
def bl (es:List bD) (p:Int):Option bD:=es.find? fun e=>decide (e.page=p)
theorem Lf {a:bD} {r:List bD} (h:jJ (a::r)):jJ r/\∀e∈r,a.page<e.page:=by
 have:=AW.1 h;exact⟨this.2,fun e he=>this.1 _ (List.mem_map_of_mem he)⟩
theorem gJ:∀{es:List bD} {p:Int} {e:bD},jJ es->(bl es p=some e↔e∈es/\e.page=p)
 | [],p,e,_=>by simp[bl]
 | a::r,p,e,h=>by
  have hr:=Lf h;by_cases c:a.page=p
  · grind [bl]
  · have:bl (a::r) p=bl r p:=by simp[bl,c]
    rw[this,gJ hr.1]
    grind
theorem qQ {es:List bD} {p:Int}:bl es p=none↔∀e∈es,e.page≠p:=by
 grind [bl]
def mI:List bD->bD->List bD
 | [],e=>[e]
 | a::r,e=>if a.page<e.page then a::mI r e else if a.page=e.page then e::r else e::a::r
theorem wB:∀{es:List bD} {e:bD},jJ es->∃pre post,es=pre++((bl es e.page).toList++post)/\mI es e=pre++e::post/\(∀x∈pre,x.page<e.page)/\∀x∈post,e.page<x.page
 | [],e,_=>⟨[],[],rfl,rfl,by simp,by simp⟩
 | a::r,e,h=>by
  have hr:=Lf h;unfold mI;by_cases c:a.page<e.page
  · obtain⟨pre,post,h1,h2,h3,h4⟩:=wB (es:=r) (e:=e) hr.1;have:bl (a::r) e.page=bl r e.page:=by grind [bl]
    grind
  · rw[au c];by_cases d:a.page=e.page
    · have:bl (a::r) e.page=some a:=by simp[bl,d]
      rw[aB d,this];exact⟨[],r,rfl,rfl,by simp,fun x hx=>by grind⟩
    · have:bl (a::r) e.page=none:=qQ.2 fun x hx=>by
       grind
      rw[au d,this];refine⟨[],a::r,rfl,rfl,by simp,fun x hx=>?_⟩
      grind
theorem Zn {pre post:List bD} {e:bD} (hp:jJ pre) (hq:jJ post) (h1:∀x∈pre,x.page<e.page) (h2:∀x∈post,e.page<x.page):jJ (pre++e::post):=by
 grind [jJ,List.pairwise_cons]
theorem Cm {a b:List bD} (h:jJ (a++b)):jJ a/\jJ b:=by
 grind [jJ]
theorem NL {es:List bD} {e:bD} (h:jJ es):jJ (mI es e):=by
 obtain⟨pre,post,h1,h2,h3,h4⟩:=wB (e:=e) h;rw[h2];rw[h1] at h;exact Zn (Cm h).1 (Cm (Cm h).2).2 h3 h4
def jS (ar:List aY) (kd a:Int) (es:List bD):List (Int×Bool):=(es.filter fun e=>decide (e.kind=kd/\e.loc=a)).map fun e=>(e.page,(aV ar e.page).1.zero)
theorem zx (s:cZ) (kd a:Int):fJ s kd a=jS s.aT kd a s.bf:=rfl
theorem mP (ar:List aY) (kd a:Int) (l r:List bD):jS ar kd a (l++r)=jS ar kd a l++jS ar kd a r:=by grind [jS]
theorem xp (ar:List aY) (kd a:Int) (e:bD) (r:List bD):jS ar kd a (e::r)=jS ar kd a [e]++jS ar kd a r:=mP ar kd a [e] r
theorem se (ar:List aY) {kd a:Int} {e:bD} (h:e.kind=kd/\e.loc=a):jS ar kd a [e]=[(e.page,(aV ar e.page).1.zero)]:=by simp[jS,h]
theorem nN (ar:List aY) {kd a:Int} {e:bD} (h:¬(e.kind=kd/\e.loc=a)):jS ar kd a [e]=[]:=by
 grind [jS]
theorem ML {ar:List aY} {kd a:Int} {es:List bD} {x:Int×Bool}:x∈jS ar kd a es↔∃e∈es,e.kind=kd/\e.loc=a/\x=(e.page,(aV ar e.page).1.zero):=uE (s:=⟨true,ar,es⟩)
theorem Lh {ar:List aY} {kd a:Int} {es:List bD} (h:∀e∈es,¬(e.kind=kd/\e.loc=a)):jS ar kd a es=[]:=by
 simp_all [acZ,ML]
theorem Bn {l:List cZ} {j:Nat} (h:j<l.length):ak l j∈l:=jT h
theorem aW.sp {k:aR} (h:aW k) {j:Nat} (hj:j<k.aj.length):vh k.aM k.frames.length k.slots.length (ak k.aj j):=h.each _ (Bn hj)
theorem ju {ss:List cZ} {j:Nat} (hj:j<ss.length) {e:bD} (he:e∈(ak ss j).bf):(e.page,(aV (ak ss j).aT e.page).1.zero)∈bU ss e.kind e.loc:=pI.2 ⟨_,Bn hj,e,he,rfl,rfl,rfl⟩
theorem aW.frame {k:aR} (h:aW k) {i:Nat} {f:lV} (hf:lU k.aM (bU k.aj 1 i) f):aW { k with frames:=k.frames.set i f }:=by
 have hl:(k.frames.set i f).length=k.frames.length:=fC;refine⟨?_,h.lT,by simp_all [hand],?_,h.room,?_,h.slt⟩
 · have:=h.counts
   grind [nz]
 · grind [each]
 · intro n hn;have hn':n<k.frames.length:=by grind
   show lU k.aM (bU k.aj 1 n) ((k.frames.set i f).getD n gX);by_cases c:i=n
   · grind
   · rw[tu _ _ _ _ _ c];exact h.zP n hn'
theorem aW.turn {k:aR} (h:aW k) {x:Int} (hx:0<=x/\x<k.frames.length):aW { k with hand:=x }:=⟨h.counts,h.lT,hx,h.each,h.room,h.zP,h.slt⟩
theorem lU.seen {hs:List bG} {L:List (Int×Bool)} {f:lV} (h:lU hs L f) (b:Bool) (hL:L≠[]):lU hs L { f with seen:=b }:=⟨h.refs,fun e=>absurd e hL,h.one,h.size,h.fill⟩
theorem lU.ne {hs:List bG} {L:List (Int×Bool)} {f:lV} (h:lU hs L f) (hr:f.refs≠0):L≠[]:=fun e=>hr (by rw[h.refs,e];rfl)
theorem lU.nil {hs:List bG} {L:List (Int×Bool)} {f:lV} (h:lU hs L f) (hr:f.refs=0):L=[]:=by
 have:=h.refs
 simp_all
theorem oV.nil {L:List (Int×Bool)} {f:pd} (h:oV L f) (hr:f.refs=0):L=[]:=by
 have:=h.refs
 simp_all
theorem lU.none (hs:List bG):lU hs [] gX:=⟨rfl,fun _=>rfl,by simp,fun h=>absurd rfl h,by simp⟩
theorem oV.none:oV [] oc:=⟨rfl,fun _=>rfl,by simp,fun h=>absurd rfl h⟩
def rR (f:lV):lV:=if f.refs-1=0 then gX else { f with refs:=f.refs-1 }
def uG (f:pd):pd:=if f.refs-1=0 then oc else { f with refs:=f.refs-1 }
theorem lU.less {hs:List bG} {X Y:List (Int×Bool)} {x:Int×Bool} {f:lV} (h:lU hs (X++x::Y) f):lU hs (X++Y) (rR f):=by
 have hr:=h.refs;have hn:X++x::Y≠[]:=by simp
 have hm:∀y∈X++Y,y∈X++x::Y:=fun y hy=>by
  grind
 rw[fM,xN] at hr;unfold rR;by_cases c:f.refs-1=0
 · rw[aB c];have:X++Y=[]:=lj (by grind)
   grind [lU.none]
 · rw[au c];refine⟨?_,fun e=>?_,fun a ha b hb=>h.one a (hm a ha) b (hm b hb),fun _=>h.size hn,fun d y hy=>h.fill d y (hm y hy)⟩
   · grind
   simp_all
theorem oV.less {X Y:List (Int×Bool)} {x:Int×Bool} {f:pd} (h:oV (X++x::Y) f):oV (X++Y) (uG f):=by
 have hr:=h.refs;have hn:X++x::Y≠[]:=by simp
 have hm:∀y∈X++Y,y∈X++x::Y:=fun y hy=>by
  grind
 rw[fM,xN] at hr;unfold uG;by_cases c:f.refs-1=0
 · rw[aB c];have:X++Y=[]:=lj (by grind)
   grind [oV.none]
 · rw[au c];refine⟨?_,fun e=>?_,fun a ha b hb=>h.one a (hm a ha) b (hm b hb),fun _=>h.size hn⟩
   · grind
   simp_all
open Go.RowKit
def ll (i:Int) (e:bD):Bool:=decide (e.kind=1/\e.loc=i)
def wC (i:Int) (es:List bD):List bD:=es.filter fun e=>!ll i e
def jP (i s:Int) (es:List bD):List bD:=es.map fun e=>if ll i e then ⟨e.page,2,s⟩ else e
def yB (l:List lV):Option Nat:=l.findIdx? fun f=>decide (f.refs=0)
def yA (l:List pd):Option Nat:=l.findIdx? fun f=>decide (f.refs=0)
def og (i:Int) (s:cZ):cZ:={ s with bf:=wC i s.bf }
def ku (i s:Int) (sp:cZ):cZ:={ sp with bf:=jP i s sp.bf }
def Ak (k:aR) (i:Nat):aR:={ k with frames:=k.frames.set i gX,aj:=k.aj.map (og i) }
def FW (k:aR) (i s:Nat):aR:={ k with frames:=k.frames.set i gX,slots:=k.slots.set s ⟨(aH k.frames i).data,(aH k.frames i).refs⟩,aj:=k.aj.map (ku i s) }
def eJ (k:aR) (i:Nat):aR:=if (aH k.frames i).jG then (match yA k.slots with
 | some s=>FW k i s
 | none=>Ak k i) else Ak k i
def bY (k:aR) (j:Nat) (p:Int):ByteArray:=match bl (ak k.aj j).bf p with
 | some e=>if e.kind=1 then (aH k.frames e.loc.toNat).data else (bE k.slots e.loc.toNat).data
 | none=>fY k.aM p (aV (ak k.aj j).aT p).1.zero
theorem NP {α β:Type} (f:α->β) (d:α) (d':β):∀(l:List α) (i:Nat),i<l.length->(l.map f).getD i d'=f (l.getD i d)
 | a::r,0,_=>rfl
 | a::r,i+1,h=>NP f d d' r i (Dx h)
theorem yz {i:Int} {e:bD}:ll i e=true↔e.kind=1/\e.loc=i:=by simp[ll]
theorem oU {i:Int} {e:bD}:ll i e=false↔¬(e.kind=1/\e.loc=i):=by simp[ll]
theorem Ai {i:Int} {es:List bD} {e:bD}:e∈wC i es↔e∈es/\¬(e.kind=1/\e.loc=i):=by
 grind [wC,oU]
theorem NM {i:Int} {es:List bD} (h:jJ es):jJ (wC i es):=Vq (List.filter_sublist.map _) h
theorem Tk (i s:Int) (es:List bD):(jP i s es).map (·.page)=es.map (·.page):=by
 grind [jP,List.map_congr_left]
theorem K5 {i s:Int} {es:List bD} (h:jJ es):jJ (jP i s es):=by grind [jJ,Tk]
theorem Bl {i s:Int} {es:List bD} {x:bD}:x∈jP i s es↔(x∈es/\¬(x.kind=1/\x.loc=i))∨∃e∈es,(e.kind=1/\e.loc=i)/\x=⟨e.page,2,s⟩:=by
 grind [jP,oU]
theorem UL (ar:List aY) (i kd a:Int) (es:List bD) (h:¬(kd=1/\a=i)):jS ar kd a (wC i es)=jS ar kd a es:=by
 unfold jS wC;rw[List.filter_filter]
 grind [oU]
theorem xX (ar:List aY) (i:Int) (es:List bD):jS ar 1 i (wC i es)=[]:=Lh fun e he=>(Ai.1 he).2
theorem Jv (ar:List aY) (i s kd a:Int) (h:¬(kd=1/\a=i)) (h2:¬(kd=2/\a=s)):∀es:List bD,jS ar kd a (jP i s es)=jS ar kd a es
 | []=>rfl
 | e::r=>by
  have e1:jP i s (e::r)=(if ll i e then ⟨e.page,2,s⟩ else e)::jP i s r:=rfl;rw[e1,xp,xp ar kd a e r,Jv ar i s kd a h h2 r]
  grind [nN,oU]
theorem F9 (ar:List aY) (i s:Int) (es:List bD):jS ar 1 i (jP i s es)=[]:=Lh fun e he g=>by
 grind [Bl]
theorem ID (ar:List aY) (i s:Int):∀es:List bD,(∀e∈es,¬(e.kind=2/\e.loc=s))->jS ar 2 s (jP i s es)=jS ar 1 i es
 | [],_=>rfl
 | e::r,h=>by
  have e1:jP i s (e::r)=(if ll i e then ⟨e.page,2,s⟩ else e)::jP i s r:=rfl;rw[e1,xp,xp ar 1 i e r,ID ar i s r (fun x hx=>h x (Hb _ hx))]
  grind [se,oU,nN]
theorem NJ (f:cZ->cZ) (hf:∀s,(f s).aT=s.aT) (l:List cZ):eD (l.map f)=eD l:=by
 grind [eD,uW,ak]
theorem aW.amJ {k:aR} (h:aW k) {i:Nat} (hi:i<k.frames.length):aW (Ak k i):=by
 have hl:(k.frames.set i gX).length=k.frames.length:=fC;have hm:(k.aj.map (og i)).length=k.aj.length:=ie ..;refine⟨?_,h.lT,by show 0<=k.hand/\k.hand<((k.frames.set i gX).length:Int);simp_all [hand],?_,?_,?_,?_⟩
 · have:=h.counts
   grind [nz,Ak]
 · show ∀s∈k.aj.map (og i),vh k.aM (k.frames.set i gX).length k.slots.length s;rw[hl];intro s hs;obtain⟨s,hsq,rfl⟩:=vM.1 hs;have g:=h.each s hsq;exact⟨fun d=>⟨(g.dead d).1,by show wC i s.bf=[];rw[(g.dead d).2];rfl⟩,g.aT,NM g.lT,fun e he=>g.Mq e (Ai.1 he).1,g.aM⟩
 · show eD (k.aj.map (og i))<=_;rw[NJ (og i) (fun _=>rfl)];exact h.room
 · intro n hn;have hn':n<k.frames.length:=by rw[<- hl];exact hn
   show lU k.aM (bU (k.aj.map (og i)) 1 n) ((k.frames.set i gX).getD n gX);by_cases c:i=n
   · subst c;rw[eT _ _ _ _ hn',pU (og i) 1 i _ (fun s _=>xX s.aT i s.bf)];exact lU.none _
   · rw[tu _ _ _ _ _ c,tU (og i) 1 n 1 n _ (fun s _=>UL s.aT i 1 n s.bf (by omega))];exact h.zP n hn'
 · intro n hn;show oV (bU (k.aj.map (og i)) 2 n) (bE k.slots n);rw[tU (og i) 2 n 2 n _ (fun s _=>UL s.aT i 2 n s.bf (by omega))];exact h.slt n hn
theorem aW.alj {k:aR} (h:aW k) {i s:Nat} (hi:i<k.frames.length) (hs:s<k.slots.length) (hf:bU k.aj 2 s=[]):aW (FW k i s):=by
 have hl:(k.frames.set i gX).length=k.frames.length:=fC;have hl2:(k.slots.set s ⟨(aH k.frames i).data,(aH k.frames i).refs⟩).length=k.slots.length:=fC;have hm:(k.aj.map (ku i s)).length=k.aj.length:=ie ..;have hno:∀sp∈k.aj,∀e∈sp.bf,¬(e.kind=2/\e.loc=(s:Int)):=fun sp hsp e he g=>by
  have:(e.page,(aV sp.aT e.page).1.zero)∈bU k.aj 2 s:=pI.2 ⟨sp,hsp,e,he,g.1,g.2,rfl⟩
  grind
 refine⟨?_,h.lT,by show 0<=k.hand/\k.hand<((k.frames.set i gX).length:Int);simp_all [hand],?_,?_,?_,?_⟩
 · have:=h.counts
   grind [nz,FW]
 · show ∀sp∈k.aj.map (ku i s),vh k.aM (k.frames.set i gX).length (k.slots.set s ⟨(aH k.frames i).data,(aH k.frames i).refs⟩).length sp;rw[hl,hl2];intro sp hsp;obtain⟨sp,hsq,rfl⟩:=vM.1 hsp;have g:=h.each sp hsq;refine⟨fun d=>⟨(g.dead d).1,by show jP i s sp.bf=[];rw[(g.dead d).2];rfl⟩,g.aT,K5 g.lT,fun e he=>?_,g.aM⟩;rcases Bl.1 he with x | ⟨x,hx,hc,rfl⟩
   · exact g.Mq e x.1
   · exact⟨(g.Mq x hx).1,.inr ⟨rfl,by grind,by grind⟩⟩
 · show eD (k.aj.map (ku i s))<=((k.slots.set s ⟨(aH k.frames i).data,(aH k.frames i).refs⟩).length:Int);rw[hl2,NJ (ku i s) (fun _=>rfl)];exact h.room
 · intro n hn;have hn':n<k.frames.length:=by rw[<- hl];exact hn
   show lU k.aM (bU (k.aj.map (ku i s)) 1 n) ((k.frames.set i gX).getD n gX);by_cases c:i=n
   · subst c;rw[eT _ _ _ _ hn',pU (ku i s) 1 i _ (fun sp _=>F9 sp.aT i s sp.bf)];exact lU.none _
   · rw[tu _ _ _ _ _ c,tU (ku i s) 1 n 1 n _ (fun sp _=>Jv sp.aT i s 1 n (by omega) (by omega) sp.bf)];exact h.zP n hn'
 · intro n hn;have hn':n<k.slots.length:=by rw[<- hl2];exact hn
   show oV (bU (k.aj.map (ku i s)) 2 n) ((k.slots.set s ⟨(aH k.frames i).data,(aH k.frames i).refs⟩).getD n oc);by_cases c:s=n
   · subst c;rw[eT _ _ _ _ hn',tU (ku i s) 2 s 1 i _ (fun sp hsp=>ID sp.aT i s sp.bf (hno sp hsp))];have g:=h.zP i hi;exact⟨g.refs,fun e=>by rw[g.zero e];rfl,g.one,g.size⟩
   · rw[tu _ _ _ _ _ c,tU (ku i s) 2 n 2 n _ (fun sp _=>Jv sp.aT i s 2 n (by omega) (by omega) sp.bf)];exact h.slt n hn'
theorem UJ:∀(n:Nat) (L:List Int),(∀i:Nat,i<n->(i:Int)∈L)->n<=L.length
 | 0,_,_=>sD _
 | n+1,L,h=>by
  have hn:=h n (Pm n);have:=UJ n (L.erase (n:Int)) (fun i hi=>(Pt (by omega)).2 (h i (by omega)))
  grind
def yc (ss:List cZ):List bD:=ss.flatMap (·.bf)
theorem xZ {hs:List bG} {nf ns:Nat} {s:cZ} (g:vh hs nf ns s):(s.bf.length:Int)<=bh s.aT:=by
 rw[tG g.aT];have:=mU (dI s.aT) (s.bf.map (·.page)) g.lT (oI g.aT).sorted (fun x hx=>by
  obtain⟨e,he,rfl⟩:=vM.1 hx;exact(rD g.aT _).1 (g.Mq e he).1)
 grind
theorem MI (l r:List cZ):∀k,k<=l.length->jH (l++r) k=jH l k:=fun k hk=>uW _ _ _ fun i hi=>by
 grind [ak]
theorem Le (l:List cZ) (s:cZ):eD (l++[s])=eD l+bh s.aT:=by
 simp[eD,jH,MI,ak]
theorem Gk:∀(m:Nat) (l:List cZ),l.length=m->(∀s∈l,(s.bf.length:Int)<=bh s.aT)->((yc l).length:Int)<=eD l
 | 0,l,h,_=>by
  have:l=[]:=lj h;subst this;exact AK _
 | m+1,l,h,hs=>by
  have hne:l≠[]:=fun e=>by grind
  obtain⟨l',s,rfl⟩:∃l' s,l=l'++[s]:=⟨l.dropLast,l.getLast hne,(acX hne).symm⟩;rw[Le];have:=Gk m l' (by grind) (fun x hx=>hs x (l5.2 (.inl hx)))
  grind [yc]
theorem aW.slot {k:aR} (h:aW k) {i:Nat} (hi:i<k.frames.length) (hr:(aH k.frames i).refs≠0):∃s,yA k.slots=some s/\s<k.slots.length/\bU k.aj 2 s=[]:=by
 cases hf:yA k.slots with
 | some s =>
  obtain⟨h1,h2,_⟩:=PJ.1 hf
  grind [bE,slt,oV.nil]
 | none =>
  exfalso;have hno:=Vu.1 hf;have hall:∀n:Nat,n<k.slots.length->∃e∈yc k.aj,e.kind=2/\e.loc=(n:Int):=fun n hn=>by
   have h1:=hno (bE k.slots n) (jT hn);have h2:=(h.slt n hn).refs;have h3:bU k.aj 2 n≠[]:=fun e=>by
    grind
   obtain⟨x,hx⟩:=J4 _ h3;obtain⟨s,hs,e,he,g1,g2,_⟩:=pI.1 hx;exact⟨e,vO.2 ⟨s,hs,he⟩,g1,g2⟩
  have hp:=UJ k.slots.length (((yc k.aj).filter fun e:bD=>decide (e.kind=2)).map (·.loc)) (fun n hn=>by
   grind)
  rw[ie] at hp;have hroom:=Gk _ k.aj rfl (fun s hs=>xZ (h.each s hs));have hr2:=h.room;obtain⟨x,hx⟩:=J4 _ ((h.zP i hi).ne hr)
  grind [pI,yc,List.length_filter_eq_length_iff]
theorem aW.aside {k:aR} (h:aW k) {i:Nat} (hi:i<k.frames.length) (hr:(aH k.frames i).refs≠0):aW (eJ k i):=by
 grind [eJ,slot,alj,amJ]
open Go.RowKit
def ek (s:cZ) (es:List bD):cZ:=⟨s.live,s.aT,es⟩
def dM (k:aR) (e:bD):aR:=if e.kind=1 then { k with frames:=k.frames.set e.loc.toNat (rR (aH k.frames e.loc.toNat)) } else { k with slots:=k.slots.set e.loc.toNat (uG (bE k.slots e.loc.toNat)) }
def gy (k:aR) (j:Nat) (e:bD):aR:={ k with aj:=k.aj.set j (ek (ak k.aj j) (mI (ak k.aj j).bf e)) }
def iV (k:aR) (i:Nat) (d:ByteArray) (dy:Bool):aR:={ k with frames:=k.frames.set i ⟨d,1,dy,false⟩ }
def eQ (k:aR) (j:Nat) (p:Int) (i:Nat) (d:ByteArray) (dy:Bool):aR:=match bl (ak k.aj j).bf p with
 | none=>gy (iV k i d dy) j ⟨p,1,i⟩
 | some e=>dM (gy (iV k i d dy) j ⟨p,1,i⟩) e
theorem IG {ss:List cZ} {j:Nat} (hj:j<ss.length) (e:bD) (hr:jJ (ak ss j).bf) (kd a:Int):∃X Y,bU ss kd a=X++(jS (ak ss j).aT kd a (bl (ak ss j).bf e.page).toList++Y)/\bU (ss.set j (ek (ak ss j) (mI (ak ss j).bf e))) kd a=X++(jS (ak ss j).aT kd a [e]++Y):=by
 obtain⟨pre,post,h1,h2,_,_⟩:=wB (e:=e) hr;obtain⟨u,v,g1,g2⟩:=zw ss j (ek (ak ss j) (mI (ak ss j).bf e)) kd a hj;refine⟨u++jS (ak ss j).aT kd a pre,jS (ak ss j).aT kd a post++v,?_,?_⟩
 · grind [zx,mP]
 · rw[g2,zx];show u++(jS (ak ss j).aT kd a (mI (ak ss j).bf e)++v)=_
   grind [mP,xp]
theorem Q5 {es:List bD} (h:jJ es) (e:bD) (p:Int):bl (mI es e) p=if p=e.page then some e else bl es p:=by
 have hp:=NL (e:=e) h;obtain⟨pre,post,h1,h2,h3,h4⟩:=wB (e:=e) h
 grind [gJ,qQ]
theorem iI (l:List cZ) (j n:Nat) (s:cZ) (hj:j<l.length):ak (l.set j s) n=if j=n then s else ak l n:=by
 grind [ak]
theorem jU (l:List lV) (j n:Nat) (s:lV) (hj:j<l.length):aH (l.set j s) n=if j=n then s else aH l n:=by
 grind [aH]
theorem yu (l:List pd) (j n:Nat) (s:pd) (hj:j<l.length):bE (l.set j s) n=if j=n then s else bE l n:=by
 grind [bE]
theorem Bo (l:List cZ) (j:Nat) (s:cZ) (hj:j<l.length) (ha:s.aT=(ak l j).aT):eD (l.set j s)=eD l:=by
 grind [eD,uW,iI]
structure jW (k:aR) (j:Nat) (p:Int) (i:Nat) (d:ByteArray) (dy:Bool):Prop where
 right:aW k
 hj:j<k.aj.length
 hp:(aV (ak k.aj j).aT p).2=true
 hi:i<k.frames.length
 free:bU k.aj 1 i=[]
 size:d.size=16
 fill:dy=false->d=fY k.aM p (aV (ak k.aj j).aT p).1.zero
theorem iO {k:aR} (h:aW k) {j:Nat} (hj:j<k.aj.length) {e:bD} (he:e∈(ak k.aj j).bf):(e.kind=1/\(e.loc.toNat:Int)=e.loc/\e.loc.toNat<k.frames.length)∨(e.kind=2/\(e.loc.toNat:Int)=e.loc/\e.loc.toNat<k.slots.length):=by
 rcases((h.sp hj).Mq e he).2 with g | g
 · omega
 omega
theorem oQ (k:aR) (j:Nat) (p:Int) (i:Nat) (d:ByteArray) (dy:Bool) (m:jW k j p i d dy):(eQ k j p i d dy).frames.length=k.frames.length/\(eQ k j p i d dy).slots.length=k.slots.length/\(eQ k j p i d dy).aM=k.aM/\(eQ k j p i d dy).hand=k.hand/\(eQ k j p i d dy).aj=k.aj.set j (ek (ak k.aj j) (mI (ak k.aj j).bf ⟨p,1,i⟩)) /\
  (∀n,aH (eQ k j p i d dy).frames n=if n=i then ⟨d,1,dy,false⟩ else match bl (ak k.aj j).bf p with
   | some e=>if e.kind=1/\e.loc=(n:Int) then rR (aH k.frames n) else aH k.frames n
   | none=>aH k.frames n) /\
  (∀n,bE (eQ k j p i d dy).slots n=match bl (ak k.aj j).bf p with
   | some e=>if e.kind=2/\e.loc=(n:Int) then uG (bE k.slots n) else bE k.slots n
   | none=>bE k.slots n):=by
 have hr:=(m.right.sp m.hj).lT;unfold eQ;cases g:bl (ak k.aj j).bf p with
 | none =>
  refine⟨fC,rfl,rfl,rfl,rfl,fun n=>?_,fun n=>rfl⟩;show aH (k.frames.set i _) n=_
  grind [jU,jW.hi]
 | some e =>
  have he:=(gJ hr).1 g;have hne:e.kind=1->e.loc.toNat≠i:=fun h1 h2=>by
   have:=ju m.hj he.1;rcases iO m.right m.hj he.1 with b | b
   · grind [jW.free]
   · omega
  dsimp only;unfold dM;rcases iO m.right m.hj he.1 with b | b
  · rw[aB b.1];have hne:=hne b.1;refine⟨by show((k.frames.set i _).set _ _).length=_;grind,rfl,rfl,rfl,rfl,fun n=>?_,fun n=>?_⟩
    · show aH ((k.frames.set i _).set _ (rR (aH (k.frames.set i _) _))) n=_
      grind [jU,jW.hi]
    · show bE k.slots n=if e.kind=2/\e.loc=(n:Int) then _ else _
      grind
  · rw[au (by omega)];refine⟨fC,fC,rfl,rfl,rfl,fun n=>?_,fun n=>?_⟩
    · show aH (k.frames.set i _) n=if n=i then _ else if e.kind=1/\e.loc=(n:Int) then _ else _
      grind [jU,jW.hi]
    · show bE (k.slots.set _ (uG (bE k.slots _))) n=if e.kind=2/\e.loc=(n:Int) then _ else _
      grind [yu]
theorem xY {k:aR} {j:Nat} {p:Int} {i:Nat} {d:ByteArray} {dy:Bool} (m:jW k j p i d dy):aW (eQ k j p i d dy):=by
 have h:=m.right;have hsp:=h.sp m.hj;obtain⟨f1,f2,f3,f4,f5,f6,f7⟩:=oQ k j p i d dy m;have hlen:(eQ k j p i d dy).aj.length=k.aj.length:=by grind
 refine⟨?_,by rw[f3];exact h.lT,by simp_all [aW.hand],?_,?_,?_,?_⟩
 · have:=h.counts
   grind [nz]
 · rw[f1,f2,f3,f5];intro s hs;rcases acT hs with g | rfl
   · exact h.each s g
   · refine⟨fun dd=>?_,hsp.aT,NL hsp.lT,fun e he=>?_,hsp.aM⟩
     · have:=m.hp;rw[(hsp.dead dd).1] at this;cases this
     · obtain⟨pre,post,h1,h2,_,_⟩:=wB (e:=(⟨p,1,i⟩:bD)) hsp.lT;rw[show(ek (ak k.aj j) (mI (ak k.aj j).bf ⟨p,1,i⟩)).bf=pre++⟨p,1,i⟩::post from h2] at he;have hin:∀x,x∈pre∨x∈post->x∈(ak k.aj j).bf:=fun x hx=>by
        grind
       rcases l5.1 he with g | g
       · exact hsp.Mq e (hin e (.inl g))
       · rcases uQ.1 g with rfl | g
         · exact⟨m.hp,.inl ⟨rfl,by grind,by show(i:Int)<_;have:=m.hi;omega⟩⟩
         · exact hsp.Mq e (hin e (.inr g))
 · rw[f2,f5,Bo _ _ (ek (ak k.aj j) (mI (ak k.aj j).bf ⟨p,1,i⟩)) m.hj rfl];exact h.room
 · intro n hn;rw[f1] at hn;rw[f3,f5,f6];obtain⟨X,Y,h1,h2⟩:=IG m.hj ⟨p,1,i⟩ hsp.lT 1 n;rw[h2];by_cases c:n=i
   · subst c;rw[aB rfl,se _ (e:=(⟨p,1,n⟩:bD)) ⟨rfl,rfl⟩];rw[m.free] at h1;have hX:X=[]:=(Pz.1 h1.symm).1;have hY:Y=[]:=(Pz.1 (Pz.1 h1.symm).2).2;subst hX hY;refine⟨rfl,fun e=>(by cases e),fun x hx y hy=>?_,fun _=>m.size,fun e x hx=>?_⟩
     · grind
     grind [jW.fill]
   · rw[au c,nN _ (e:=(⟨p,1,i⟩:bD)) (fun g=>c (by grind))];have hf:=h.zP n hn;rw[h1] at hf;cases g:bl (ak k.aj j).bf p with
     | none =>
      rw[g] at hf;exact hf
     | some e =>
      grind [se,nN,lU.less]
 · intro n hn;rw[f2] at hn;rw[f5,f7];obtain⟨X,Y,h1,h2⟩:=IG m.hj ⟨p,1,i⟩ hsp.lT 2 n;rw[h2,nN _ (e:=(⟨p,1,i⟩:bD)) (fun g=>by grind)];have hf:=h.slt n hn;rw[h1] at hf;cases g:bl (ak k.aj j).bf p with
   | none =>
    rw[g] at hf;exact hf
   | some e =>
    grind [se,nN,oV.less]
open Go.RowKit
theorem Q6 {i:Int} {es:List bD} (h:jJ es) (p:Int):bl (wC i es) p=(bl es p).filter fun e=>!ll i e:=by
 cases g:bl es p with
 | none=>grind [qQ,Ai]
 | some e =>
  have he:=(gJ h).1 g;by_cases c:e.kind=1/\e.loc=i
  · rw[Option.filter_some,yz.2 c,au (by simp),qQ];intro x hx hp;have hx:=Ai.1 hx;have:some x=some e:=((gJ h).2 ⟨hx.1,hp⟩).symm.trans g
    grind
  grind [oU,gJ,NM,Ai]
theorem ND {i s:Int} {es:List bD} (h:jJ es) (p:Int):bl (jP i s es) p=(bl es p).map fun e=>if ll i e then ⟨e.page,2,s⟩ else e:=by
 cases g:bl es p with
 | none =>
  grind [qQ,Bl]
 | some e =>
  grind [gJ,K5,Bl,oU]
theorem qP (f:cZ->cZ) (l:List cZ) (j:Nat) (hj:j<l.length):ak (l.map f) j=f (ak l j):=NP f rp rp l j hj
structure fN (k k':aR):Prop where
 aM:k'.aM=k.aM
 nf:k'.frames.length=k.frames.length
 ns:k'.slots.length=k.slots.length
 np:k'.aj.length=k.aj.length
 live:∀j,j<k.aj.length->(ak k'.aj j).live=(ak k.aj j).live
 aT:∀j,j<k.aj.length->(ak k'.aj j).aT=(ak k.aj j).aT
 Ou:∀j,j<k.aj.length->∀p,bY k' j p=bY k j p
theorem fN.refl (k:aR):fN k k:=⟨rfl,rfl,rfl,rfl,fun _ _=>rfl,fun _ _=>rfl,fun _ _ _=>rfl⟩
theorem fN.trans {a b c:aR} (h:fN a b) (g:fN b c):fN a c :=
 ⟨g.aM.trans h.aM,g.nf.trans h.nf,g.ns.trans h.ns,g.np.trans h.np,fun j hj=>(g.live j (by grind [np])).trans (h.live j hj),fun j hj=>(g.aT j (by grind [np])).trans (h.aT j hj),fun j hj p=>(g.Ou j (by grind [np]) p).trans (h.Ou j hj p)⟩
theorem WN {k:aR} (h:aW k) {i:Nat} (hi:i<k.frames.length) (hd:(aH k.frames i).jG=false):fN k (Ak k i):=by
 refine⟨rfl,fC,rfl,ie ..,fun j hj=>?_,fun j hj=>?_,fun j hj p=>?_⟩
 · show(ak (k.aj.map (og i)) j).live=_;rw[qP _ _ _ hj];rfl
 · show(ak (k.aj.map (og i)) j).aT=_;rw[qP _ _ _ hj];rfl
 · have hsp:=h.sp hj;unfold bY;show(match bl (ak (k.aj.map (og i)) j).bf p with
    | some e=>if e.kind=1 then (aH (k.frames.set i gX) e.loc.toNat).data else (bE k.slots e.loc.toNat).data
    | none=>fY k.aM p (aV (ak (k.aj.map (og i)) j).aT p).1.zero)=_
   rw[qP _ _ _ hj];show(match bl (wC i (ak k.aj j).bf) p with
    | some e=>if e.kind=1 then (aH (k.frames.set i gX) e.loc.toNat).data else (bE k.slots e.loc.toNat).data
    | none=>fY k.aM p (aV (ak k.aj j).aT p).1.zero)=_
   rw[Q6 hsp.lT];cases g:bl (ak k.aj j).bf p with
   | none=>rfl
   | some e =>
    have he:=(gJ hsp.lT).1 g;have hb:=iO h hj he.1;by_cases c:e.kind=1/\e.loc=(i:Int)
    · rw[Option.filter_some,yz.2 c,au (by simp)];show _=if e.kind=1 then _ else _
      rw[aB c.1,show e.loc.toNat=i by omega];have:=ju hj he.1;rw[c.1,c.2] at this;have:=(h.zP i hi).fill hd _ this
      grind
    grind [oU,jU]
theorem Wx {k:aR} (h:aW k) {i s:Nat} (hi:i<k.frames.length) (hs:s<k.slots.length) (hf:bU k.aj 2 s=[]):fN k (FW k i s):=by
 refine⟨rfl,fC,fC,ie ..,fun j hj=>?_,fun j hj=>?_,fun j hj p=>?_⟩
 · show(ak (k.aj.map (ku i s)) j).live=_;rw[qP _ _ _ hj];rfl
 · show(ak (k.aj.map (ku i s)) j).aT=_;rw[qP _ _ _ hj];rfl
 · have hsp:=h.sp hj;unfold bY;show(match bl (ak (k.aj.map (ku i s)) j).bf p with
    | some e=>if e.kind=1 then (aH (k.frames.set i gX) e.loc.toNat).data else (bE (k.slots.set s ⟨(aH k.frames i).data,(aH k.frames i).refs⟩) e.loc.toNat).data
    | none=>fY k.aM p (aV (ak (k.aj.map (ku i s)) j).aT p).1.zero)=_
   rw[qP _ _ _ hj];show(match bl (jP i s (ak k.aj j).bf) p with
    | some e=>if e.kind=1 then (aH (k.frames.set i gX) e.loc.toNat).data else (bE (k.slots.set s ⟨(aH k.frames i).data,(aH k.frames i).refs⟩) e.loc.toNat).data
    | none=>fY k.aM p (aV (ak k.aj j).aT p).1.zero)=_
   rw[ND hsp.lT];cases g:bl (ak k.aj j).bf p with
   | none=>rfl
   | some e =>
    have he:=(gJ hsp.lT).1 g
    grind [iO,yu,oU,jU,ju]
theorem Tz {k:aR} (h:aW k) {i:Nat} (hi:i<k.frames.length) (hr:(aH k.frames i).refs≠0):fN k (eJ k i):=by
 grind [eJ,Wx,WN,aW.slot]
theorem TA (k:aR) (i:Nat):bU (eJ k i).aj 1 i=[]:=by
 unfold eJ;by_cases c:(aH k.frames i).jG=true
 · rw[aB c];cases yA k.slots with
   | none=>exact pU (og i) 1 i _ (fun s _=>xX s.aT i s.bf)
   | some s=>exact pU (ku i s) 1 i _ (fun sp _=>F9 sp.aT i s sp.bf)
 · rw[au c];exact pU (og i) 1 i _ (fun s _=>xX s.aT i s.bf)
theorem EY (k:aR) (i:Nat):(eJ k i).frames=k.frames.set i gX/\(eJ k i).hand=k.hand:=by
 unfold eJ;by_cases c:(aH k.frames i).jG=true
 · rw[aB c];cases yA k.slots with
   | none=>exact⟨rfl,rfl⟩
   | some s=>exact⟨rfl,rfl⟩
 · rw[au c];exact⟨rfl,rfl⟩
theorem WO {k:aR} (h:aW k) (i:Nat) {j:Nat} (hj:j<k.aj.length) (p:Int) (hn:∀e,bl (ak k.aj j).bf p=some e->¬(e.kind=1/\e.loc=(i:Int))):bl (ak (eJ k i).aj j).bf p=bl (ak k.aj j).bf p:=by
 have hr:=(h.sp hj).lT;have hD:bl (ak (k.aj.map (og i)) j).bf p=bl (ak k.aj j).bf p:=by
  rw[qP _ _ _ hj];show bl (wC i (ak k.aj j).bf) p=_;rw[Q6 hr];cases g:bl (ak k.aj j).bf p with
  | none=>rfl
  | some e=>grind [oU]
 unfold eJ;by_cases c:(aH k.frames i).jG=true
 · rw[aB c];cases yA k.slots with
   | none=>exact hD
   | some s =>
    show bl (ak (k.aj.map (ku i s)) j).bf p=_;rw[qP _ _ _ hj];show bl (jP i s (ak k.aj j).bf) p=_;rw[ND hr];cases g:bl (ak k.aj j).bf p with
    | none=>rfl
    | some e=>grind [oU]
 · rw[au c];exact hD
theorem Ty {k:aR} (h:aW k) {i:Nat} (hi:i<k.frames.length) (hr:(aH k.frames i).refs≠0) (n:Nat) (hn:bU k.aj 2 n≠[]):bE (eJ k i).slots n=bE k.slots n:=by
 unfold eJ;by_cases c:(aH k.frames i).jG=true
 · rw[aB c];obtain⟨s,h1,h2,h3⟩:=h.slot hi hr;rw[h1];show bE (k.slots.set s _) n=_
   grind [yu]
 · rw[au c];rfl
theorem D8 {k:aR} {j:Nat} {p:Int} {i:Nat} {d:ByteArray} {dy:Bool} (m:jW k j p i d dy) (hd:d=bY k j p):fN k (eQ k j p i d dy):=by
 have h:=m.right;have hsp:=h.sp m.hj;have hR:=xY m;obtain⟨f1,f2,f3,f4,f5,f6,f7⟩:=oQ k j p i d dy m;have hat:∀n,ak (eQ k j p i d dy).aj n=if j=n then ek (ak k.aj j) (mI (ak k.aj j).bf ⟨p,1,i⟩) else ak k.aj n:=fun n=>by grind [iI,jW.hj]
 have yn:(eQ k j p i d dy).aj.length=k.aj.length:=by grind
 refine⟨f3,f1,f2,yn,fun n hn=>?_,fun n hn=>?_,fun n hn q=>?_⟩
 · rw[hat];by_cases c:j=n
   · rw[aB c,<- c];rfl
   grind
 · rw[hat];by_cases c:j=n
   · rw[aB c,<- c];rfl
   grind
 · have apZ:(ak (eQ k j p i d dy).aj n).aT=(ak k.aj n).aT:=by
    rw[hat];by_cases c:j=n
    · rw[aB c,<- c];rfl
    grind
   have hent:bl (ak (eQ k j p i d dy).aj n).bf q=if j=n/\q=p then some ⟨p,1,i⟩ else bl (ak k.aj n).bf q:=by
    rw[hat];by_cases c:j=n
    · rw[aB c];show bl (mI (ak k.aj j).bf ⟨p,1,i⟩) q=_;rw[Q5 hsp.lT]
      grind
    grind
   by_cases c:j=n/\q=p
   · grind [bY]
   · rw[au c] at hent;have hn':n<(eQ k j p i d dy).aj.length:=by omega
     have apc:=h.sp hn;unfold bY;rw[hent,apZ,f3];cases g:bl (ak k.aj n).bf q with
     | none=>rfl
     | some e =>
      have he:=(gJ apc.lT).1 g;have hb:=iO h hn he.1;have he':=(gJ (hR.sp hn').lT).1 (hent.trans g);have hnm:=ju hn' he'.1;have auR:=ju hn he.1;show(if e.kind=1 then _ else _)=if e.kind=1 then _ else _
      by_cases c1:e.kind=1
      · rw[aB c1,aB c1,f6];have hb:=hb.resolve_right (fun x=>by omega);have hni:e.loc.toNat≠i:=fun e1=>by
         grind [jW.free]
        rw[au hni];have hF:=hR.zP e.loc.toNat (by omega);rw[f6,au hni] at hF;have hne:bU (eQ k j p i d dy).aj 1 (e.loc.toNat:Int)≠[]:=fun e1=>by
         grind
        cases g2:bl (ak k.aj j).bf p with
        | none=>rfl
        | some e2 =>
         rw[g2] at hF;have hF:lU _ _ (if e2.kind=1/\e2.loc=(e.loc.toNat:Int) then rR (aH k.frames e.loc.toNat) else aH k.frames e.loc.toNat):=hF;show(if e2.kind=1/\e2.loc=(e.loc.toNat:Int) then rR (aH k.frames e.loc.toNat) else aH k.frames e.loc.toNat).data=_;by_cases c3:e2.kind=1/\e2.loc=(e.loc.toNat:Int)
         · rw[aB c3] at hF ⊢;unfold rR at hF ⊢;by_cases c4:(aH k.frames e.loc.toNat).refs-1=0
           · rw[aB c4] at hF;exact absurd (hF.nil rfl) hne
           grind
         grind
      · rw[au c1,au c1,f7];have hb:=hb.resolve_left (fun x=>c1 x.1);have hF:=hR.slt e.loc.toNat (by omega);rw[f7] at hF;have hne:bU (eQ k j p i d dy).aj 2 (e.loc.toNat:Int)≠[]:=fun e1=>by
         grind
        cases g2:bl (ak k.aj j).bf p with
        | none=>rfl
        | some e2 =>
         rw[g2] at hF;have hF:oV _ (if e2.kind=2/\e2.loc=(e.loc.toNat:Int) then uG (bE k.slots e.loc.toNat) else bE k.slots e.loc.toNat):=hF;show(if e2.kind=2/\e2.loc=(e.loc.toNat:Int) then uG (bE k.slots e.loc.toNat) else bE k.slots e.loc.toNat).data=_;by_cases c3:e2.kind=2/\e2.loc=(e.loc.toNat:Int)
         · rw[aB c3] at hF ⊢;unfold uG at hF ⊢;by_cases c4:(bE k.slots e.loc.toNat).refs-1=0
           · rw[aB c4] at hF;exact absurd (hF.nil rfl) hne
           grind
         grind
open Go.RowKit
def jl (k:aR):Int:=(k.hand+1)%(k.frames.length:Int)
def nM (held:List Int) (k:aR):Bool:=held.contains k.hand || (aH k.frames k.hand.toNat).seen
def CZ (f:lV):lV:={ f with seen:=false }
def jC (held:List Int) (k:aR):aR:={ k with hand:=jl k,frames:=if held.contains k.hand then k.frames else k.frames.set k.hand.toNat (CZ (aH k.frames k.hand.toNat)) }
def bQ (held:List Int):Nat->aR->aR
 | 0,k=>k
 | n+1,k=>jC held (bQ held n k)
def nA (held:List Int):Nat->aR->aR
 | 0,k=>k
 | n+1,k=>if nM held k then nA held n (jC held k) else k
def Bt (k:aR):Prop:=∀i,i<k.frames.length->(aH k.frames i).refs≠0
theorem QZ (held:List Int) (k:aR):(jC held k).frames.length=k.frames.length:=by
 grind [jC]
theorem Q0 (held:List Int) {k:aR} (hh:0<=k.hand/\k.hand<k.frames.length) (n:Nat):aH (jC held k).frames n=if (n:Int)=k.hand/\held.contains k.hand=false then CZ (aH k.frames n) else aH k.frames n:=by
 grind [jC,jU]
theorem Q7 {k:aR} (h3:3<=k.frames.length):0<=jl k/\jl k<k.frames.length:=⟨Int.emod_nonneg _ (by omega),Int.emod_lt_of_pos _ (by omega)⟩
theorem Tn (held:List Int) {k:aR} (h:aW k) (hf:Bt k):aW (jC held k)/\Bt (jC held k)/\fN k (jC held k)/\(jC held k).aj=k.aj/\(jC held k).slots=k.slots:=by
 have h3:=h.c.1.1;have hn:=Q7 h3;have hat:=Q0 held h.hand;refine⟨?_,fun i hi=>?_,⟨rfl,QZ held k,rfl,rfl,fun _ _=>rfl,fun _ _=>rfl,fun j hj p=>?_⟩,rfl,rfl⟩
 · unfold jC;by_cases c:held.contains k.hand=true
   · grind [aW.turn]
   · rw[au c];have hi:k.hand.toNat<k.frames.length:=by have:=h.hand;omega
     have:=(h.zP _ hi);have g:=h.frame (this.seen false (this.ne (hf _ hi)));exact aW.turn g (x:=jl k) (by grind)
 · rw[QZ] at hi;rw[hat];have:=hf i hi;by_cases c:(i:Int)=k.hand/\held.contains k.hand=false
   · rw[aB c];exact this
   grind
 · unfold bY;show(match bl (ak k.aj j).bf p with
    | some e=>if e.kind=1 then (aH (jC held k).frames e.loc.toNat).data else (bE k.slots e.loc.toNat).data
    | none=>_)=_
   have avi:∀n,(aH (jC held k).frames n).data=(aH k.frames n).data:=fun n=>by
    rw[hat];by_cases c:(n:Int)=k.hand/\held.contains k.hand=false
    · rw[aB c];rfl
    grind
   grind [jC]
structure Hs (held:List Int) (k:aR) (n:Nat):Prop where
 right:aW (bQ held n k)
 full:Bt (bQ held n k)
 kept:fN k (bQ held n k)
 aj:(bQ held n k).aj=k.aj
 slots:(bQ held n k).slots=k.slots
 hand:(bQ held n k).hand=(k.hand+n)%(k.frames.length:Int)
 Qf:∀i:Nat,(i:Int)∈held->aH (bQ held n k).frames i=aH k.frames i
 past:∀m:Nat,m<n->∀i:Nat,(i:Int)=(k.hand+m)%(k.frames.length:Int)->(i:Int)∈held∨(aH (bQ held n k).frames i).seen=false
theorem Hp (held:List Int) {k:aR} (h:aW k) (hf:Bt k):∀n,Hs held k n
 | 0=>⟨h,hf,fN.refl k,rfl,rfl,by have:=h.hand;show k.hand=(k.hand+((0:Nat):Int))%_;grind [Int.emod_eq_of_lt],fun _ _=>rfl,fun m hm=>by omega⟩
 | n+1=>by
  have t:=Hp held h hf n;obtain⟨s1,s2,s3,s4,s5⟩:=Tn held t.right t.full;have hat:=Q0 held t.right.hand;have Cb:=t.kept.nf;have hN:=h.c.1.1;refine⟨s1,s2,t.kept.trans s3,s4.trans t.aj,s5.trans t.slots,?_,fun i hi=>?_,fun m hm i hi=>?_⟩
  · show jl (bQ held n k)=_;unfold jl;rw[Cb,t.hand,Int.emod_add_emod]
    grind
  · grind [bQ,Hs.Qf]
  · show _∨(aH (jC held (bQ held n k)).frames i).seen=false;rw[hat];by_cases c:(i:Int)=(bQ held n k).hand/\held.contains (bQ held n k).hand=false
    · rw[aB c];exact .inr rfl
    · rw[au c];by_cases d:m=n
      · grind [Hs.hand]
      · exact t.past m (by omega) i hi
theorem af3 {held:List Int} (hl:held.length<=2) (a b c:Int) (h1:a≠b) (h2:a≠c) (h3:b≠c):a∉held∨b∉held∨c∉held:=by
 by_cases ha:a∈held
 · by_cases hb:b∈held
   · right;right;intro hc;have l1:=List.length_erase_of_mem ha;have hb':b∈held.erase a:=(Pt (fun e=>h1 e.symm)).2 hb;have hc':c∈held.erase a:=(Pt (fun e=>h2 e.symm)).2 hc;have l2:=List.length_erase_of_mem hb';have hc'':c∈(held.erase a).erase b:=(Pt (fun e=>h3 e.symm)).2 hc'
     grind
   grind
 grind
theorem D9 {x n:Int} (h0:0<=x) (h1:x<2*n) (hn:0<n):(x<n/\x%n=x)∨(n<=x/\x%n=x-n):=by
 by_cases c:x<n
 · grind [Int.emod_eq_of_lt]
 · right;refine⟨by omega,?_⟩;rw[<- Int.sub_emod_right x n];exact ahx (by omega) (by omega)
theorem IQ (held:List Int) (hl:held.length<=2) {k:aR} (h:aW k) (hf:Bt k):∃T,T<=66/\(∀m,m<T->nM held (bQ held m k)=true)/\nM held (bQ held T k)=false:=by
 have hN:=h.c.1;have hex:∃T,T<=66/\nM held (bQ held T k)=false:=by
  have hh:=h.hand;obtain⟨N,hNe⟩:∃N:Int,N=(k.frames.length:Int):=⟨_,rfl⟩;have hit:∀x:Nat,x<3->(k.hand+x)%N∉held->∃T,T<=66/\nM held (bQ held T k)=false:=fun x hx hno=>by
   have t:=Hp held h hf (k.frames.length+x);have hm:0<=(k.hand+x)%N/\(k.hand+x)%N<N:=⟨Int.emod_nonneg _ (by omega),Int.emod_lt_of_pos _ (by omega)⟩;have al8:(bQ held (k.frames.length+x) k).hand=(k.hand+x)%N:=by
    grind [Int.add_emod_right,Hs.hand]
   refine⟨k.frames.length+x,by omega,?_⟩;unfold nM;rw[al8];have hi:(((k.hand+x)%N).toNat:Int)=(k.hand+x)%N:=by omega
   have:=t.past x (by omega) ((k.hand+x)%N).toNat (by grind)
   grind
  have d0:=D9 (x:=k.hand+(0:Nat)) (n:=N) (by omega) (by omega) (by omega);have d1:=D9 (x:=k.hand+(1:Nat)) (n:=N) (by omega) (by omega) (by omega);have d2:=D9 (x:=k.hand+(2:Nat)) (n:=N) (by omega) (by omega) (by omega);rcases af3 hl ((k.hand+(0:Nat))%N) ((k.hand+(1:Nat))%N) ((k.hand+(2:Nat))%N) (by omega) (by omega) (by omega) with g | g | g
  · grind
  · exact hit 1 (by omega) g
  grind
 obtain⟨T,hT,hp⟩:=hex;clear hN;induction T using Nat.strongRecOn with
 | _ T ih =>
  grind
theorem IP (held:List Int):∀(T n:Nat) (k:aR),T<=n->(∀m,m<T->nM held (bQ held m k)=true)->nM held (bQ held T k)=false->nA held (n+1) k=bQ held T k:=fun T=>by
 have shift:∀m k,bQ held m (jC held k)=bQ held (m+1) k:=fun m k=>by
  induction m with
  | zero=>rfl
  | succ m ih=>show jC held _=jC held _;rw[ih]
 induction T with
 | zero =>
  intro n k _ _ h;show(if nM held k then _ else k)=k;rw[au (by rw[show nM held k=false from h];simp)]
 | succ T ih =>
  intro n k hn h1 h2;obtain⟨n,rfl⟩:∃m,n=m+1:=⟨n-1,by omega⟩;show(if nM held k then nA held (n+1) (jC held k) else k)=_;rw[aB (show nM held k=true from h1 0 (by omega)),ih n (jC held k) (by omega) (fun m hm=>by grind) (by grind),shift]
def bM (k:aR) (held:List Int):Nat×aR:=match yB k.frames with
 | some i=>(i,k)
 | none=>((nA held 70 k).hand.toNat,{ eJ (nA held 70 k) (nA held 70 k).hand.toNat with hand:=jl (nA held 70 k) })
structure uw (k:aR) (held:List Int) (g:Nat×aR):Prop where
 right:aW g.2
 kept:fN k g.2
 lt:g.1<k.frames.length
 free:bU g.2.aj 1 g.1=[]
 Qf:∀i:Nat,(i:Int)∈held->(aH k.frames i).refs≠0->i≠g.1/\aH g.2.frames i=aH k.frames i
 Mq:∀j,j<k.aj.length->∀p,(∀e,bl (ak k.aj j).bf p=some e->¬(e.kind=1/\e.loc=(g.1:Int)))->bl (ak g.2.aj j).bf p=bl (ak k.aj j).bf p
 slot:∀n:Nat,bU k.aj 2 n≠[]->bE g.2.slots n=bE k.slots n
theorem tq {k:aR} (h:aW k) {held:List Int} (hl:held.length<=2):uw k held (bM k held):=by
 unfold bM;cases hf:yB k.frames with
 | some i =>
  obtain⟨h1,h2,_⟩:=PJ.1 hf;have hr:(aH k.frames i).refs=0:=by
   grind [aH]
  exact⟨h,fN.refl k,h1,(h.zP i h1).nil hr,fun n _ hn=>⟨fun e=>hn (by grind),rfl⟩,fun j _ p _=>rfl,fun _ _=>rfl⟩
 | none =>
  have hF:Bt k:=fun i hi hr=>by
   have:=Vu.1 hf (aH k.frames i) (jT hi)
   grind
  obtain⟨T,hT,t1,t2⟩:=IQ held hl h hF;have hc:nA held 70 k=bQ held T k:=IP held T 69 k (by omega) t1 t2;rw[hc];have t:=Hp held h hF T;obtain⟨k1,hk1⟩:=ex (bQ held T k);have tr:=t.right;have tf:=t.full;have tk:=t.kept;have ts:=t.aj;have tl:=t.slots;have th:=t.Qf;rw[<- hk1] at t2 tr tf tk ts tl th ⊢;obtain⟨i,hi⟩:=ex k1.hand.toNat
  have hh:=tr.hand;have hi1:i<k1.frames.length:=by omega
  have hr:=tf i hi1;have a1:=tr.aside hi1 hr;have a2:=Tz tr hi1 hr;have h3:=tr.c.1.1;have a3:(eJ k1 i).frames.length=k1.frames.length:=a2.nf;rw[<- hi];have hb:aW { eJ k1 i with hand:=jl k1 }:=a1.turn (by simp_all [Q7]);have hkk:fN (eJ k1 i) { eJ k1 i with hand:=jl k1 }:=⟨rfl,rfl,rfl,rfl,fun _ _=>rfl,fun _ _=>rfl,fun _ _ _=>rfl⟩;have Cb:=tk.nf;refine⟨hb,tk.trans (a2.trans hkk),by grind,TA k1 i,fun n hn _=>?_,fun j hj p he=>?_,fun n hn=>?_⟩
  · grind [nM,EY,jU]
  · grind [WO]
  grind [Ty]
end Go.Proofs.YtlgoihmkgaaemaaGreat
