import Derived.Test.YtlgoihmkgaaemaaGreatGN04
set_option maxHeartbeats 20000000
set_option linter.unusedVariables false
set_option maxRecDepth 100000
set_option linter.unusedSimpArgs false
namespace Go.Proofs.YtlgoihmkgaaemaaGreat
open Go.RowKit
structure lQ where
 data:ByteArray
 refs:Int
 jo:Bool
 seen:Bool
structure oZ where
 data:ByteArray
 refs:Int
structure bI where
 page:Int
 kind:Int
 loc:Int
structure cY where
 live:Bool
 aU:List aX
 bc:List bI
structure aT where
 aM:List bJ
 frames:List lQ
 slots:List oZ
 aj:List cY
 hand:Int
def gM:lQ:=⟨⟨#[]⟩,0,false,false⟩
def nK:oZ:=⟨⟨#[]⟩,0⟩
def gV:bI:=⟨0,0,0⟩
def qV:cY:=⟨false,[],[]⟩
def aH (l:List lQ) (i:Nat):lQ:=l.getD i gM
def bH (l:List oZ) (i:Nat):oZ:=l.getD i nK
def aW (l:List bI) (i:Nat):bI:=l.getD i gV
def ak (l:List cY) (i:Nat):cY:=l.getD i qV
theorem jP {α:Type} {d:α}:∀{l:List α} {i:Nat},i<l.length->l.getD i d∈l
 | [],i,h=>absurd h (ky _)
 | a::r,0,h=>Dt
 | a::r,i+1,h=>G6 _ (jP (l:=r) (Ds h))
theorem lG {α:Type} (d:α):∀{l:List α} {x:α},x∈l->∃i,i<l.length/\l.getD i d=x
 | a::r,x,h=>by
  rcases uI.1 h with rfl | h
  · exact⟨0,O7 _,rfl⟩
  · obtain⟨i,hi,e⟩:=lG d h;exact⟨i+1,O6 hi,e⟩
theorem eV {α:Type} (d x:α):∀(l:List α) (i:Nat),i<l.length->(l.set i x).getD i d=x
 | a::r,0,_=>rfl
 | a::r,i+1,h=>eV d x r i (Ds h)
theorem tj {α:Type} (d x:α):∀(l:List α) (i j:Nat),i≠j->(l.set i x).getD j d=l.getD j d
 | [],_,_,_=>rfl
 | a::r,0,0,h=>absurd rfl h
 | a::r,0,j+1,_=>rfl
 | a::r,i+1,0,_=>rfl
 | a::r,i+1,j+1,h=>tj d x r i j (fun e=>h (by rw[e]))
def fE (s:cY) (kd at_:Int):List (Int×Bool):=(s.bc.filter fun e=>decide (e.kind=kd/\e.loc=at_)).map fun e=>(e.page,(aY s.aU e.page).1.zero)
def bW (ss:List cY) (kd at_:Int):List (Int×Bool):=ss.flatMap fun s=>fE s kd at_
def iJ (hs:List bJ) (p:Int):Option bJ:=hs.find? fun s=>decide (s.page=p)
def fq (hs:List bJ) (p:Int):ByteArray:=match iJ hs p with
 | some s=>rA s
 | none=>⟨#[]⟩
def vq:ByteArray:=⟨#[0,0,0,0,0,0,0,0,0,0,0,0,0,0,0,0]⟩
def gm (hs:List bJ) (p:Int) (z:Bool):ByteArray:=if z then vq else fq hs p
def yC (nf ns:Nat) (ar:List aX) (e:bI):Prop:=(aY ar e.page).2=true/\((e.kind=1/\0<=e.loc/\e.loc<nf)∨(e.kind=2/\0<=e.loc/\e.loc<ns))
structure uX (hs:List bJ) (nf ns:Nat) (s:cY):Prop where
 dead:s.live=false->s.aU=[]/\s.bc=[]
 aU:bk s.aU=0
 mr:(s.bc.map (·.page)).Pairwise (·<·)
 M6:∀e∈s.bc,yC nf ns s.aU e
 aM:∀p,(aY s.aU p).2=true->(aY s.aU p).1.zero=false->(iJ hs p).isSome=true
structure lN (hs:List bJ) (L:List (Int×Bool)) (f:lQ):Prop where
 refs:f.refs=L.length
 zero:L=[]->f=gM
 one:∀x∈L,∀y∈L,x=y
 size:L≠[]->f.data.size=16
 fill:f.jo=false->∀x∈L,f.data=gm hs x.1 x.2
structure oM (L:List (Int×Bool)) (s:oZ):Prop where
 refs:s.refs=L.length
 zero:L=[]->s=nK
 one:∀x∈L,∀y∈L,x=y
 size:L≠[]->s.data.size=16
def jC (l:List cY):Nat->Int
 | 0=>0
 | k+1=>jC l k+bh (ak l k).aU
def eB (l:List cY):Int:=jC l l.length
def nB (k:aT):Bool:=decide ((3<=k.frames.length/\k.frames.length<=64)/\k.slots.length<=512/\(1<=k.aj.length/\k.aj.length<=4)/\k.aM.length<=255)
structure aZ (k:aT):Prop where
 counts:nB k=true
 mr:gX k.aM=true
 hand:0<=k.hand/\k.hand<k.frames.length
 each:∀s∈k.aj,uX k.aM k.frames.length k.slots.length s
 room:eB k.aj<=k.slots.length
 zL:∀i:Nat,i<k.frames.length->lN k.aM (bW k.aj 1 i) (aH k.frames i)
 slt:∀i:Nat,i<k.slots.length->oM (bW k.aj 2 i) (bH k.slots i)
theorem aZ.c {k:aT} (h:aZ k):(3<=k.frames.length/\k.frames.length<=64)/\k.slots.length<=512/\(1<=k.aj.length/\k.aj.length<=4)/\k.aM.length<=255:=oP h.counts
theorem K5 (kd a:Int):bW [] kd a=[]:=rfl
theorem kO (s:cY) (r:List cY) (kd a:Int):bW (s::r) kd a=fE s kd a++bW r kd a:=nW
theorem EP (l r:List cY) (kd a:Int):bW (l++r) kd a=bW l kd a++bW r kd a:=xN
theorem ux {s:cY} {kd a:Int} {x:Int×Bool}:x∈fE s kd a↔∃e∈s.bc,e.kind=kd/\e.loc=a/\x=(e.page,(aY s.aU e.page).1.zero):=by
 grind [fE]
theorem pC {ss:List cY} {kd a:Int} {x:Int×Bool}:x∈bW ss kd a↔∃s∈ss,∃e∈s.bc,e.kind=kd/\e.loc=a/\x=(e.page,(aY s.aU e.page).1.zero):=by
 grind [bW,ux]
theorem zo:∀(l:List cY) (j:Nat) (s:cY) (kd a:Int),j<l.length->∃u v,bW l kd a=u++(fE (ak l j) kd a++v)/\bW (l.set j s) kd a=u++(fE s kd a++v)
 | x::r,0,s,kd,a,_=>⟨[],bW r kd a,kO x r kd a,kO s r kd a⟩
 | x::r,j+1,s,kd,a,h=>by
  obtain⟨u,v,h1,h2⟩:=zo r j s kd a (Ds h);refine⟨fE x kd a++u,v,?_,?_⟩
  · rw[kO,h1,vM];rfl
  grind [kO]
theorem tQ (f:cY->cY) (kd a:Int) (kd' a':Int):∀(l:List cY),(∀s∈l,fE (f s) kd a=fE s kd' a')->bW (l.map f) kd a=bW l kd' a'
 | [],_=>rfl
 | x::r,h=>by
  rw[yZ,kO,kO,h x Dt,tQ f kd a kd' a' r (fun s hs=>h s (G6 _ hs))]
theorem pN (f:cY->cY) (kd a:Int):∀(l:List cY),(∀s∈l,fE (f s) kd a=[])->bW (l.map f) kd a=[]
 | [],_=>rfl
 | x::r,h=>by
  rw[yZ,kO,h x Dt,pN f kd a r (fun s hs=>h s (G6 _ hs))];rfl
theorem uO (l m:List cY):∀k,(∀i,i<k->(ak l i).aU=(ak m i).aU)->jC l k=jC m k
 | 0,_=>rfl
 | k+1,h=>by rw[jC,jC,uO l m k (fun i hi=>h i (Nat.lt_succ_of_lt hi)),h k (O8 k)]
open Go.RowKit
def jH (es:List bI):Prop:=(es.map (·.page)).Pairwise (·<·)
def bu (es:List bI) (p:Int):Option bI:=es.find? fun e=>decide (e.page=p)
theorem KY {a:bI} {r:List bI} (h:jH (a::r)):jH r/\∀e∈r,a.page<e.page:=by
 have:=AU.1 h;exact⟨this.2,fun e he=>this.1 _ (List.mem_map_of_mem he)⟩
theorem ie:∀{es:List bI} {p:Int} {e:bI},jH es->(bu es p=some e↔e∈es/\e.page=p)
 | [],p,e,_=>by simp[bu]
 | a::r,p,e,h=>by
  have hr:=KY h;by_cases c:a.page=p
  · grind [bu]
  · have:bu (a::r) p=bu r p:=by simp[bu,c]
    rw[this,ie hr.1]
    grind
theorem qJ {es:List bI} {p:Int}:bu es p=none↔∀e∈es,e.page≠p:=by
 grind [bu]
def mH:List bI->bI->List bI
 | [],e=>[e]
 | a::r,e=>if a.page<e.page then a::mH r e else if a.page=e.page then e::r else e::a::r
theorem wk:∀{es:List bI} {e:bI},jH es->∃pre post,es=pre++((bu es e.page).toList++post)/\mH es e=pre++e::post/\(∀x∈pre,x.page<e.page)/\∀x∈post,e.page<x.page
 | [],e,_=>⟨[],[],rfl,rfl,by simp,by simp⟩
 | a::r,e,h=>by
  have hr:=KY h;unfold mH;by_cases c:a.page<e.page
  · obtain⟨pre,post,h1,h2,h3,h4⟩:=wk (es:=r) (e:=e) hr.1;have:bu (a::r) e.page=bu r e.page:=by grind [bu]
    grind
  · rw[aA c];by_cases d:a.page=e.page
    · have:bu (a::r) e.page=some a:=by simp[bu,d]
      rw[aC d,this];exact⟨[],r,rfl,rfl,by simp,fun x hx=>by grind⟩
    · have:bu (a::r) e.page=none:=qJ.2 fun x hx=>by
       grind
      rw[aA d,this];refine⟨[],a::r,rfl,rfl,by simp,fun x hx=>?_⟩
      grind
theorem Y9 {pre post:List bI} {e:bI} (hp:jH pre) (hq:jH post) (h1:∀x∈pre,x.page<e.page) (h2:∀x∈post,e.page<x.page):jH (pre++e::post):=by
 grind [jH,List.pairwise_cons]
theorem Ck {a b:List bI} (h:jH (a++b)):jH a/\jH b:=by
 grind [jH]
theorem NB {es:List bI} {e:bI} (h:jH es):jH (mH es e):=by
 obtain⟨pre,post,h1,h2,h3,h4⟩:=wk (e:=e) h;rw[h2];rw[h1] at h;exact Y9 (Ck h).1 (Ck (Ck h).2).2 h3 h4
def jO (ar:List aX) (kd a:Int) (es:List bI):List (Int×Bool):=(es.filter fun e=>decide (e.kind=kd/\e.loc=a)).map fun e=>(e.page,(aY ar e.page).1.zero)
theorem zq (s:cY) (kd a:Int):fE s kd a=jO s.aU kd a s.bc:=rfl
theorem mQ (ar:List aX) (kd a:Int) (l r:List bI):jO ar kd a (l++r)=jO ar kd a l++jO ar kd a r:=by grind [jO]
theorem xn (ar:List aX) (kd a:Int) (e:bI) (r:List bI):jO ar kd a (e::r)=jO ar kd a [e]++jO ar kd a r:=mQ ar kd a [e] r
theorem rU (ar:List aX) {kd a:Int} {e:bI} (h:e.kind=kd/\e.loc=a):jO ar kd a [e]=[(e.page,(aY ar e.page).1.zero)]:=by simp[jO,h]
theorem nO (ar:List aX) {kd a:Int} {e:bI} (h:¬(e.kind=kd/\e.loc=a)):jO ar kd a [e]=[]:=by
 grind [jO]
theorem Mw {ar:List aX} {kd a:Int} {es:List bI} {x:Int×Bool}:x∈jO ar kd a es↔∃e∈es,e.kind=kd/\e.loc=a/\x=(e.page,(aY ar e.page).1.zero):=ux (s:=⟨true,ar,es⟩)
theorem K4 {ar:List aX} {kd a:Int} {es:List bI} (h:∀e∈es,¬(e.kind=kd/\e.loc=a)):jO ar kd a es=[]:=by
 simp_all [acV,Mw]
theorem Bk {l:List cY} {j:Nat} (h:j<l.length):ak l j∈l:=jP h
theorem aZ.sp {k:aT} (h:aZ k) {j:Nat} (hj:j<k.aj.length):uX k.aM k.frames.length k.slots.length (ak k.aj j):=h.each _ (Bk hj)
theorem jr {ss:List cY} {j:Nat} (hj:j<ss.length) {e:bI} (he:e∈(ak ss j).bc):(e.page,(aY (ak ss j).aU e.page).1.zero)∈bW ss e.kind e.loc:=pC.2 ⟨_,Bk hj,e,he,rfl,rfl,rfl⟩
theorem aZ.frame {k:aT} (h:aZ k) {i:Nat} {f:lQ} (hf:lN k.aM (bW k.aj 1 i) f):aZ { k with frames:=k.frames.set i f }:=by
 have hl:(k.frames.set i f).length=k.frames.length:=fJ;refine⟨?_,h.mr,by simp_all [hand],?_,h.room,?_,h.slt⟩
 · have:=h.counts
   grind [nB]
 · grind [each]
 · intro n hn;have hn':n<k.frames.length:=by grind
   show lN k.aM (bW k.aj 1 n) ((k.frames.set i f).getD n gM);by_cases c:i=n
   · grind
   · rw[tj _ _ _ _ _ c];exact h.zL n hn'
theorem aZ.turn {k:aT} (h:aZ k) {x:Int} (hx:0<=x/\x<k.frames.length):aZ { k with hand:=x }:=⟨h.counts,h.mr,hx,h.each,h.room,h.zL,h.slt⟩
theorem lN.seen {hs:List bJ} {L:List (Int×Bool)} {f:lQ} (h:lN hs L f) (b:Bool) (hL:L≠[]):lN hs L { f with seen:=b }:=⟨h.refs,fun e=>absurd e hL,h.one,h.size,h.fill⟩
theorem lN.ne {hs:List bJ} {L:List (Int×Bool)} {f:lQ} (h:lN hs L f) (hr:f.refs≠0):L≠[]:=fun e=>hr (by rw[h.refs,e];rfl)
theorem lN.nil {hs:List bJ} {L:List (Int×Bool)} {f:lQ} (h:lN hs L f) (hr:f.refs=0):L=[]:=by
 have:=h.refs
 simp_all
theorem oM.nil {L:List (Int×Bool)} {f:oZ} (h:oM L f) (hr:f.refs=0):L=[]:=by
 have:=h.refs
 simp_all
theorem lN.none (hs:List bJ):lN hs [] gM:=⟨rfl,fun _=>rfl,by simp,fun h=>absurd rfl h,by simp⟩
theorem oM.none:oM [] nK:=⟨rfl,fun _=>rfl,by simp,fun h=>absurd rfl h⟩
def rI (f:lQ):lQ:=if f.refs-1=0 then gM else { f with refs:=f.refs-1 }
def uA (f:oZ):oZ:=if f.refs-1=0 then nK else { f with refs:=f.refs-1 }
theorem lN.less {hs:List bJ} {X Y:List (Int×Bool)} {x:Int×Bool} {f:lQ} (h:lN hs (X++x::Y) f):lN hs (X++Y) (rI f):=by
 have hr:=h.refs;have hn:X++x::Y≠[]:=by simp
 have hm:∀y∈X++Y,y∈X++x::Y:=fun y hy=>by
  grind
 rw[fK,xM] at hr;unfold rI;by_cases c:f.refs-1=0
 · rw[aC c];have:X++Y=[]:=jY (by grind)
   grind [lN.none]
 · rw[aA c];refine⟨?_,fun e=>?_,fun a ha b hb=>h.one a (hm a ha) b (hm b hb),fun _=>h.size hn,fun d y hy=>h.fill d y (hm y hy)⟩
   · grind
   simp_all
theorem oM.less {X Y:List (Int×Bool)} {x:Int×Bool} {f:oZ} (h:oM (X++x::Y) f):oM (X++Y) (uA f):=by
 have hr:=h.refs;have hn:X++x::Y≠[]:=by simp
 have hm:∀y∈X++Y,y∈X++x::Y:=fun y hy=>by
  grind
 rw[fK,xM] at hr;unfold uA;by_cases c:f.refs-1=0
 · rw[aC c];have:X++Y=[]:=jY (by grind)
   grind [oM.none]
 · rw[aA c];refine⟨?_,fun e=>?_,fun a ha b hb=>h.one a (hm a ha) b (hm b hb),fun _=>h.size hn⟩
   · grind
   simp_all
open Go.RowKit
def kY (i:Int) (e:bI):Bool:=decide (e.kind=1/\e.loc=i)
def wu (i:Int) (es:List bI):List bI:=es.filter fun e=>!kY i e
def jM (i s:Int) (es:List bI):List bI:=es.map fun e=>if kY i e then ⟨e.page,2,s⟩ else e
def yB (l:List lQ):Option Nat:=l.findIdx? fun f=>decide (f.refs=0)
def yA (l:List oZ):Option Nat:=l.findIdx? fun f=>decide (f.refs=0)
def oa (i:Int) (s:cY):cY:={ s with bc:=wu i s.bc }
def ko (i s:Int) (sp:cY):cY:={ sp with bc:=jM i s sp.bc }
def Af (k:aT) (i:Nat):aT:={ k with frames:=k.frames.set i gM,aj:=k.aj.map (oa i) }
def FN (k:aT) (i s:Nat):aT:={ k with frames:=k.frames.set i gM,slots:=k.slots.set s ⟨(aH k.frames i).data,(aH k.frames i).refs⟩,aj:=k.aj.map (ko i s) }
def eN (k:aT) (i:Nat):aT:=if (aH k.frames i).jo then (match yA k.slots with
 | some s=>FN k i s
 | none=>Af k i) else Af k i
def cI (k:aT) (j:Nat) (p:Int):ByteArray:=match bu (ak k.aj j).bc p with
 | some e=>if e.kind=1 then (aH k.frames e.loc.toNat).data else (bH k.slots e.loc.toNat).data
 | none=>gm k.aM p (aY (ak k.aj j).aU p).1.zero
theorem NG {α β:Type} (f:α->β) (d:α) (d':β):∀(l:List α) (i:Nat),i<l.length->(l.map f).getD i d'=f (l.getD i d)
 | a::r,0,_=>rfl
 | a::r,i+1,h=>NG f d d' r i (Ds h)
theorem yz {i:Int} {e:bI}:kY i e=true↔e.kind=1/\e.loc=i:=by simp[kY]
theorem oL {i:Int} {e:bI}:kY i e=false↔¬(e.kind=1/\e.loc=i):=by simp[kY]
theorem Ac {i:Int} {es:List bI} {e:bI}:e∈wu i es↔e∈es/\¬(e.kind=1/\e.loc=i):=by
 grind [wu,oL]
theorem NC {i:Int} {es:List bI} (h:jH es):jH (wu i es):=UZ (List.filter_sublist.map _) h
theorem SX (i s:Int) (es:List bI):(jM i s es).map (·.page)=es.map (·.page):=by
 grind [jM,List.map_congr_left]
theorem KQ {i s:Int} {es:List bI} (h:jH es):jH (jM i s es):=by grind [jH,SX]
theorem Bj {i s:Int} {es:List bI} {x:bI}:x∈jM i s es↔(x∈es/\¬(x.kind=1/\x.loc=i))∨∃e∈es,(e.kind=1/\e.loc=i)/\x=⟨e.page,2,s⟩:=by
 grind [jM,oL]
theorem Uo (ar:List aX) (i kd a:Int) (es:List bI) (h:¬(kd=1/\a=i)):jO ar kd a (wu i es)=jO ar kd a es:=by
 unfold jO wu;rw[List.filter_filter]
 grind [oL]
theorem xW (ar:List aX) (i:Int) (es:List bI):jO ar 1 i (wu i es)=[]:=K4 fun e he=>(Ac.1 he).2
theorem Jp (ar:List aX) (i s kd a:Int) (h:¬(kd=1/\a=i)) (h2:¬(kd=2/\a=s)):∀es:List bI,jO ar kd a (jM i s es)=jO ar kd a es
 | []=>rfl
 | e::r=>by
  have e1:jM i s (e::r)=(if kY i e then ⟨e.page,2,s⟩ else e)::jM i s r:=rfl;rw[e1,xn,xn ar kd a e r,Jp ar i s kd a h h2 r]
  grind [nO,oL]
theorem FU (ar:List aX) (i s:Int) (es:List bI):jO ar 1 i (jM i s es)=[]:=K4 fun e he g=>by
 grind [Bj]
theorem Ix (ar:List aX) (i s:Int):∀es:List bI,(∀e∈es,¬(e.kind=2/\e.loc=s))->jO ar 2 s (jM i s es)=jO ar 1 i es
 | [],_=>rfl
 | e::r,h=>by
  have e1:jM i s (e::r)=(if kY i e then ⟨e.page,2,s⟩ else e)::jM i s r:=rfl;rw[e1,xn,xn ar 1 i e r,Ix ar i s r (fun x hx=>h x (G6 _ hx))]
  grind [rU,oL,nO]
theorem Nz (f:cY->cY) (hf:∀s,(f s).aU=s.aU) (l:List cY):eB (l.map f)=eB l:=by
 grind [eB,uO,ak]
theorem aZ.am7 {k:aT} (h:aZ k) {i:Nat} (hi:i<k.frames.length):aZ (Af k i):=by
 have hl:(k.frames.set i gM).length=k.frames.length:=fJ;have hm:(k.aj.map (oa i)).length=k.aj.length:=ia ..;refine⟨?_,h.mr,by show 0<=k.hand/\k.hand<((k.frames.set i gM).length:Int);simp_all [hand],?_,?_,?_,?_⟩
 · have:=h.counts
   grind [nB,Af]
 · show ∀s∈k.aj.map (oa i),uX k.aM (k.frames.set i gM).length k.slots.length s;rw[hl];intro s hs;obtain⟨s,hsq,rfl⟩:=vH.1 hs;have g:=h.each s hsq;exact⟨fun d=>⟨(g.dead d).1,by show wu i s.bc=[];rw[(g.dead d).2];rfl⟩,g.aU,NC g.mr,fun e he=>g.M6 e (Ac.1 he).1,g.aM⟩
 · show eB (k.aj.map (oa i))<=_;rw[Nz (oa i) (fun _=>rfl)];exact h.room
 · intro n hn;have hn':n<k.frames.length:=by rw[<- hl];exact hn
   show lN k.aM (bW (k.aj.map (oa i)) 1 n) ((k.frames.set i gM).getD n gM);by_cases c:i=n
   · subst c;rw[eV _ _ _ _ hn',pN (oa i) 1 i _ (fun s _=>xW s.aU i s.bc)];exact lN.none _
   · rw[tj _ _ _ _ _ c,tQ (oa i) 1 n 1 n _ (fun s _=>Uo s.aU i 1 n s.bc (by omega))];exact h.zL n hn'
 · intro n hn;show oM (bW (k.aj.map (oa i)) 2 n) (bH k.slots n);rw[tQ (oa i) 2 n 2 n _ (fun s _=>Uo s.aU i 2 n s.bc (by omega))];exact h.slt n hn
theorem aZ.alV {k:aT} (h:aZ k) {i s:Nat} (hi:i<k.frames.length) (hs:s<k.slots.length) (hf:bW k.aj 2 s=[]):aZ (FN k i s):=by
 have hl:(k.frames.set i gM).length=k.frames.length:=fJ;have hl2:(k.slots.set s ⟨(aH k.frames i).data,(aH k.frames i).refs⟩).length=k.slots.length:=fJ;have hm:(k.aj.map (ko i s)).length=k.aj.length:=ia ..;have hno:∀sp∈k.aj,∀e∈sp.bc,¬(e.kind=2/\e.loc=(s:Int)):=fun sp hsp e he g=>by
  have:(e.page,(aY sp.aU e.page).1.zero)∈bW k.aj 2 s:=pC.2 ⟨sp,hsp,e,he,g.1,g.2,rfl⟩
  grind
 refine⟨?_,h.mr,by show 0<=k.hand/\k.hand<((k.frames.set i gM).length:Int);simp_all [hand],?_,?_,?_,?_⟩
 · have:=h.counts
   grind [nB,FN]
 · show ∀sp∈k.aj.map (ko i s),uX k.aM (k.frames.set i gM).length (k.slots.set s ⟨(aH k.frames i).data,(aH k.frames i).refs⟩).length sp;rw[hl,hl2];intro sp hsp;obtain⟨sp,hsq,rfl⟩:=vH.1 hsp;have g:=h.each sp hsq;refine⟨fun d=>⟨(g.dead d).1,by show jM i s sp.bc=[];rw[(g.dead d).2];rfl⟩,g.aU,KQ g.mr,fun e he=>?_,g.aM⟩;rcases Bj.1 he with x | ⟨x,hx,hc,rfl⟩
   · exact g.M6 e x.1
   · exact⟨(g.M6 x hx).1,.inr ⟨rfl,by grind,by grind⟩⟩
 · show eB (k.aj.map (ko i s))<=((k.slots.set s ⟨(aH k.frames i).data,(aH k.frames i).refs⟩).length:Int);rw[hl2,Nz (ko i s) (fun _=>rfl)];exact h.room
 · intro n hn;have hn':n<k.frames.length:=by rw[<- hl];exact hn
   show lN k.aM (bW (k.aj.map (ko i s)) 1 n) ((k.frames.set i gM).getD n gM);by_cases c:i=n
   · subst c;rw[eV _ _ _ _ hn',pN (ko i s) 1 i _ (fun sp _=>FU sp.aU i s sp.bc)];exact lN.none _
   · rw[tj _ _ _ _ _ c,tQ (ko i s) 1 n 1 n _ (fun sp _=>Jp sp.aU i s 1 n (by omega) (by omega) sp.bc)];exact h.zL n hn'
 · intro n hn;have hn':n<k.slots.length:=by rw[<- hl2];exact hn
   show oM (bW (k.aj.map (ko i s)) 2 n) ((k.slots.set s ⟨(aH k.frames i).data,(aH k.frames i).refs⟩).getD n nK);by_cases c:s=n
   · subst c;rw[eV _ _ _ _ hn',tQ (ko i s) 2 s 1 i _ (fun sp hsp=>Ix sp.aU i s sp.bc (hno sp hsp))];have g:=h.zL i hi;exact⟨g.refs,fun e=>by rw[g.zero e];rfl,g.one,g.size⟩
   · rw[tj _ _ _ _ _ c,tQ (ko i s) 2 n 2 n _ (fun sp _=>Jp sp.aU i s 2 n (by omega) (by omega) sp.bc)];exact h.slt n hn'
theorem Um:∀(n:Nat) (L:List Int),(∀i:Nat,i<n->(i:Int)∈L)->n<=L.length
 | 0,_,_=>uH _
 | n+1,L,h=>by
  have hn:=h n (O8 n);have:=Um n (L.erase (n:Int)) (fun i hi=>(Ph (by omega)).2 (h i (by omega)))
  grind
def xZ (ss:List cY):List bI:=ss.flatMap (·.bc)
theorem Co {hs:List bJ} {nf ns:Nat} {s:cY} (g:uX hs nf ns s):(s.bc.length:Int)<=bh s.aU:=by
 rw[tE g.aU];have:=mU (dH s.aU) (s.bc.map (·.page)) g.mr (oC g.aU).sorted (fun x hx=>by
  obtain⟨e,he,rfl⟩:=vH.1 hx;exact(rp g.aU _).1 (g.M6 e he).1)
 grind
theorem Mt (l r:List cY):∀k,k<=l.length->jC (l++r) k=jC l k:=fun k hk=>uO _ _ _ fun i hi=>by
 grind [ak]
theorem KW (l:List cY) (s:cY):eB (l++[s])=eB l+bh s.aU:=by
 simp[eB,jC,Mt,ak]
theorem Gd:∀(m:Nat) (l:List cY),l.length=m->(∀s∈l,(s.bc.length:Int)<=bh s.aU)->((xZ l).length:Int)<=eB l
 | 0,l,h,_=>by
  have:l=[]:=jY h;subst this;exact AB _
 | m+1,l,h,hs=>by
  have hne:l≠[]:=fun e=>by grind
  obtain⟨l',s,rfl⟩:∃l' s,l=l'++[s]:=⟨l.dropLast,l.getLast hne,(acT hne).symm⟩;rw[KW];have:=Gd m l' (by grind) (fun x hx=>hs x (lV.2 (.inl hx)))
  grind [xZ]
theorem aZ.slot {k:aT} (h:aZ k) {i:Nat} (hi:i<k.frames.length) (hr:(aH k.frames i).refs≠0):∃s,yA k.slots=some s/\s<k.slots.length/\bW k.aj 2 s=[]:=by
 cases hf:yA k.slots with
 | some s =>
  obtain⟨h1,h2,_⟩:=Pv.1 hf
  grind [bH,slt,oM.nil]
 | none =>
  exfalso;have hno:=U5.1 hf;have hall:∀n:Nat,n<k.slots.length->∃e∈xZ k.aj,e.kind=2/\e.loc=(n:Int):=fun n hn=>by
   have h1:=hno (bH k.slots n) (jP hn);have h2:=(h.slt n hn).refs;have h3:bW k.aj 2 n≠[]:=fun e=>by
    grind
   obtain⟨x,hx⟩:=JU _ h3;obtain⟨s,hs,e,he,g1,g2,_⟩:=pC.1 hx;exact⟨e,vJ.2 ⟨s,hs,he⟩,g1,g2⟩
  have hp:=Um k.slots.length (((xZ k.aj).filter fun e:bI=>decide (e.kind=2)).map (·.loc)) (fun n hn=>by
   grind)
  rw[ia] at hp;have hroom:=Gd _ k.aj rfl (fun s hs=>Co (h.each s hs));have hr2:=h.room;obtain⟨x,hx⟩:=JU _ ((h.zL i hi).ne hr)
  grind [pC,xZ,List.length_filter_eq_length_iff]
theorem aZ.aside {k:aT} (h:aZ k) {i:Nat} (hi:i<k.frames.length) (hr:(aH k.frames i).refs≠0):aZ (eN k i):=by
 grind [eN,slot,alV,am7]
open Go.RowKit
def ek (s:cY) (es:List bI):cY:=⟨s.live,s.aU,es⟩
def dM (k:aT) (e:bI):aT:=if e.kind=1 then { k with frames:=k.frames.set e.loc.toNat (rI (aH k.frames e.loc.toNat)) } else { k with slots:=k.slots.set e.loc.toNat (uA (bH k.slots e.loc.toNat)) }
def gp (k:aT) (j:Nat) (e:bI):aT:={ k with aj:=k.aj.set j (ek (ak k.aj j) (mH (ak k.aj j).bc e)) }
def iU (k:aT) (i:Nat) (d:ByteArray) (dy:Bool):aT:={ k with frames:=k.frames.set i ⟨d,1,dy,false⟩ }
def eU (k:aT) (j:Nat) (p:Int) (i:Nat) (d:ByteArray) (dy:Bool):aT:=match bu (ak k.aj j).bc p with
 | none=>gp (iU k i d dy) j ⟨p,1,i⟩
 | some e=>dM (gp (iU k i d dy) j ⟨p,1,i⟩) e
theorem Iz {ss:List cY} {j:Nat} (hj:j<ss.length) (e:bI) (hr:jH (ak ss j).bc) (kd a:Int):∃X Y,bW ss kd a=X++(jO (ak ss j).aU kd a (bu (ak ss j).bc e.page).toList++Y)/\bW (ss.set j (ek (ak ss j) (mH (ak ss j).bc e))) kd a=X++(jO (ak ss j).aU kd a [e]++Y):=by
 obtain⟨pre,post,h1,h2,_,_⟩:=wk (e:=e) hr;obtain⟨u,v,g1,g2⟩:=zo ss j (ek (ak ss j) (mH (ak ss j).bc e)) kd a hj;refine⟨u++jO (ak ss j).aU kd a pre,jO (ak ss j).aU kd a post++v,?_,?_⟩
 · grind [zq,mQ]
 · rw[g2,zq];show u++(jO (ak ss j).aU kd a (mH (ak ss j).bc e)++v)=_
   grind [mQ,xn]
theorem QR {es:List bI} (h:jH es) (e:bI) (p:Int):bu (mH es e) p=if p=e.page then some e else bu es p:=by
 have hp:=NB (e:=e) h;obtain⟨pre,post,h1,h2,h3,h4⟩:=wk (e:=e) h
 grind [ie,qJ]
theorem iI (l:List cY) (j n:Nat) (s:cY) (hj:j<l.length):ak (l.set j s) n=if j=n then s else ak l n:=by
 grind [ak]
theorem jQ (l:List lQ) (j n:Nat) (s:lQ) (hj:j<l.length):aH (l.set j s) n=if j=n then s else aH l n:=by
 grind [aH]
theorem yu (l:List oZ) (j n:Nat) (s:oZ) (hj:j<l.length):bH (l.set j s) n=if j=n then s else bH l n:=by
 grind [bH]
theorem Bl (l:List cY) (j:Nat) (s:cY) (hj:j<l.length) (ha:s.aU=(ak l j).aU):eB (l.set j s)=eB l:=by
 grind [eB,uO,iI]
structure jT (k:aT) (j:Nat) (p:Int) (i:Nat) (d:ByteArray) (dy:Bool):Prop where
 right:aZ k
 hj:j<k.aj.length
 hp:(aY (ak k.aj j).aU p).2=true
 hi:i<k.frames.length
 free:bW k.aj 1 i=[]
 size:d.size=16
 fill:dy=false->d=gm k.aM p (aY (ak k.aj j).aU p).1.zero
theorem ja {k:aT} (h:aZ k) {j:Nat} (hj:j<k.aj.length) {e:bI} (he:e∈(ak k.aj j).bc):(e.kind=1/\(e.loc.toNat:Int)=e.loc/\e.loc.toNat<k.frames.length)∨(e.kind=2/\(e.loc.toNat:Int)=e.loc/\e.loc.toNat<k.slots.length):=by
 rcases((h.sp hj).M6 e he).2 with g | g
 · omega
 omega
theorem oK (k:aT) (j:Nat) (p:Int) (i:Nat) (d:ByteArray) (dy:Bool) (m:jT k j p i d dy):(eU k j p i d dy).frames.length=k.frames.length/\(eU k j p i d dy).slots.length=k.slots.length/\(eU k j p i d dy).aM=k.aM/\(eU k j p i d dy).hand=k.hand/\(eU k j p i d dy).aj=k.aj.set j (ek (ak k.aj j) (mH (ak k.aj j).bc ⟨p,1,i⟩)) /\
  (∀n,aH (eU k j p i d dy).frames n=if n=i then ⟨d,1,dy,false⟩ else match bu (ak k.aj j).bc p with
   | some e=>if e.kind=1/\e.loc=(n:Int) then rI (aH k.frames n) else aH k.frames n
   | none=>aH k.frames n) /\
  (∀n,bH (eU k j p i d dy).slots n=match bu (ak k.aj j).bc p with
   | some e=>if e.kind=2/\e.loc=(n:Int) then uA (bH k.slots n) else bH k.slots n
   | none=>bH k.slots n):=by
 have hr:=(m.right.sp m.hj).mr;unfold eU;cases g:bu (ak k.aj j).bc p with
 | none =>
  refine⟨fJ,rfl,rfl,rfl,rfl,fun n=>?_,fun n=>rfl⟩;show aH (k.frames.set i _) n=_
  grind [jQ,jT.hi]
 | some e =>
  have he:=(ie hr).1 g;have hne:e.kind=1->e.loc.toNat≠i:=fun h1 h2=>by
   have:=jr m.hj he.1;rcases ja m.right m.hj he.1 with b | b
   · grind [jT.free]
   · omega
  dsimp only;unfold dM;rcases ja m.right m.hj he.1 with b | b
  · rw[aC b.1];have hne:=hne b.1;refine⟨by show((k.frames.set i _).set _ _).length=_;grind,rfl,rfl,rfl,rfl,fun n=>?_,fun n=>?_⟩
    · show aH ((k.frames.set i _).set _ (rI (aH (k.frames.set i _) _))) n=_
      grind [jQ,jT.hi]
    · show bH k.slots n=if e.kind=2/\e.loc=(n:Int) then _ else _
      grind
  · rw[aA (by omega)];refine⟨fJ,fJ,rfl,rfl,rfl,fun n=>?_,fun n=>?_⟩
    · show aH (k.frames.set i _) n=if n=i then _ else if e.kind=1/\e.loc=(n:Int) then _ else _
      grind [jQ,jT.hi]
    · show bH (k.slots.set _ (uA (bH k.slots _))) n=if e.kind=2/\e.loc=(n:Int) then _ else _
      grind [yu]
theorem xX {k:aT} {j:Nat} {p:Int} {i:Nat} {d:ByteArray} {dy:Bool} (m:jT k j p i d dy):aZ (eU k j p i d dy):=by
 have h:=m.right;have hsp:=h.sp m.hj;obtain⟨f1,f2,f3,f4,f5,f6,f7⟩:=oK k j p i d dy m;have hlen:(eU k j p i d dy).aj.length=k.aj.length:=by grind
 refine⟨?_,by rw[f3];exact h.mr,by simp_all [aZ.hand],?_,?_,?_,?_⟩
 · have:=h.counts
   grind [nB]
 · rw[f1,f2,f3,f5];intro s hs;rcases acQ hs with g | rfl
   · exact h.each s g
   · refine⟨fun dd=>?_,hsp.aU,NB hsp.mr,fun e he=>?_,hsp.aM⟩
     · have:=m.hp;rw[(hsp.dead dd).1] at this;cases this
     · obtain⟨pre,post,h1,h2,_,_⟩:=wk (e:=(⟨p,1,i⟩:bI)) hsp.mr;rw[show(ek (ak k.aj j) (mH (ak k.aj j).bc ⟨p,1,i⟩)).bc=pre++⟨p,1,i⟩::post from h2] at he;have hin:∀x,x∈pre∨x∈post->x∈(ak k.aj j).bc:=fun x hx=>by
        grind
       rcases lV.1 he with g | g
       · exact hsp.M6 e (hin e (.inl g))
       · rcases uI.1 g with rfl | g
         · exact⟨m.hp,.inl ⟨rfl,by grind,by show(i:Int)<_;have:=m.hi;omega⟩⟩
         · exact hsp.M6 e (hin e (.inr g))
 · rw[f2,f5,Bl _ _ (ek (ak k.aj j) (mH (ak k.aj j).bc ⟨p,1,i⟩)) m.hj rfl];exact h.room
 · intro n hn;rw[f1] at hn;rw[f3,f5,f6];obtain⟨X,Y,h1,h2⟩:=Iz m.hj ⟨p,1,i⟩ hsp.mr 1 n;rw[h2];by_cases c:n=i
   · subst c;rw[aC rfl,rU _ (e:=(⟨p,1,n⟩:bI)) ⟨rfl,rfl⟩];rw[m.free] at h1;have hX:X=[]:=(Po.1 h1.symm).1;have hY:Y=[]:=(Po.1 (Po.1 h1.symm).2).2;subst hX hY;refine⟨rfl,fun e=>(by cases e),fun x hx y hy=>?_,fun _=>m.size,fun e x hx=>?_⟩
     · grind
     grind [jT.fill]
   · rw[aA c,nO _ (e:=(⟨p,1,i⟩:bI)) (fun g=>c (by grind))];have hf:=h.zL n hn;rw[h1] at hf;cases g:bu (ak k.aj j).bc p with
     | none =>
      rw[g] at hf;exact hf
     | some e =>
      grind [rU,nO,lN.less]
 · intro n hn;rw[f2] at hn;rw[f5,f7];obtain⟨X,Y,h1,h2⟩:=Iz m.hj ⟨p,1,i⟩ hsp.mr 2 n;rw[h2,nO _ (e:=(⟨p,1,i⟩:bI)) (fun g=>by grind)];have hf:=h.slt n hn;rw[h1] at hf;cases g:bu (ak k.aj j).bc p with
   | none =>
    rw[g] at hf;exact hf
   | some e =>
    grind [rU,nO,oM.less]
open Go.RowKit
theorem QS {i:Int} {es:List bI} (h:jH es) (p:Int):bu (wu i es) p=(bu es p).filter fun e=>!kY i e:=by
 cases g:bu es p with
 | none=>grind [qJ,Ac]
 | some e =>
  have he:=(ie h).1 g;by_cases c:e.kind=1/\e.loc=i
  · rw[Option.filter_some,yz.2 c,aA (by simp),qJ];intro x hx hp;have hx:=Ac.1 hx;have:some x=some e:=((ie h).2 ⟨hx.1,hp⟩).symm.trans g
    grind
  grind [oL,ie,NC,Ac]
theorem Nu {i s:Int} {es:List bI} (h:jH es) (p:Int):bu (jM i s es) p=(bu es p).map fun e=>if kY i e then ⟨e.page,2,s⟩ else e:=by
 cases g:bu es p with
 | none =>
  grind [qJ,Bj]
 | some e =>
  grind [ie,KQ,Bj,oL]
theorem qI (f:cY->cY) (l:List cY) (j:Nat) (hj:j<l.length):ak (l.map f) j=f (ak l j):=NG f qV qV l j hj
structure fM (k k':aT):Prop where
 aM:k'.aM=k.aM
 nf:k'.frames.length=k.frames.length
 ns:k'.slots.length=k.slots.length
 np:k'.aj.length=k.aj.length
 live:∀j,j<k.aj.length->(ak k'.aj j).live=(ak k.aj j).live
 aU:∀j,j<k.aj.length->(ak k'.aj j).aU=(ak k.aj j).aU
 Si:∀j,j<k.aj.length->∀p,cI k' j p=cI k j p
theorem fM.refl (k:aT):fM k k:=⟨rfl,rfl,rfl,rfl,fun _ _=>rfl,fun _ _=>rfl,fun _ _ _=>rfl⟩
theorem fM.trans {a b c:aT} (h:fM a b) (g:fM b c):fM a c :=
 ⟨g.aM.trans h.aM,g.nf.trans h.nf,g.ns.trans h.ns,g.np.trans h.np,fun j hj=>(g.live j (by grind [np])).trans (h.live j hj),fun j hj=>(g.aU j (by grind [np])).trans (h.aU j hj),fun j hj p=>(g.Si j (by grind [np]) p).trans (h.Si j hj p)⟩
theorem Wk {k:aT} (h:aZ k) {i:Nat} (hi:i<k.frames.length) (hd:(aH k.frames i).jo=false):fM k (Af k i):=by
 refine⟨rfl,fJ,rfl,ia ..,fun j hj=>?_,fun j hj=>?_,fun j hj p=>?_⟩
 · show(ak (k.aj.map (oa i)) j).live=_;rw[qI _ _ _ hj];rfl
 · show(ak (k.aj.map (oa i)) j).aU=_;rw[qI _ _ _ hj];rfl
 · have hsp:=h.sp hj;unfold cI;show(match bu (ak (k.aj.map (oa i)) j).bc p with
    | some e=>if e.kind=1 then (aH (k.frames.set i gM) e.loc.toNat).data else (bH k.slots e.loc.toNat).data
    | none=>gm k.aM p (aY (ak (k.aj.map (oa i)) j).aU p).1.zero)=_
   rw[qI _ _ _ hj];show(match bu (wu i (ak k.aj j).bc) p with
    | some e=>if e.kind=1 then (aH (k.frames.set i gM) e.loc.toNat).data else (bH k.slots e.loc.toNat).data
    | none=>gm k.aM p (aY (ak k.aj j).aU p).1.zero)=_
   rw[QS hsp.mr];cases g:bu (ak k.aj j).bc p with
   | none=>rfl
   | some e =>
    have he:=(ie hsp.mr).1 g;have hb:=ja h hj he.1;by_cases c:e.kind=1/\e.loc=(i:Int)
    · rw[Option.filter_some,yz.2 c,aA (by simp)];show _=if e.kind=1 then _ else _
      rw[aC c.1,show e.loc.toNat=i by omega];have:=jr hj he.1;rw[c.1,c.2] at this;have:=(h.zL i hi).fill hd _ this
      grind
    grind [oL,jQ]
theorem V6 {k:aT} (h:aZ k) {i s:Nat} (hi:i<k.frames.length) (hs:s<k.slots.length) (hf:bW k.aj 2 s=[]):fM k (FN k i s):=by
 refine⟨rfl,fJ,fJ,ia ..,fun j hj=>?_,fun j hj=>?_,fun j hj p=>?_⟩
 · show(ak (k.aj.map (ko i s)) j).live=_;rw[qI _ _ _ hj];rfl
 · show(ak (k.aj.map (ko i s)) j).aU=_;rw[qI _ _ _ hj];rfl
 · have hsp:=h.sp hj;unfold cI;show(match bu (ak (k.aj.map (ko i s)) j).bc p with
    | some e=>if e.kind=1 then (aH (k.frames.set i gM) e.loc.toNat).data else (bH (k.slots.set s ⟨(aH k.frames i).data,(aH k.frames i).refs⟩) e.loc.toNat).data
    | none=>gm k.aM p (aY (ak (k.aj.map (ko i s)) j).aU p).1.zero)=_
   rw[qI _ _ _ hj];show(match bu (jM i s (ak k.aj j).bc) p with
    | some e=>if e.kind=1 then (aH (k.frames.set i gM) e.loc.toNat).data else (bH (k.slots.set s ⟨(aH k.frames i).data,(aH k.frames i).refs⟩) e.loc.toNat).data
    | none=>gm k.aM p (aY (ak k.aj j).aU p).1.zero)=_
   rw[Nu hsp.mr];cases g:bu (ak k.aj j).bc p with
   | none=>rfl
   | some e =>
    have he:=(ie hsp.mr).1 g
    grind [ja,yu,oL,jQ,jr]
theorem Td {k:aT} (h:aZ k) {i:Nat} (hi:i<k.frames.length) (hr:(aH k.frames i).refs≠0):fM k (eN k i):=by
 grind [eN,V6,Wk,aZ.slot]
theorem Te (k:aT) (i:Nat):bW (eN k i).aj 1 i=[]:=by
 unfold eN;by_cases c:(aH k.frames i).jo=true
 · rw[aC c];cases yA k.slots with
   | none=>exact pN (oa i) 1 i _ (fun s _=>xW s.aU i s.bc)
   | some s=>exact pN (ko i s) 1 i _ (fun sp _=>FU sp.aU i s sp.bc)
 · rw[aA c];exact pN (oa i) 1 i _ (fun s _=>xW s.aU i s.bc)
theorem ES (k:aT) (i:Nat):(eN k i).frames=k.frames.set i gM/\(eN k i).hand=k.hand:=by
 unfold eN;by_cases c:(aH k.frames i).jo=true
 · rw[aC c];cases yA k.slots with
   | none=>exact⟨rfl,rfl⟩
   | some s=>exact⟨rfl,rfl⟩
 · rw[aA c];exact⟨rfl,rfl⟩
theorem Wl {k:aT} (h:aZ k) (i:Nat) {j:Nat} (hj:j<k.aj.length) (p:Int) (hn:∀e,bu (ak k.aj j).bc p=some e->¬(e.kind=1/\e.loc=(i:Int))):bu (ak (eN k i).aj j).bc p=bu (ak k.aj j).bc p:=by
 have hr:=(h.sp hj).mr;have hD:bu (ak (k.aj.map (oa i)) j).bc p=bu (ak k.aj j).bc p:=by
  rw[qI _ _ _ hj];show bu (wu i (ak k.aj j).bc) p=_;rw[QS hr];cases g:bu (ak k.aj j).bc p with
  | none=>rfl
  | some e=>grind [oL]
 unfold eN;by_cases c:(aH k.frames i).jo=true
 · rw[aC c];cases yA k.slots with
   | none=>exact hD
   | some s =>
    show bu (ak (k.aj.map (ko i s)) j).bc p=_;rw[qI _ _ _ hj];show bu (jM i s (ak k.aj j).bc) p=_;rw[Nu hr];cases g:bu (ak k.aj j).bc p with
    | none=>rfl
    | some e=>grind [oL]
 · rw[aA c];exact hD
theorem Tc {k:aT} (h:aZ k) {i:Nat} (hi:i<k.frames.length) (hr:(aH k.frames i).refs≠0) (n:Nat) (hn:bW k.aj 2 n≠[]):bH (eN k i).slots n=bH k.slots n:=by
 unfold eN;by_cases c:(aH k.frames i).jo=true
 · rw[aC c];obtain⟨s,h1,h2,h3⟩:=h.slot hi hr;rw[h1];show bH (k.slots.set s _) n=_
   grind [yu]
 · rw[aA c];rfl
theorem DZ {k:aT} {j:Nat} {p:Int} {i:Nat} {d:ByteArray} {dy:Bool} (m:jT k j p i d dy) (hd:d=cI k j p):fM k (eU k j p i d dy):=by
 have h:=m.right;have hsp:=h.sp m.hj;have hR:=xX m;obtain⟨f1,f2,f3,f4,f5,f6,f7⟩:=oK k j p i d dy m;have hat:∀n,ak (eU k j p i d dy).aj n=if j=n then ek (ak k.aj j) (mH (ak k.aj j).bc ⟨p,1,i⟩) else ak k.aj n:=fun n=>by grind [iI,jT.hj]
 have AA:(eU k j p i d dy).aj.length=k.aj.length:=by grind
 refine⟨f3,f1,f2,AA,fun n hn=>?_,fun n hn=>?_,fun n hn q=>?_⟩
 · rw[hat];by_cases c:j=n
   · rw[aC c,<- c];rfl
   grind
 · rw[hat];by_cases c:j=n
   · rw[aC c,<- c];rfl
   grind
 · have aqK:(ak (eU k j p i d dy).aj n).aU=(ak k.aj n).aU:=by
    rw[hat];by_cases c:j=n
    · rw[aC c,<- c];rfl
    grind
   have hent:bu (ak (eU k j p i d dy).aj n).bc q=if j=n/\q=p then some ⟨p,1,i⟩ else bu (ak k.aj n).bc q:=by
    rw[hat];by_cases c:j=n
    · rw[aC c];show bu (mH (ak k.aj j).bc ⟨p,1,i⟩) q=_;rw[QR hsp.mr]
      grind
    grind
   by_cases c:j=n/\q=p
   · grind [cI]
   · rw[aA c] at hent;have hn':n<(eU k j p i d dy).aj.length:=by omega
     have apX:=h.sp hn;unfold cI;rw[hent,aqK,f3];cases g:bu (ak k.aj n).bc q with
     | none=>rfl
     | some e =>
      have he:=(ie apX.mr).1 g;have hb:=ja h hn he.1;have he':=(ie (hR.sp hn').mr).1 (hent.trans g);have hnm:=jr hn' he'.1;have avz:=jr hn he.1;show(if e.kind=1 then _ else _)=if e.kind=1 then _ else _
      by_cases c1:e.kind=1
      · rw[aC c1,aC c1,f6];have hb:=hb.resolve_right (fun x=>by omega);have hni:e.loc.toNat≠i:=fun e1=>by
         grind [jT.free]
        rw[aA hni];have hF:=hR.zL e.loc.toNat (by omega);rw[f6,aA hni] at hF;have hne:bW (eU k j p i d dy).aj 1 (e.loc.toNat:Int)≠[]:=fun e1=>by
         grind
        cases g2:bu (ak k.aj j).bc p with
        | none=>rfl
        | some e2 =>
         rw[g2] at hF;have hF:lN _ _ (if e2.kind=1/\e2.loc=(e.loc.toNat:Int) then rI (aH k.frames e.loc.toNat) else aH k.frames e.loc.toNat):=hF;show(if e2.kind=1/\e2.loc=(e.loc.toNat:Int) then rI (aH k.frames e.loc.toNat) else aH k.frames e.loc.toNat).data=_;by_cases c3:e2.kind=1/\e2.loc=(e.loc.toNat:Int)
         · rw[aC c3] at hF ⊢;unfold rI at hF ⊢;by_cases c4:(aH k.frames e.loc.toNat).refs-1=0
           · rw[aC c4] at hF;exact absurd (hF.nil rfl) hne
           grind
         grind
      · rw[aA c1,aA c1,f7];have hb:=hb.resolve_left (fun x=>c1 x.1);have hF:=hR.slt e.loc.toNat (by omega);rw[f7] at hF;have hne:bW (eU k j p i d dy).aj 2 (e.loc.toNat:Int)≠[]:=fun e1=>by
         grind
        cases g2:bu (ak k.aj j).bc p with
        | none=>rfl
        | some e2 =>
         rw[g2] at hF;have hF:oM _ (if e2.kind=2/\e2.loc=(e.loc.toNat:Int) then uA (bH k.slots e.loc.toNat) else bH k.slots e.loc.toNat):=hF;show(if e2.kind=2/\e2.loc=(e.loc.toNat:Int) then uA (bH k.slots e.loc.toNat) else bH k.slots e.loc.toNat).data=_;by_cases c3:e2.kind=2/\e2.loc=(e.loc.toNat:Int)
         · rw[aC c3] at hF ⊢;unfold uA at hF ⊢;by_cases c4:(bH k.slots e.loc.toNat).refs-1=0
           · rw[aC c4] at hF;exact absurd (hF.nil rfl) hne
           grind
         grind
open Go.RowKit
def jh (k:aT):Int:=(k.hand+1)%(k.frames.length:Int)
def nN (held:List Int) (k:aT):Bool:=held.contains k.hand || (aH k.frames k.hand.toNat).seen
def CX (f:lQ):lQ:={ f with seen:=false }
def jw (held:List Int) (k:aT):aT:={ k with hand:=jh k,frames:=if held.contains k.hand then k.frames else k.frames.set k.hand.toNat (CX (aH k.frames k.hand.toNat)) }
def bQ (held:List Int):Nat->aT->aT
 | 0,k=>k
 | n+1,k=>jw held (bQ held n k)
def nC (held:List Int):Nat->aT->aT
 | 0,k=>k
 | n+1,k=>if nN held k then nC held n (jw held k) else k
def Bp (k:aT):Prop:=∀i,i<k.frames.length->(aH k.frames i).refs≠0
theorem QN (held:List Int) (k:aT):(jw held k).frames.length=k.frames.length:=by
 grind [jw]
theorem QO (held:List Int) {k:aT} (hh:0<=k.hand/\k.hand<k.frames.length) (n:Nat):aH (jw held k).frames n=if (n:Int)=k.hand/\held.contains k.hand=false then CX (aH k.frames n) else aH k.frames n:=by
 grind [jw,jQ]
theorem QT {k:aT} (h3:3<=k.frames.length):0<=jh k/\jh k<k.frames.length:=⟨Int.emod_nonneg _ (by omega),Int.emod_lt_of_pos _ (by omega)⟩
theorem SZ (held:List Int) {k:aT} (h:aZ k) (hf:Bp k):aZ (jw held k)/\Bp (jw held k)/\fM k (jw held k)/\(jw held k).aj=k.aj/\(jw held k).slots=k.slots:=by
 have h3:=h.c.1.1;have hn:=QT h3;have hat:=QO held h.hand;refine⟨?_,fun i hi=>?_,⟨rfl,QN held k,rfl,rfl,fun _ _=>rfl,fun _ _=>rfl,fun j hj p=>?_⟩,rfl,rfl⟩
 · unfold jw;by_cases c:held.contains k.hand=true
   · grind [aZ.turn]
   · rw[aA c];have hi:k.hand.toNat<k.frames.length:=by have:=h.hand;omega
     have:=(h.zL _ hi);have g:=h.frame (this.seen false (this.ne (hf _ hi)));exact aZ.turn g (x:=jh k) (by grind)
 · rw[QN] at hi;rw[hat];have:=hf i hi;by_cases c:(i:Int)=k.hand/\held.contains k.hand=false
   · rw[aC c];exact this
   grind
 · unfold cI;show(match bu (ak k.aj j).bc p with
    | some e=>if e.kind=1 then (aH (jw held k).frames e.loc.toNat).data else (bH k.slots e.loc.toNat).data
    | none=>_)=_
   have av0:∀n,(aH (jw held k).frames n).data=(aH k.frames n).data:=fun n=>by
    rw[hat];by_cases c:(n:Int)=k.hand/\held.contains k.hand=false
    · rw[aC c];rfl
    grind
   grind [jw]
structure Hm (held:List Int) (k:aT) (n:Nat):Prop where
 right:aZ (bQ held n k)
 full:Bp (bQ held n k)
 kept:fM k (bQ held n k)
 aj:(bQ held n k).aj=k.aj
 slots:(bQ held n k).slots=k.slots
 hand:(bQ held n k).hand=(k.hand+n)%(k.frames.length:Int)
 PZ:∀i:Nat,(i:Int)∈held->aH (bQ held n k).frames i=aH k.frames i
 past:∀m:Nat,m<n->∀i:Nat,(i:Int)=(k.hand+m)%(k.frames.length:Int)->(i:Int)∈held∨(aH (bQ held n k).frames i).seen=false
theorem Hj (held:List Int) {k:aT} (h:aZ k) (hf:Bp k):∀n,Hm held k n
 | 0=>⟨h,hf,fM.refl k,rfl,rfl,by have:=h.hand;show k.hand=(k.hand+((0:Nat):Int))%_;grind [Int.emod_eq_of_lt],fun _ _=>rfl,fun m hm=>by omega⟩
 | n+1=>by
  have t:=Hj held h hf n;obtain⟨s1,s2,s3,s4,s5⟩:=SZ held t.right t.full;have hat:=QO held t.right.hand;have B6:=t.kept.nf;have hN:=h.c.1.1;refine⟨s1,s2,t.kept.trans s3,s4.trans t.aj,s5.trans t.slots,?_,fun i hi=>?_,fun m hm i hi=>?_⟩
  · show jh (bQ held n k)=_;unfold jh;rw[B6,t.hand,Int.emod_add_emod]
    grind
  · grind [bQ,Hm.PZ]
  · show _∨(aH (jw held (bQ held n k)).frames i).seen=false;rw[hat];by_cases c:(i:Int)=(bQ held n k).hand/\held.contains (bQ held n k).hand=false
    · rw[aC c];exact .inr rfl
    · rw[aA c];by_cases d:m=n
      · grind [Hm.hand]
      · exact t.past m (by omega) i hi
theorem af4 {held:List Int} (hl:held.length<=2) (a b c:Int) (h1:a≠b) (h2:a≠c) (h3:b≠c):a∉held∨b∉held∨c∉held:=by
 by_cases ha:a∈held
 · by_cases hb:b∈held
   · right;right;intro hc;have l1:=List.length_erase_of_mem ha;have hb':b∈held.erase a:=(Ph (fun e=>h1 e.symm)).2 hb;have hc':c∈held.erase a:=(Ph (fun e=>h2 e.symm)).2 hc;have l2:=List.length_erase_of_mem hb';have hc'':c∈(held.erase a).erase b:=(Ph (fun e=>h3 e.symm)).2 hc'
     grind
   grind
 grind
theorem D3 {x n:Int} (h0:0<=x) (h1:x<2*n) (hn:0<n):(x<n/\x%n=x)∨(n<=x/\x%n=x-n):=by
 by_cases c:x<n
 · grind [Int.emod_eq_of_lt]
 · right;refine⟨by omega,?_⟩;rw[<- Int.sub_emod_right x n];exact ahn (by omega) (by omega)
theorem IK (held:List Int) (hl:held.length<=2) {k:aT} (h:aZ k) (hf:Bp k):∃T,T<=66/\(∀m,m<T->nN held (bQ held m k)=true)/\nN held (bQ held T k)=false:=by
 have hN:=h.c.1;have hex:∃T,T<=66/\nN held (bQ held T k)=false:=by
  have hh:=h.hand;obtain⟨N,hNe⟩:∃N:Int,N=(k.frames.length:Int):=⟨_,rfl⟩;have hit:∀x:Nat,x<3->(k.hand+x)%N∉held->∃T,T<=66/\nN held (bQ held T k)=false:=fun x hx hno=>by
   have t:=Hj held h hf (k.frames.length+x);have hm:0<=(k.hand+x)%N/\(k.hand+x)%N<N:=⟨Int.emod_nonneg _ (by omega),Int.emod_lt_of_pos _ (by omega)⟩;have amy:(bQ held (k.frames.length+x) k).hand=(k.hand+x)%N:=by
    grind [Int.add_emod_right,Hm.hand]
   refine⟨k.frames.length+x,by omega,?_⟩;unfold nN;rw[amy];have hi:(((k.hand+x)%N).toNat:Int)=(k.hand+x)%N:=by omega
   have:=t.past x (by omega) ((k.hand+x)%N).toNat (by grind)
   grind
  have d0:=D3 (x:=k.hand+(0:Nat)) (n:=N) (by omega) (by omega) (by omega);have d1:=D3 (x:=k.hand+(1:Nat)) (n:=N) (by omega) (by omega) (by omega);have d2:=D3 (x:=k.hand+(2:Nat)) (n:=N) (by omega) (by omega) (by omega);rcases af4 hl ((k.hand+(0:Nat))%N) ((k.hand+(1:Nat))%N) ((k.hand+(2:Nat))%N) (by omega) (by omega) (by omega) with g | g | g
  · grind
  · exact hit 1 (by omega) g
  grind
 obtain⟨T,hT,hp⟩:=hex;clear hN;induction T using Nat.strongRecOn with
 | _ T ih =>
  grind
theorem IJ (held:List Int):∀(T n:Nat) (k:aT),T<=n->(∀m,m<T->nN held (bQ held m k)=true)->nN held (bQ held T k)=false->nC held (n+1) k=bQ held T k:=fun T=>by
 have shift:∀m k,bQ held m (jw held k)=bQ held (m+1) k:=fun m k=>by
  induction m with
  | zero=>rfl
  | succ m ih=>show jw held _=jw held _;rw[ih]
 induction T with
 | zero =>
  intro n k _ _ h;show(if nN held k then _ else k)=k;rw[aA (by rw[show nN held k=false from h];simp)]
 | succ T ih =>
  intro n k hn h1 h2;obtain⟨n,rfl⟩:∃m,n=m+1:=⟨n-1,by omega⟩;show(if nN held k then nC held (n+1) (jw held k) else k)=_;rw[aC (show nN held k=true from h1 0 (by omega)),ih n (jw held k) (by omega) (fun m hm=>by grind) (by grind),shift]
def bN (k:aT) (held:List Int):Nat×aT:=match yB k.frames with
 | some i=>(i,k)
 | none=>((nC held 70 k).hand.toNat,{ eN (nC held 70 k) (nC held 70 k).hand.toNat with hand:=jh (nC held 70 k) })
structure um (k:aT) (held:List Int) (g:Nat×aT):Prop where
 right:aZ g.2
 kept:fM k g.2
 lt:g.1<k.frames.length
 free:bW g.2.aj 1 g.1=[]
 PZ:∀i:Nat,(i:Int)∈held->(aH k.frames i).refs≠0->i≠g.1/\aH g.2.frames i=aH k.frames i
 M6:∀j,j<k.aj.length->∀p,(∀e,bu (ak k.aj j).bc p=some e->¬(e.kind=1/\e.loc=(g.1:Int)))->bu (ak g.2.aj j).bc p=bu (ak k.aj j).bc p
 slot:∀n:Nat,bW k.aj 2 n≠[]->bH g.2.slots n=bH k.slots n
theorem s8 {k:aT} (h:aZ k) {held:List Int} (hl:held.length<=2):um k held (bN k held):=by
 unfold bN;cases hf:yB k.frames with
 | some i =>
  obtain⟨h1,h2,_⟩:=Pv.1 hf;have hr:(aH k.frames i).refs=0:=by
   grind [aH]
  exact⟨h,fM.refl k,h1,(h.zL i h1).nil hr,fun n _ hn=>⟨fun e=>hn (by grind),rfl⟩,fun j _ p _=>rfl,fun _ _=>rfl⟩
 | none =>
  have hF:Bp k:=fun i hi hr=>by
   have:=U5.1 hf (aH k.frames i) (jP hi)
   grind
  obtain⟨T,hT,t1,t2⟩:=IK held hl h hF;have hc:nC held 70 k=bQ held T k:=IJ held T 69 k (by omega) t1 t2;rw[hc];have t:=Hj held h hF T;obtain⟨k1,hk1⟩:=ex (bQ held T k);have tr:=t.right;have tf:=t.full;have tk:=t.kept;have ts:=t.aj;have tl:=t.slots;have th:=t.PZ;rw[<- hk1] at t2 tr tf tk ts tl th ⊢;obtain⟨i,hi⟩:=ex k1.hand.toNat
  have hh:=tr.hand;have hi1:i<k1.frames.length:=by omega
  have hr:=tf i hi1;have a1:=tr.aside hi1 hr;have a2:=Td tr hi1 hr;have h3:=tr.c.1.1;have a3:(eN k1 i).frames.length=k1.frames.length:=a2.nf;rw[<- hi];have hb:aZ { eN k1 i with hand:=jh k1 }:=a1.turn (by simp_all [QT]);have hkk:fM (eN k1 i) { eN k1 i with hand:=jh k1 }:=⟨rfl,rfl,rfl,rfl,fun _ _=>rfl,fun _ _=>rfl,fun _ _ _=>rfl⟩;have B6:=tk.nf;refine⟨hb,tk.trans (a2.trans hkk),by grind,Te k1 i,fun n hn _=>?_,fun j hj p he=>?_,fun n hn=>?_⟩
  · grind [nN,ES,jQ]
  · grind [Wl]
  grind [Tc]
end Go.Proofs.YtlgoihmkgaaemaaGreat
