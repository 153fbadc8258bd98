import Derived.Test.YtlgoihmkgaaemaaGreatGM04
set_option maxHeartbeats 20000000
set_option linter.unusedVariables false
set_option maxRecDepth 100000
set_option linter.unusedSimpArgs false
namespace Go.Proofs.YtlgoihmkgaaemaaGreat
open Go.RowKit
structure lK where
 data:ByteArray
 refs:Int
 jw:Bool
 seen:Bool
structure oO where
 data:ByteArray
 refs:Int
structure bC where
 page:Int
 kind:Int
 loc:Int
structure cV where
 live:Bool
 aT:List aX
 bf:List bC
structure aR where
 aM:List bG
 frames:List lK
 slots:List oO
 aj:List cV
 hand:Int
def gM:lK:=⟨⟨#[]⟩,0,false,false⟩
def nR:oO:=⟨⟨#[]⟩,0⟩
def gY:bC:=⟨0,0,0⟩
def qJ:cV:=⟨false,[],[]⟩
def aD (l:List lK) (i:Nat):lK:=l.getD i gM
def bE (l:List oO) (i:Nat):oO:=l.getD i nR
def aV (l:List bC) (i:Nat):bC:=l.getD i gY
def ak (l:List cV) (i:Nat):cV:=l.getD i qJ
theorem jL {α:Type} {d:α}:∀{l:List α} {i:Nat},i<l.length->l.getD i d∈l
 | [],i,h=>absurd h (kr _)
 | a::r,0,h=>Dh
 | a::r,i+1,h=>GK _ (jL (l:=r) (Dg h))
theorem lu {α:Type} (d:α):∀{l:List α} {x:α},x∈l->∃i,i<l.length/\l.getD i d=x
 | a::r,x,h=>by
  rcases ux.1 h with rfl | h
  · exact⟨0,OM _,rfl⟩
  · obtain⟨i,hi,e⟩:=lu d h;exact⟨i+1,OL hi,e⟩
theorem eI {α:Type} (d x:α):∀(l:List α) (i:Nat),i<l.length->(l.set i x).getD i d=x
 | a::r,0,_=>rfl
 | a::r,i+1,h=>eI d x r i (Dg h)
theorem sO {α:Type} (d x:α):∀(l:List α) (i j:Nat),i≠j->(l.set i x).getD j d=l.getD j d
 | [],_,_,_=>rfl
 | a::r,0,0,h=>absurd rfl h
 | a::r,0,j+1,_=>rfl
 | a::r,i+1,0,_=>rfl
 | a::r,i+1,j+1,h=>sO d x r i j (fun e=>h (by rw[e]))
def fw (s:cV) (kd at_:Int):List (Int×Bool):=(s.bf.filter fun e=>decide (e.kind=kd/\e.loc=at_)).map fun e=>(e.page,(aW s.aT e.page).1.zero)
def bT (ss:List cV) (kd at_:Int):List (Int×Bool):=ss.flatMap fun s=>fw s kd at_
def iD (hs:List bG) (p:Int):Option bG:=hs.find? fun s=>decide (s.page=p)
def eV (hs:List bG) (p:Int):ByteArray:=match iD hs p with
 | some s=>qW s
 | none=>⟨#[]⟩
def uV:ByteArray:=⟨#[0,0,0,0,0,0,0,0,0,0,0,0,0,0,0,0]⟩
def fY (hs:List bG) (p:Int) (z:Bool):ByteArray:=if z then uV else eV hs p
def yh (nf ns:Nat) (ar:List aX) (e:bC):Prop:=(aW ar e.page).2=true/\((e.kind=1/\0<=e.loc/\e.loc<nf)∨(e.kind=2/\0<=e.loc/\e.loc<ns))
structure uN (hs:List bG) (nf ns:Nat) (s:cV):Prop where
 dead:s.live=false->s.aT=[]/\s.bf=[]
 aT:bj s.aT=0
 mn:(s.bf.map (·.page)).Pairwise (·<·)
 ML:∀e∈s.bf,yh nf ns s.aT e
 aM:∀p,(aW s.aT p).2=true->(aW s.aT p).1.zero=false->(iD hs p).isSome=true
structure lJ (hs:List bG) (L:List (Int×Bool)) (f:lK):Prop where
 refs:f.refs=L.length
 zero:L=[]->f=gM
 one:∀x∈L,∀y∈L,x=y
 size:L≠[]->f.data.size=16
 fill:f.jw=false->∀x∈L,f.data=fY hs x.1 x.2
structure oF (L:List (Int×Bool)) (s:oO):Prop where
 refs:s.refs=L.length
 zero:L=[]->s=nR
 one:∀x∈L,∀y∈L,x=y
 size:L≠[]->s.data.size=16
def jx (l:List cV):Nat->Int
 | 0=>0
 | k+1=>jx l k+bg (ak l k).aT
def dZ (l:List cV):Int:=jx l l.length
def nk (k:aR):Bool:=decide ((3<=k.frames.length/\k.frames.length<=64)/\k.slots.length<=512/\(1<=k.aj.length/\k.aj.length<=4)/\k.aM.length<=255)
structure aY (k:aR):Prop where
 counts:nk k=true
 mn:gS k.aM=true
 hand:0<=k.hand/\k.hand<k.frames.length
 each:∀s∈k.aj,uN k.aM k.frames.length k.slots.length s
 room:dZ k.aj<=k.slots.length
 zt:∀i:Nat,i<k.frames.length->lJ k.aM (bT k.aj 1 i) (aD k.frames i)
 slt:∀i:Nat,i<k.slots.length->oF (bT k.aj 2 i) (bE k.slots i)
theorem aY.c {k:aR} (h:aY k):(3<=k.frames.length/\k.frames.length<=64)/\k.slots.length<=512/\(1<=k.aj.length/\k.aj.length<=4)/\k.aM.length<=255:=oI h.counts
theorem KQ (kd a:Int):bT [] kd a=[]:=rfl
theorem kL (s:cV) (r:List cV) (kd a:Int):bT (s::r) kd a=fw s kd a++bT r kd a:=nM
theorem EC (l r:List cV) (kd a:Int):bT (l++r) kd a=bT l kd a++bT r kd a:=xw
theorem ui {s:cV} {kd a:Int} {x:Int×Bool}:x∈fw s kd a↔∃e∈s.bf,e.kind=kd/\e.loc=a/\x=(e.page,(aW s.aT e.page).1.zero):=by
 grind [fw]
theorem o9 {ss:List cV} {kd a:Int} {x:Int×Bool}:x∈bT ss kd a↔∃s∈ss,∃e∈s.bf,e.kind=kd/\e.loc=a/\x=(e.page,(aW s.aT e.page).1.zero):=by
 grind [bT,ui]
theorem yZ:∀(l:List cV) (j:Nat) (s:cV) (kd a:Int),j<l.length->∃u v,bT l kd a=u++(fw (ak l j) kd a++v)/\bT (l.set j s) kd a=u++(fw s kd a++v)
 | x::r,0,s,kd,a,_=>⟨[],bT r kd a,kL x r kd a,kL s r kd a⟩
 | x::r,j+1,s,kd,a,h=>by
  obtain⟨u,v,h1,h2⟩:=yZ r j s kd a (Dg h);refine⟨fw x kd a++u,v,?_,?_⟩
  · rw[kL,h1,vk];rfl
  grind [kL]
theorem tG (f:cV->cV) (kd a:Int) (kd' a':Int):∀(l:List cV),(∀s∈l,fw (f s) kd a=fw s kd' a')->bT (l.map f) kd a=bT l kd' a'
 | [],_=>rfl
 | x::r,h=>by
  rw[yK,kL,kL,h x Dh,tG f kd a kd' a' r (fun s hs=>h s (GK _ hs))]
theorem pG (f:cV->cV) (kd a:Int):∀(l:List cV),(∀s∈l,fw (f s) kd a=[])->bT (l.map f) kd a=[]
 | [],_=>rfl
 | x::r,h=>by
  rw[yK,kL,h x Dh,pG f kd a r (fun s hs=>h s (GK _ hs))];rfl
theorem uE (l m:List cV):∀k,(∀i,i<k->(ak l i).aT=(ak m i).aT)->jx l k=jx m k
 | 0,_=>rfl
 | k+1,h=>by rw[jx,jx,uE l m k (fun i hi=>h i (Nat.lt_succ_of_lt hi)),h k (OO k)]
open Go.RowKit
def jC (es:List bC):Prop:=(es.map (·.page)).Pairwise (·<·)
def bk (es:List bC) (p:Int):Option bC:=es.find? fun e=>decide (e.page=p)
theorem KN {a:bC} {r:List bC} (h:jC (a::r)):jC r/\∀e∈r,a.page<e.page:=by
 have:=Av.1 h;exact⟨this.2,fun e he=>this.1 _ (List.mem_map_of_mem he)⟩
theorem gX:∀{es:List bC} {p:Int} {e:bC},jC es->(bk es p=some e↔e∈es/\e.page=p)
 | [],p,e,_=>by simp[bk]
 | a::r,p,e,h=>by
  have hr:=KN h;by_cases c:a.page=p
  · grind [bk]
  · have:bk (a::r) p=bk r p:=by simp[bk,c]
    rw[this,gX hr.1]
    grind
theorem qy {es:List bC} {p:Int}:bk es p=none↔∀e∈es,e.page≠p:=by
 grind [bk]
def mE:List bC->bC->List bC
 | [],e=>[e]
 | a::r,e=>if a.page<e.page then a::mE r e else if a.page=e.page then e::r else e::a::r
theorem vN:∀{es:List bC} {e:bC},jC es->∃pre post,es=pre++((bk es e.page).toList++post)/\mE es e=pre++e::post/\(∀x∈pre,x.page<e.page)/\∀x∈post,e.page<x.page
 | [],e,_=>⟨[],[],rfl,rfl,by simp,by simp⟩
 | a::r,e,h=>by
  have hr:=KN h;unfold mE;by_cases c:a.page<e.page
  · obtain⟨pre,post,h1,h2,h3,h4⟩:=vN (es:=r) (e:=e) hr.1;have:bk (a::r) e.page=bk r e.page:=by grind [bk]
    grind
  · rw[au c];by_cases d:a.page=e.page
    · have:bk (a::r) e.page=some a:=by simp[bk,d]
      rw[aB d,this];exact⟨[],r,rfl,rfl,by simp,fun x hx=>by grind⟩
    · have:bk (a::r) e.page=none:=qy.2 fun x hx=>by
       grind
      rw[au d,this];refine⟨[],a::r,rfl,rfl,by simp,fun x hx=>?_⟩
      grind
theorem YG {pre post:List bC} {e:bC} (hp:jC pre) (hq:jC post) (h1:∀x∈pre,x.page<e.page) (h2:∀x∈post,e.page<x.page):jC (pre++e::post):=by
 grind [jC,List.pairwise_cons]
theorem BJ {a b:List bC} (h:jC (a++b)):jC a/\jC b:=by
 grind [jC]
theorem Nk {es:List bC} {e:bC} (h:jC es):jC (mE es e):=by
 obtain⟨pre,post,h1,h2,h3,h4⟩:=vN (e:=e) h;rw[h2];rw[h1] at h;exact YG (BJ h).1 (BJ (BJ h).2).2 h3 h4
def jK (ar:List aX) (kd a:Int) (es:List bC):List (Int×Bool):=(es.filter fun e=>decide (e.kind=kd/\e.loc=a)).map fun e=>(e.page,(aW ar e.page).1.zero)
theorem y7 (s:cV) (kd a:Int):fw s kd a=jK s.aT kd a s.bf:=rfl
theorem mN (ar:List aX) (kd a:Int) (l r:List bC):jK ar kd a (l++r)=jK ar kd a l++jK ar kd a r:=by grind [jK]
theorem wU (ar:List aX) (kd a:Int) (e:bC) (r:List bC):jK ar kd a (e::r)=jK ar kd a [e]++jK ar kd a r:=mN ar kd a [e] r
theorem rG (ar:List aX) {kd a:Int} {e:bC} (h:e.kind=kd/\e.loc=a):jK ar kd a [e]=[(e.page,(aW ar e.page).1.zero)]:=by simp[jK,h]
theorem nH (ar:List aX) {kd a:Int} {e:bC} (h:¬(e.kind=kd/\e.loc=a)):jK ar kd a [e]=[]:=by
 grind [jK]
theorem Mj {ar:List aX} {kd a:Int} {es:List bC} {x:Int×Bool}:x∈jK ar kd a es↔∃e∈es,e.kind=kd/\e.loc=a/\x=(e.page,(aW ar e.page).1.zero):=ui (s:=⟨true,ar,es⟩)
theorem KP {ar:List aX} {kd a:Int} {es:List bC} (h:∀e∈es,¬(e.kind=kd/\e.loc=a)):jK ar kd a es=[]:=by
 simp_all [acj,Mj]
theorem A0 {l:List cV} {j:Nat} (h:j<l.length):ak l j∈l:=jL h
theorem aY.sp {k:aR} (h:aY k) {j:Nat} (hj:j<k.aj.length):uN k.aM k.frames.length k.slots.length (ak k.aj j):=h.each _ (A0 hj)
theorem ji {ss:List cV} {j:Nat} (hj:j<ss.length) {e:bC} (he:e∈(ak ss j).bf):(e.page,(aW (ak ss j).aT e.page).1.zero)∈bT ss e.kind e.loc:=o9.2 ⟨_,A0 hj,e,he,rfl,rfl,rfl⟩
theorem aY.frame {k:aR} (h:aY k) {i:Nat} {f:lK} (hf:lJ k.aM (bT k.aj 1 i) f):aY { k with frames:=k.frames.set i f }:=by
 have hl:(k.frames.set i f).length=k.frames.length:=fC;refine⟨?_,h.mn,by simp_all [hand],?_,h.room,?_,h.slt⟩
 · have:=h.counts
   grind [nk]
 · grind [each]
 · intro n hn;have hn':n<k.frames.length:=by grind
   show lJ k.aM (bT k.aj 1 n) ((k.frames.set i f).getD n gM);by_cases c:i=n
   · grind
   · rw[sO _ _ _ _ _ c];exact h.zt n hn'
theorem aY.turn {k:aR} (h:aY k) {x:Int} (hx:0<=x/\x<k.frames.length):aY { k with hand:=x }:=⟨h.counts,h.mn,hx,h.each,h.room,h.zt,h.slt⟩
theorem lJ.seen {hs:List bG} {L:List (Int×Bool)} {f:lK} (h:lJ hs L f) (b:Bool) (hL:L≠[]):lJ hs L { f with seen:=b }:=⟨h.refs,fun e=>absurd e hL,h.one,h.size,h.fill⟩
theorem lJ.ne {hs:List bG} {L:List (Int×Bool)} {f:lK} (h:lJ hs L f) (hr:f.refs≠0):L≠[]:=fun e=>hr (by rw[h.refs,e];rfl)
theorem lJ.nil {hs:List bG} {L:List (Int×Bool)} {f:lK} (h:lJ hs L f) (hr:f.refs=0):L=[]:=by
 have:=h.refs
 simp_all
theorem oF.nil {L:List (Int×Bool)} {f:oO} (h:oF L f) (hr:f.refs=0):L=[]:=by
 have:=h.refs
 simp_all
theorem lJ.none (hs:List bG):lJ hs [] gM:=⟨rfl,fun _=>rfl,by simp,fun h=>absurd rfl h,by simp⟩
theorem oF.none:oF [] nR:=⟨rfl,fun _=>rfl,by simp,fun h=>absurd rfl h⟩
def rp (f:lK):lK:=if f.refs-1=0 then gM else { f with refs:=f.refs-1 }
def uk (f:oO):oO:=if f.refs-1=0 then nR else { f with refs:=f.refs-1 }
theorem lJ.less {hs:List bG} {X Y:List (Int×Bool)} {x:Int×Bool} {f:lK} (h:lJ hs (X++x::Y) f):lJ hs (X++Y) (rp f):=by
 have hr:=h.refs;have hn:X++x::Y≠[]:=by simp
 have hm:∀y∈X++Y,y∈X++x::Y:=fun y hy=>by
  grind
 rw[fD,xu] at hr;unfold rp;by_cases c:f.refs-1=0
 · rw[aB c];have:X++Y=[]:=kT (by grind)
   grind [lJ.none]
 · rw[au c];refine⟨?_,fun e=>?_,fun a ha b hb=>h.one a (hm a ha) b (hm b hb),fun _=>h.size hn,fun d y hy=>h.fill d y (hm y hy)⟩
   · grind
   simp_all
theorem oF.less {X Y:List (Int×Bool)} {x:Int×Bool} {f:oO} (h:oF (X++x::Y) f):oF (X++Y) (uk f):=by
 have hr:=h.refs;have hn:X++x::Y≠[]:=by simp
 have hm:∀y∈X++Y,y∈X++x::Y:=fun y hy=>by
  grind
 rw[fD,xu] at hr;unfold uk;by_cases c:f.refs-1=0
 · rw[aB c];have:X++Y=[]:=kT (by grind)
   grind [oF.none]
 · rw[au c];refine⟨?_,fun e=>?_,fun a ha b hb=>h.one a (hm a ha) b (hm b hb),fun _=>h.size hn⟩
   · grind
   simp_all
open Go.RowKit
def kV (i:Int) (e:bC):Bool:=decide (e.kind=1/\e.loc=i)
def vO (i:Int) (es:List bC):List bC:=es.filter fun e=>!kV i e
def jI (i s:Int) (es:List bC):List bC:=es.map fun e=>if kV i e then ⟨e.page,2,s⟩ else e
def yg (l:List lK):Option Nat:=l.findIdx? fun f=>decide (f.refs=0)
def ye (l:List oO):Option Nat:=l.findIdx? fun f=>decide (f.refs=0)
def nU (i:Int) (s:cV):cV:={ s with bf:=vO i s.bf }
def kf (i s:Int) (sp:cV):cV:={ sp with bf:=jI i s sp.bf }
def zR (k:aR) (i:Nat):aR:={ k with frames:=k.frames.set i gM,aj:=k.aj.map (nU i) }
def Fu (k:aR) (i s:Nat):aR:={ k with frames:=k.frames.set i gM,slots:=k.slots.set s ⟨(aD k.frames i).data,(aD k.frames i).refs⟩,aj:=k.aj.map (kf i s) }
def eB (k:aR) (i:Nat):aR:=if (aD k.frames i).jw then (match ye k.slots with
 | some s=>Fu k i s
 | none=>zR k i) else zR k i
def cC (k:aR) (j:Nat) (p:Int):ByteArray:=match bk (ak k.aj j).bf p with
 | some e=>if e.kind=1 then (aD k.frames e.loc.toNat).data else (bE k.slots e.loc.toNat).data
 | none=>fY k.aM p (aW (ak k.aj j).aT p).1.zero
theorem Nq {α β:Type} (f:α->β) (d:α) (d':β):∀(l:List α) (i:Nat),i<l.length->(l.map f).getD i d'=f (l.getD i d)
 | a::r,0,_=>rfl
 | a::r,i+1,h=>Nq f d d' r i (Dg h)
theorem yc {i:Int} {e:bC}:kV i e=true↔e.kind=1/\e.loc=i:=by simp[kV]
theorem oD {i:Int} {e:bC}:kV i e=false↔¬(e.kind=1/\e.loc=i):=by simp[kV]
theorem zP {i:Int} {es:List bC} {e:bC}:e∈vO i es↔e∈es/\¬(e.kind=1/\e.loc=i):=by
 grind [vO,oD]
theorem Nn {i:Int} {es:List bC} (h:jC es):jC (vO i es):=UA (List.filter_sublist.map _) h
theorem Sz (i s:Int) (es:List bC):(jI i s es).map (·.page)=es.map (·.page):=by
 grind [jI,List.map_congr_left]
theorem KF {i s:Int} {es:List bC} (h:jC es):jC (jI i s es):=by grind [jC,Sz]
theorem AZ {i s:Int} {es:List bC} {x:bC}:x∈jI i s es↔(x∈es/\¬(x.kind=1/\x.loc=i))∨∃e∈es,(e.kind=1/\e.loc=i)/\x=⟨e.page,2,s⟩:=by
 grind [jI,oD]
theorem T6 (ar:List aX) (i kd a:Int) (es:List bC) (h:¬(kd=1/\a=i)):jK ar kd a (vO i es)=jK ar kd a es:=by
 unfold jK vO;rw[List.filter_filter]
 grind [oD]
theorem xG (ar:List aX) (i:Int) (es:List bC):jK ar 1 i (vO i es)=[]:=KP fun e he=>(zP.1 he).2
theorem Jd (ar:List aX) (i s kd a:Int) (h:¬(kd=1/\a=i)) (h2:¬(kd=2/\a=s)):∀es:List bC,jK ar kd a (jI i s es)=jK ar kd a es
 | []=>rfl
 | e::r=>by
  have e1:jI i s (e::r)=(if kV i e then ⟨e.page,2,s⟩ else e)::jI i s r:=rfl;rw[e1,wU,wU ar kd a e r,Jd ar i s kd a h h2 r]
  grind [nH,oD]
theorem Fz (ar:List aX) (i s:Int) (es:List bC):jK ar 1 i (jI i s es)=[]:=KP fun e he g=>by
 grind [AZ]
theorem Ib (ar:List aX) (i s:Int):∀es:List bC,(∀e∈es,¬(e.kind=2/\e.loc=s))->jK ar 2 s (jI i s es)=jK ar 1 i es
 | [],_=>rfl
 | e::r,h=>by
  have e1:jI i s (e::r)=(if kV i e then ⟨e.page,2,s⟩ else e)::jI i s r:=rfl;rw[e1,wU,wU ar 1 i e r,Ib ar i s r (fun x hx=>h x (GK _ hx))]
  grind [rG,oD,nH]
theorem Ni (f:cV->cV) (hf:∀s,(f s).aT=s.aT) (l:List cV):dZ (l.map f)=dZ l:=by
 grind [dZ,uE,ak]
theorem aY.alF {k:aR} (h:aY k) {i:Nat} (hi:i<k.frames.length):aY (zR k i):=by
 have hl:(k.frames.set i gM).length=k.frames.length:=fC;have hm:(k.aj.map (nU i)).length=k.aj.length:=gV ..;refine⟨?_,h.mn,by show 0<=k.hand/\k.hand<((k.frames.set i gM).length:Int);simp_all [hand],?_,?_,?_,?_⟩
 · have:=h.counts
   grind [nk,zR]
 · show ∀s∈k.aj.map (nU i),uN k.aM (k.frames.set i gM).length k.slots.length s;rw[hl];intro s hs;obtain⟨s,hsq,rfl⟩:=vd.1 hs;have g:=h.each s hsq;exact⟨fun d=>⟨(g.dead d).1,by show vO i s.bf=[];rw[(g.dead d).2];rfl⟩,g.aT,Nn g.mn,fun e he=>g.ML e (zP.1 he).1,g.aM⟩
 · show dZ (k.aj.map (nU i))<=_;rw[Ni (nU i) (fun _=>rfl)];exact h.room
 · intro n hn;have hn':n<k.frames.length:=by rw[<- hl];exact hn
   show lJ k.aM (bT (k.aj.map (nU i)) 1 n) ((k.frames.set i gM).getD n gM);by_cases c:i=n
   · subst c;rw[eI _ _ _ _ hn',pG (nU i) 1 i _ (fun s _=>xG s.aT i s.bf)];exact lJ.none _
   · rw[sO _ _ _ _ _ c,tG (nU i) 1 n 1 n _ (fun s _=>T6 s.aT i 1 n s.bf (by omega))];exact h.zt n hn'
 · intro n hn;show oF (bT (k.aj.map (nU i)) 2 n) (bE k.slots n);rw[tG (nU i) 2 n 2 n _ (fun s _=>T6 s.aT i 2 n s.bf (by omega))];exact h.slt n hn
theorem aY.akt {k:aR} (h:aY k) {i s:Nat} (hi:i<k.frames.length) (hs:s<k.slots.length) (hf:bT k.aj 2 s=[]):aY (Fu k i s):=by
 have hl:(k.frames.set i gM).length=k.frames.length:=fC;have hl2:(k.slots.set s ⟨(aD k.frames i).data,(aD k.frames i).refs⟩).length=k.slots.length:=fC;have hm:(k.aj.map (kf i s)).length=k.aj.length:=gV ..;have hno:∀sp∈k.aj,∀e∈sp.bf,¬(e.kind=2/\e.loc=(s:Int)):=fun sp hsp e he g=>by
  have:(e.page,(aW sp.aT e.page).1.zero)∈bT k.aj 2 s:=o9.2 ⟨sp,hsp,e,he,g.1,g.2,rfl⟩
  grind
 refine⟨?_,h.mn,by show 0<=k.hand/\k.hand<((k.frames.set i gM).length:Int);simp_all [hand],?_,?_,?_,?_⟩
 · have:=h.counts
   grind [nk,Fu]
 · show ∀sp∈k.aj.map (kf i s),uN k.aM (k.frames.set i gM).length (k.slots.set s ⟨(aD k.frames i).data,(aD k.frames i).refs⟩).length sp;rw[hl,hl2];intro sp hsp;obtain⟨sp,hsq,rfl⟩:=vd.1 hsp;have g:=h.each sp hsq;refine⟨fun d=>⟨(g.dead d).1,by show jI i s sp.bf=[];rw[(g.dead d).2];rfl⟩,g.aT,KF g.mn,fun e he=>?_,g.aM⟩;rcases AZ.1 he with x | ⟨x,hx,hc,rfl⟩
   · exact g.ML e x.1
   · exact⟨(g.ML x hx).1,.inr ⟨rfl,by grind,by grind⟩⟩
 · show dZ (k.aj.map (kf i s))<=((k.slots.set s ⟨(aD k.frames i).data,(aD k.frames i).refs⟩).length:Int);rw[hl2,Ni (kf i s) (fun _=>rfl)];exact h.room
 · intro n hn;have hn':n<k.frames.length:=by rw[<- hl];exact hn
   show lJ k.aM (bT (k.aj.map (kf i s)) 1 n) ((k.frames.set i gM).getD n gM);by_cases c:i=n
   · subst c;rw[eI _ _ _ _ hn',pG (kf i s) 1 i _ (fun sp _=>Fz sp.aT i s sp.bf)];exact lJ.none _
   · rw[sO _ _ _ _ _ c,tG (kf i s) 1 n 1 n _ (fun sp _=>Jd sp.aT i s 1 n (by omega) (by omega) sp.bf)];exact h.zt n hn'
 · intro n hn;have hn':n<k.slots.length:=by rw[<- hl2];exact hn
   show oF (bT (k.aj.map (kf i s)) 2 n) ((k.slots.set s ⟨(aD k.frames i).data,(aD k.frames i).refs⟩).getD n nR);by_cases c:s=n
   · subst c;rw[eI _ _ _ _ hn',tG (kf i s) 2 s 1 i _ (fun sp hsp=>Ib sp.aT i s sp.bf (hno sp hsp))];have g:=h.zt i hi;exact⟨g.refs,fun e=>by rw[g.zero e];rfl,g.one,g.size⟩
   · rw[sO _ _ _ _ _ c,tG (kf i s) 2 n 2 n _ (fun sp _=>Jd sp.aT i s 2 n (by omega) (by omega) sp.bf)];exact h.slt n hn'
theorem T4:∀(n:Nat) (L:List Int),(∀i:Nat,i<n->(i:Int)∈L)->n<=L.length
 | 0,_,_=>rN _
 | n+1,L,h=>by
  have hn:=h n (OO n);have:=T4 n (L.erase (n:Int)) (fun i hi=>(OW (by omega)).2 (h i (by omega)))
  grind
def xJ (ss:List cV):List bC:=ss.flatMap (·.bf)
theorem B6 {hs:List bG} {nf ns:Nat} {s:cV} (g:uN hs nf ns s):(s.bf.length:Int)<=bg s.aT:=by
 rw[sZ g.aT];have:=mQ (dB s.aT) (s.bf.map (·.page)) g.mn (om g.aT).sorted (fun x hx=>by
  obtain⟨e,he,rfl⟩:=vd.1 hx;exact(qQ g.aT _).1 (g.ML e he).1)
 grind
theorem Mg (l r:List cV):∀k,k<=l.length->jx (l++r) k=jx l k:=fun k hk=>uE _ _ _ fun i hi=>by
 grind [ak]
theorem KM (l:List cV) (s:cV):dZ (l++[s])=dZ l+bg s.aT:=by
 simp[dZ,jx,Mg,ak]
theorem FQ:∀(m:Nat) (l:List cV),l.length=m->(∀s∈l,(s.bf.length:Int)<=bg s.aT)->((xJ l).length:Int)<=dZ l
 | 0,l,h,_=>by
  have:l=[]:=kT h;subst this;exact Am _
 | m+1,l,h,hs=>by
  have hne:l≠[]:=fun e=>by grind
  obtain⟨l',s,rfl⟩:∃l' s,l=l'++[s]:=⟨l.dropLast,l.getLast hne,(ach hne).symm⟩;rw[KM];have:=FQ m l' (by grind) (fun x hx=>hs x (lQ.2 (.inl hx)))
  grind [xJ]
theorem aY.slot {k:aR} (h:aY k) {i:Nat} (hi:i<k.frames.length) (hr:(aD k.frames i).refs≠0):∃s,ye k.slots=some s/\s<k.slots.length/\bT k.aj 2 s=[]:=by
 cases hf:ye k.slots with
 | some s =>
  obtain⟨h1,h2,_⟩:=Pc.1 hf
  grind [bE,slt,oF.nil]
 | none =>
  exfalso;have hno:=UE.1 hf;have hall:∀n:Nat,n<k.slots.length->∃e∈xJ k.aj,e.kind=2/\e.loc=(n:Int):=fun n hn=>by
   have h1:=hno (bE k.slots n) (jL hn);have h2:=(h.slt n hn).refs;have h3:bT k.aj 2 n≠[]:=fun e=>by
    grind
   obtain⟨x,hx⟩:=JI _ h3;obtain⟨s,hs,e,he,g1,g2,_⟩:=o9.1 hx;exact⟨e,vg.2 ⟨s,hs,he⟩,g1,g2⟩
  have hp:=T4 k.slots.length (((xJ k.aj).filter fun e:bC=>decide (e.kind=2)).map (·.loc)) (fun n hn=>by
   grind)
  rw[gV] at hp;have hroom:=FQ _ k.aj rfl (fun s hs=>B6 (h.each s hs));have hr2:=h.room;obtain⟨x,hx⟩:=JI _ ((h.zt i hi).ne hr)
  grind [o9,xJ,List.length_filter_eq_length_iff]
theorem aY.aside {k:aR} (h:aY k) {i:Nat} (hi:i<k.frames.length) (hr:(aD k.frames i).refs≠0):aY (eB k i):=by
 grind [eB,slot,akt,alF]
open Go.RowKit
def dU (s:cV) (es:List bC):cV:=⟨s.live,s.aT,es⟩
def dE (k:aR) (e:bC):aR:=if e.kind=1 then { k with frames:=k.frames.set e.loc.toNat (rp (aD k.frames e.loc.toNat)) } else { k with slots:=k.slots.set e.loc.toNat (uk (bE k.slots e.loc.toNat)) }
def fZ (k:aR) (j:Nat) (e:bC):aR:={ k with aj:=k.aj.set j (dU (ak k.aj j) (mE (ak k.aj j).bf e)) }
def iK (k:aR) (i:Nat) (d:ByteArray) (dy:Bool):aR:={ k with frames:=k.frames.set i ⟨d,1,dy,false⟩ }
def eH (k:aR) (j:Nat) (p:Int) (i:Nat) (d:ByteArray) (dy:Bool):aR:=match bk (ak k.aj j).bf p with
 | none=>fZ (iK k i d dy) j ⟨p,1,i⟩
 | some e=>dE (fZ (iK k i d dy) j ⟨p,1,i⟩) e
theorem Ie {ss:List cV} {j:Nat} (hj:j<ss.length) (e:bC) (hr:jC (ak ss j).bf) (kd a:Int):∃X Y,bT ss kd a=X++(jK (ak ss j).aT kd a (bk (ak ss j).bf e.page).toList++Y)/\bT (ss.set j (dU (ak ss j) (mE (ak ss j).bf e))) kd a=X++(jK (ak ss j).aT kd a [e]++Y):=by
 obtain⟨pre,post,h1,h2,_,_⟩:=vN (e:=e) hr;obtain⟨u,v,g1,g2⟩:=yZ ss j (dU (ak ss j) (mE (ak ss j).bf e)) kd a hj;refine⟨u++jK (ak ss j).aT kd a pre,jK (ak ss j).aT kd a post++v,?_,?_⟩
 · grind [y7,mN]
 · rw[g2,y7];show u++(jK (ak ss j).aT kd a (mE (ak ss j).bf e)++v)=_
   grind [mN,wU]
theorem QC {es:List bC} (h:jC es) (e:bC) (p:Int):bk (mE es e) p=if p=e.page then some e else bk es p:=by
 have hp:=Nk (e:=e) h;obtain⟨pre,post,h1,h2,h3,h4⟩:=vN (e:=e) h
 grind [gX,qy]
theorem iC (l:List cV) (j n:Nat) (s:cV) (hj:j<l.length):ak (l.set j s) n=if j=n then s else ak l n:=by
 grind [ak]
theorem jM (l:List lK) (j n:Nat) (s:lK) (hj:j<l.length):aD (l.set j s) n=if j=n then s else aD l n:=by
 grind [aD]
theorem xY (l:List oO) (j n:Nat) (s:oO) (hj:j<l.length):bE (l.set j s) n=if j=n then s else bE l n:=by
 grind [bE]
theorem A3 (l:List cV) (j:Nat) (s:cV) (hj:j<l.length) (ha:s.aT=(ak l j).aT):dZ (l.set j s)=dZ l:=by
 grind [dZ,uE,iC]
structure jO (k:aR) (j:Nat) (p:Int) (i:Nat) (d:ByteArray) (dy:Bool):Prop where
 right:aY k
 hj:j<k.aj.length
 hp:(aW (ak k.aj j).aT p).2=true
 hi:i<k.frames.length
 free:bT k.aj 1 i=[]
 size:d.size=16
 fill:dy=false->d=fY k.aM p (aW (ak k.aj j).aT p).1.zero
theorem iU {k:aR} (h:aY k) {j:Nat} (hj:j<k.aj.length) {e:bC} (he:e∈(ak k.aj j).bf):(e.kind=1/\(e.loc.toNat:Int)=e.loc/\e.loc.toNat<k.frames.length)∨(e.kind=2/\(e.loc.toNat:Int)=e.loc/\e.loc.toNat<k.slots.length):=by
 rcases((h.sp hj).ML e he).2 with g | g
 · omega
 omega
theorem oC (k:aR) (j:Nat) (p:Int) (i:Nat) (d:ByteArray) (dy:Bool) (m:jO k j p i d dy):(eH k j p i d dy).frames.length=k.frames.length/\(eH k j p i d dy).slots.length=k.slots.length/\(eH k j p i d dy).aM=k.aM/\(eH k j p i d dy).hand=k.hand/\(eH k j p i d dy).aj=k.aj.set j (dU (ak k.aj j) (mE (ak k.aj j).bf ⟨p,1,i⟩)) /\
  (∀n,aD (eH k j p i d dy).frames n=if n=i then ⟨d,1,dy,false⟩ else match bk (ak k.aj j).bf p with
   | some e=>if e.kind=1/\e.loc=(n:Int) then rp (aD k.frames n) else aD k.frames n
   | none=>aD k.frames n) /\
  (∀n,bE (eH k j p i d dy).slots n=match bk (ak k.aj j).bf p with
   | some e=>if e.kind=2/\e.loc=(n:Int) then uk (bE k.slots n) else bE k.slots n
   | none=>bE k.slots n):=by
 have hr:=(m.right.sp m.hj).mn;unfold eH;cases g:bk (ak k.aj j).bf p with
 | none =>
  refine⟨fC,rfl,rfl,rfl,rfl,fun n=>?_,fun n=>rfl⟩;show aD (k.frames.set i _) n=_
  grind [jM,jO.hi]
 | some e =>
  have he:=(gX hr).1 g;have hne:e.kind=1->e.loc.toNat≠i:=fun h1 h2=>by
   have:=ji m.hj he.1;rcases iU m.right m.hj he.1 with b | b
   · grind [jO.free]
   · omega
  dsimp only;unfold dE;rcases iU m.right m.hj he.1 with b | b
  · rw[aB b.1];have hne:=hne b.1;refine⟨by show((k.frames.set i _).set _ _).length=_;grind,rfl,rfl,rfl,rfl,fun n=>?_,fun n=>?_⟩
    · show aD ((k.frames.set i _).set _ (rp (aD (k.frames.set i _) _))) n=_
      grind [jM,jO.hi]
    · show bE k.slots n=if e.kind=2/\e.loc=(n:Int) then _ else _
      grind
  · rw[au (by omega)];refine⟨fC,fC,rfl,rfl,rfl,fun n=>?_,fun n=>?_⟩
    · show aD (k.frames.set i _) n=if n=i then _ else if e.kind=1/\e.loc=(n:Int) then _ else _
      grind [jM,jO.hi]
    · show bE (k.slots.set _ (uk (bE k.slots _))) n=if e.kind=2/\e.loc=(n:Int) then _ else _
      grind [xY]
theorem xH {k:aR} {j:Nat} {p:Int} {i:Nat} {d:ByteArray} {dy:Bool} (m:jO k j p i d dy):aY (eH k j p i d dy):=by
 have h:=m.right;have hsp:=h.sp m.hj;obtain⟨f1,f2,f3,f4,f5,f6,f7⟩:=oC k j p i d dy m;have hlen:(eH k j p i d dy).aj.length=k.aj.length:=by grind
 refine⟨?_,by rw[f3];exact h.mn,by simp_all [aY.hand],?_,?_,?_,?_⟩
 · have:=h.counts
   grind [nk]
 · rw[f1,f2,f3,f5];intro s hs;rcases acd hs with g | rfl
   · exact h.each s g
   · refine⟨fun dd=>?_,hsp.aT,Nk hsp.mn,fun e he=>?_,hsp.aM⟩
     · have:=m.hp;rw[(hsp.dead dd).1] at this;cases this
     · obtain⟨pre,post,h1,h2,_,_⟩:=vN (e:=(⟨p,1,i⟩:bC)) hsp.mn;rw[show(dU (ak k.aj j) (mE (ak k.aj j).bf ⟨p,1,i⟩)).bf=pre++⟨p,1,i⟩::post from h2] at he;have hin:∀x,x∈pre∨x∈post->x∈(ak k.aj j).bf:=fun x hx=>by
        grind
       rcases lQ.1 he with g | g
       · exact hsp.ML e (hin e (.inl g))
       · rcases ux.1 g with rfl | g
         · exact⟨m.hp,.inl ⟨rfl,by grind,by show(i:Int)<_;have:=m.hi;omega⟩⟩
         · exact hsp.ML e (hin e (.inr g))
 · rw[f2,f5,A3 _ _ (dU (ak k.aj j) (mE (ak k.aj j).bf ⟨p,1,i⟩)) m.hj rfl];exact h.room
 · intro n hn;rw[f1] at hn;rw[f3,f5,f6];obtain⟨X,Y,h1,h2⟩:=Ie m.hj ⟨p,1,i⟩ hsp.mn 1 n;rw[h2];by_cases c:n=i
   · subst c;rw[aB rfl,rG _ (e:=(⟨p,1,n⟩:bC)) ⟨rfl,rfl⟩];rw[m.free] at h1;have hX:X=[]:=(O5.1 h1.symm).1;have hY:Y=[]:=(O5.1 (O5.1 h1.symm).2).2;subst hX hY;refine⟨rfl,fun e=>(by cases e),fun x hx y hy=>?_,fun _=>m.size,fun e x hx=>?_⟩
     · grind
     grind [jO.fill]
   · rw[au c,nH _ (e:=(⟨p,1,i⟩:bC)) (fun g=>c (by grind))];have hf:=h.zt n hn;rw[h1] at hf;cases g:bk (ak k.aj j).bf p with
     | none =>
      rw[g] at hf;exact hf
     | some e =>
      grind [rG,nH,lJ.less]
 · intro n hn;rw[f2] at hn;rw[f5,f7];obtain⟨X,Y,h1,h2⟩:=Ie m.hj ⟨p,1,i⟩ hsp.mn 2 n;rw[h2,nH _ (e:=(⟨p,1,i⟩:bC)) (fun g=>by grind)];have hf:=h.slt n hn;rw[h1] at hf;cases g:bk (ak k.aj j).bf p with
   | none =>
    rw[g] at hf;exact hf
   | some e =>
    grind [rG,nH,oF.less]
open Go.RowKit
theorem QD {i:Int} {es:List bC} (h:jC es) (p:Int):bk (vO i es) p=(bk es p).filter fun e=>!kV i e:=by
 cases g:bk es p with
 | none=>grind [qy,zP]
 | some e =>
  have he:=(gX h).1 g;by_cases c:e.kind=1/\e.loc=i
  · rw[Option.filter_some,yc.2 c,au (by simp),qy];intro x hx hp;have hx:=zP.1 hx;have:some x=some e:=((gX h).2 ⟨hx.1,hp⟩).symm.trans g
    grind
  grind [oD,gX,Nn,zP]
theorem Nc {i s:Int} {es:List bC} (h:jC es) (p:Int):bk (jI i s es) p=(bk es p).map fun e=>if kV i e then ⟨e.page,2,s⟩ else e:=by
 cases g:bk es p with
 | none =>
  grind [qy,AZ]
 | some e =>
  grind [gX,KF,AZ,oD]
theorem qx (f:cV->cV) (l:List cV) (j:Nat) (hj:j<l.length):ak (l.map f) j=f (ak l j):=Nq f qJ qJ l j hj
structure fE (k k':aR):Prop where
 aM:k'.aM=k.aM
 nf:k'.frames.length=k.frames.length
 ns:k'.slots.length=k.slots.length
 np:k'.aj.length=k.aj.length
 live:∀j,j<k.aj.length->(ak k'.aj j).live=(ak k.aj j).live
 aT:∀j,j<k.aj.length->(ak k'.aj j).aT=(ak k.aj j).aT
 RQ:∀j,j<k.aj.length->∀p,cC k' j p=cC k j p
theorem fE.refl (k:aR):fE k k:=⟨rfl,rfl,rfl,rfl,fun _ _=>rfl,fun _ _=>rfl,fun _ _ _=>rfl⟩
theorem fE.trans {a b c:aR} (h:fE a b) (g:fE b c):fE a c :=
 ⟨g.aM.trans h.aM,g.nf.trans h.nf,g.ns.trans h.ns,g.np.trans h.np,fun j hj=>(g.live j (by grind [np])).trans (h.live j hj),fun j hj=>(g.aT j (by grind [np])).trans (h.aT j hj),fun j hj p=>(g.RQ j (by grind [np]) p).trans (h.RQ j hj p)⟩
theorem VQ {k:aR} (h:aY k) {i:Nat} (hi:i<k.frames.length) (hd:(aD k.frames i).jw=false):fE k (zR k i):=by
 refine⟨rfl,fC,rfl,gV ..,fun j hj=>?_,fun j hj=>?_,fun j hj p=>?_⟩
 · show(ak (k.aj.map (nU i)) j).live=_;rw[qx _ _ _ hj];rfl
 · show(ak (k.aj.map (nU i)) j).aT=_;rw[qx _ _ _ hj];rfl
 · have hsp:=h.sp hj;unfold cC;show(match bk (ak (k.aj.map (nU i)) j).bf p with
    | some e=>if e.kind=1 then (aD (k.frames.set i gM) e.loc.toNat).data else (bE k.slots e.loc.toNat).data
    | none=>fY k.aM p (aW (ak (k.aj.map (nU i)) j).aT p).1.zero)=_
   rw[qx _ _ _ hj];show(match bk (vO i (ak k.aj j).bf) p with
    | some e=>if e.kind=1 then (aD (k.frames.set i gM) e.loc.toNat).data else (bE k.slots e.loc.toNat).data
    | none=>fY k.aM p (aW (ak k.aj j).aT p).1.zero)=_
   rw[QD hsp.mn];cases g:bk (ak k.aj j).bf p with
   | none=>rfl
   | some e =>
    have he:=(gX hsp.mn).1 g;have hb:=iU h hj he.1;by_cases c:e.kind=1/\e.loc=(i:Int)
    · rw[Option.filter_some,yc.2 c,au (by simp)];show _=if e.kind=1 then _ else _
      rw[aB c.1,show e.loc.toNat=i by omega];have:=ji hj he.1;rw[c.1,c.2] at this;have:=(h.zt i hi).fill hd _ this
      grind
    grind [oD,jM]
theorem VG {k:aR} (h:aY k) {i s:Nat} (hi:i<k.frames.length) (hs:s<k.slots.length) (hf:bT k.aj 2 s=[]):fE k (Fu k i s):=by
 refine⟨rfl,fC,fC,gV ..,fun j hj=>?_,fun j hj=>?_,fun j hj p=>?_⟩
 · show(ak (k.aj.map (kf i s)) j).live=_;rw[qx _ _ _ hj];rfl
 · show(ak (k.aj.map (kf i s)) j).aT=_;rw[qx _ _ _ hj];rfl
 · have hsp:=h.sp hj;unfold cC;show(match bk (ak (k.aj.map (kf i s)) j).bf p with
    | some e=>if e.kind=1 then (aD (k.frames.set i gM) e.loc.toNat).data else (bE (k.slots.set s ⟨(aD k.frames i).data,(aD k.frames i).refs⟩) e.loc.toNat).data
    | none=>fY k.aM p (aW (ak (k.aj.map (kf i s)) j).aT p).1.zero)=_
   rw[qx _ _ _ hj];show(match bk (jI i s (ak k.aj j).bf) p with
    | some e=>if e.kind=1 then (aD (k.frames.set i gM) e.loc.toNat).data else (bE (k.slots.set s ⟨(aD k.frames i).data,(aD k.frames i).refs⟩) e.loc.toNat).data
    | none=>fY k.aM p (aW (ak k.aj j).aT p).1.zero)=_
   rw[Nc hsp.mn];cases g:bk (ak k.aj j).bf p with
   | none=>rfl
   | some e =>
    have he:=(gX hsp.mn).1 g
    grind [iU,xY,oD,jM,ji]
theorem SM {k:aR} (h:aY k) {i:Nat} (hi:i<k.frames.length) (hr:(aD k.frames i).refs≠0):fE k (eB k i):=by
 grind [eB,VG,VQ,aY.slot]
theorem SN (k:aR) (i:Nat):bT (eB k i).aj 1 i=[]:=by
 unfold eB;by_cases c:(aD k.frames i).jw=true
 · rw[aB c];cases ye k.slots with
   | none=>exact pG (nU i) 1 i _ (fun s _=>xG s.aT i s.bf)
   | some s=>exact pG (kf i s) 1 i _ (fun sp _=>Fz sp.aT i s sp.bf)
 · rw[au c];exact pG (nU i) 1 i _ (fun s _=>xG s.aT i s.bf)
theorem EE (k:aR) (i:Nat):(eB k i).frames=k.frames.set i gM/\(eB k i).hand=k.hand:=by
 unfold eB;by_cases c:(aD k.frames i).jw=true
 · rw[aB c];cases ye k.slots with
   | none=>exact⟨rfl,rfl⟩
   | some s=>exact⟨rfl,rfl⟩
 · rw[au c];exact⟨rfl,rfl⟩
theorem VR {k:aR} (h:aY k) (i:Nat) {j:Nat} (hj:j<k.aj.length) (p:Int) (hn:∀e,bk (ak k.aj j).bf p=some e->¬(e.kind=1/\e.loc=(i:Int))):bk (ak (eB k i).aj j).bf p=bk (ak k.aj j).bf p:=by
 have hr:=(h.sp hj).mn;have hD:bk (ak (k.aj.map (nU i)) j).bf p=bk (ak k.aj j).bf p:=by
  rw[qx _ _ _ hj];show bk (vO i (ak k.aj j).bf) p=_;rw[QD hr];cases g:bk (ak k.aj j).bf p with
  | none=>rfl
  | some e=>grind [oD]
 unfold eB;by_cases c:(aD k.frames i).jw=true
 · rw[aB c];cases ye k.slots with
   | none=>exact hD
   | some s =>
    show bk (ak (k.aj.map (kf i s)) j).bf p=_;rw[qx _ _ _ hj];show bk (jI i s (ak k.aj j).bf) p=_;rw[Nc hr];cases g:bk (ak k.aj j).bf p with
    | none=>rfl
    | some e=>grind [oD]
 · rw[au c];exact hD
theorem SL {k:aR} (h:aY k) {i:Nat} (hi:i<k.frames.length) (hr:(aD k.frames i).refs≠0) (n:Nat) (hn:bT k.aj 2 n≠[]):bE (eB k i).slots n=bE k.slots n:=by
 unfold eB;by_cases c:(aD k.frames i).jw=true
 · rw[aB c];obtain⟨s,h1,h2,h3⟩:=h.slot hi hr;rw[h1];show bE (k.slots.set s _) n=_
   grind [xY]
 · rw[au c];rfl
theorem DL {k:aR} {j:Nat} {p:Int} {i:Nat} {d:ByteArray} {dy:Bool} (m:jO k j p i d dy) (hd:d=cC k j p):fE k (eH k j p i d dy):=by
 have h:=m.right;have hsp:=h.sp m.hj;have hR:=xH m;obtain⟨f1,f2,f3,f4,f5,f6,f7⟩:=oC k j p i d dy m;have hat:∀n,ak (eH k j p i d dy).aj n=if j=n then dU (ak k.aj j) (mE (ak k.aj j).bf ⟨p,1,i⟩) else ak k.aj n:=fun n=>by grind [iC,jO.hj]
 have Ak:(eH k j p i d dy).aj.length=k.aj.length:=by grind
 refine⟨f3,f1,f2,Ak,fun n hn=>?_,fun n hn=>?_,fun n hn q=>?_⟩
 · rw[hat];by_cases c:j=n
   · rw[aB c,<- c];rfl
   grind
 · rw[hat];by_cases c:j=n
   · rw[aB c,<- c];rfl
   grind
 · have aoQ:(ak (eH k j p i d dy).aj n).aT=(ak k.aj n).aT:=by
    rw[hat];by_cases c:j=n
    · rw[aB c,<- c];rfl
    grind
   have hent:bk (ak (eH k j p i d dy).aj n).bf q=if j=n/\q=p then some ⟨p,1,i⟩ else bk (ak k.aj n).bf q:=by
    rw[hat];by_cases c:j=n
    · rw[aB c];show bk (mE (ak k.aj j).bf ⟨p,1,i⟩) q=_;rw[QC hsp.mn]
      grind
    grind
   by_cases c:j=n/\q=p
   · grind [cC]
   · rw[au c] at hent;have hn':n<(eH k j p i d dy).aj.length:=by omega
     have an3:=h.sp hn;unfold cC;rw[hent,aoQ,f3];cases g:bk (ak k.aj n).bf q with
     | none=>rfl
     | some e =>
      have he:=(gX an3.mn).1 g;have hb:=iU h hn he.1;have he':=(gX (hR.sp hn').mn).1 (hent.trans g);have hnm:=ji hn' he'.1;have auv:=ji hn he.1;show(if e.kind=1 then _ else _)=if e.kind=1 then _ else _
      by_cases c1:e.kind=1
      · rw[aB c1,aB c1,f6];have hb:=hb.resolve_right (fun x=>by omega);have hni:e.loc.toNat≠i:=fun e1=>by
         grind [jO.free]
        rw[au hni];have hF:=hR.zt e.loc.toNat (by omega);rw[f6,au hni] at hF;have hne:bT (eH k j p i d dy).aj 1 (e.loc.toNat:Int)≠[]:=fun e1=>by
         grind
        cases g2:bk (ak k.aj j).bf p with
        | none=>rfl
        | some e2 =>
         rw[g2] at hF;have hF:lJ _ _ (if e2.kind=1/\e2.loc=(e.loc.toNat:Int) then rp (aD k.frames e.loc.toNat) else aD k.frames e.loc.toNat):=hF;show(if e2.kind=1/\e2.loc=(e.loc.toNat:Int) then rp (aD k.frames e.loc.toNat) else aD k.frames e.loc.toNat).data=_;by_cases c3:e2.kind=1/\e2.loc=(e.loc.toNat:Int)
         · rw[aB c3] at hF ⊢;unfold rp at hF ⊢;by_cases c4:(aD k.frames e.loc.toNat).refs-1=0
           · rw[aB c4] at hF;exact absurd (hF.nil rfl) hne
           grind
         grind
      · rw[au c1,au c1,f7];have hb:=hb.resolve_left (fun x=>c1 x.1);have hF:=hR.slt e.loc.toNat (by omega);rw[f7] at hF;have hne:bT (eH k j p i d dy).aj 2 (e.loc.toNat:Int)≠[]:=fun e1=>by
         grind
        cases g2:bk (ak k.aj j).bf p with
        | none=>rfl
        | some e2 =>
         rw[g2] at hF;have hF:oF _ (if e2.kind=2/\e2.loc=(e.loc.toNat:Int) then uk (bE k.slots e.loc.toNat) else bE k.slots e.loc.toNat):=hF;show(if e2.kind=2/\e2.loc=(e.loc.toNat:Int) then uk (bE k.slots e.loc.toNat) else bE k.slots e.loc.toNat).data=_;by_cases c3:e2.kind=2/\e2.loc=(e.loc.toNat:Int)
         · rw[aB c3] at hF ⊢;unfold uk at hF ⊢;by_cases c4:(bE k.slots e.loc.toNat).refs-1=0
           · rw[aB c4] at hF;exact absurd (hF.nil rfl) hne
           grind
         grind
open Go.RowKit
def jb (k:aR):Int:=(k.hand+1)%(k.frames.length:Int)
def nE (held:List Int) (k:aR):Bool:=held.contains k.hand || (aD k.frames k.hand.toNat).seen
def CI (f:lK):lK:={ f with seen:=false }
def jq (held:List Int) (k:aR):aR:={ k with hand:=jb k,frames:=if held.contains k.hand then k.frames else k.frames.set k.hand.toNat (CI (aD k.frames k.hand.toNat)) }
def bM (held:List Int):Nat->aR->aR
 | 0,k=>k
 | n+1,k=>jq held (bM held n k)
def nt (held:List Int):Nat->aR->aR
 | 0,k=>k
 | n+1,k=>if nE held k then nt held n (jq held k) else k
def A7 (k:aR):Prop:=∀i,i<k.frames.length->(aD k.frames i).refs≠0
theorem Qy (held:List Int) (k:aR):(jq held k).frames.length=k.frames.length:=by
 grind [jq]
theorem Qz (held:List Int) {k:aR} (hh:0<=k.hand/\k.hand<k.frames.length) (n:Nat):aD (jq held k).frames n=if (n:Int)=k.hand/\held.contains k.hand=false then CI (aD k.frames n) else aD k.frames n:=by
 grind [jq,jM]
theorem QE {k:aR} (h3:3<=k.frames.length):0<=jb k/\jb k<k.frames.length:=⟨Int.emod_nonneg _ (by omega),Int.emod_lt_of_pos _ (by omega)⟩
theorem SD (held:List Int) {k:aR} (h:aY k) (hf:A7 k):aY (jq held k)/\A7 (jq held k)/\fE k (jq held k)/\(jq held k).aj=k.aj/\(jq held k).slots=k.slots:=by
 have h3:=h.c.1.1;have hn:=QE h3;have hat:=Qz held h.hand;refine⟨?_,fun i hi=>?_,⟨rfl,Qy held k,rfl,rfl,fun _ _=>rfl,fun _ _=>rfl,fun j hj p=>?_⟩,rfl,rfl⟩
 · unfold jq;by_cases c:held.contains k.hand=true
   · grind [aY.turn]
   · rw[au c];have hi:k.hand.toNat<k.frames.length:=by have:=h.hand;omega
     have:=(h.zt _ hi);have g:=h.frame (this.seen false (this.ne (hf _ hi)));exact aY.turn g (x:=jb k) (by grind)
 · rw[Qy] at hi;rw[hat];have:=hf i hi;by_cases c:(i:Int)=k.hand/\held.contains k.hand=false
   · rw[aB c];exact this
   grind
 · unfold cC;show(match bk (ak k.aj j).bf p with
    | some e=>if e.kind=1 then (aD (jq held k).frames e.loc.toNat).data else (bE k.slots e.loc.toNat).data
    | none=>_)=_
   have auX:∀n,(aD (jq held k).frames n).data=(aD k.frames n).data:=fun n=>by
    rw[hat];by_cases c:(n:Int)=k.hand/\held.contains k.hand=false
    · rw[aB c];rfl
    grind
   grind [jq]
structure G7 (held:List Int) (k:aR) (n:Nat):Prop where
 right:aY (bM held n k)
 full:A7 (bM held n k)
 kept:fE k (bM held n k)
 aj:(bM held n k).aj=k.aj
 slots:(bM held n k).slots=k.slots
 hand:(bM held n k).hand=(k.hand+n)%(k.frames.length:Int)
 PF:∀i:Nat,(i:Int)∈held->aD (bM held n k).frames i=aD k.frames i
 past:∀m:Nat,m<n->∀i:Nat,(i:Int)=(k.hand+m)%(k.frames.length:Int)->(i:Int)∈held∨(aD (bM held n k).frames i).seen=false
theorem G3 (held:List Int) {k:aR} (h:aY k) (hf:A7 k):∀n,G7 held k n
 | 0=>⟨h,hf,fE.refl k,rfl,rfl,by have:=h.hand;show k.hand=(k.hand+((0:Nat):Int))%_;grind [Int.emod_eq_of_lt],fun _ _=>rfl,fun m hm=>by omega⟩
 | n+1=>by
  have t:=G3 held h hf n;obtain⟨s1,s2,s3,s4,s5⟩:=SD held t.right t.full;have hat:=Qz held t.right.hand;have Bt:=t.kept.nf;have hN:=h.c.1.1;refine⟨s1,s2,t.kept.trans s3,s4.trans t.aj,s5.trans t.slots,?_,fun i hi=>?_,fun m hm i hi=>?_⟩
  · show jb (bM held n k)=_;unfold jb;rw[Bt,t.hand,Int.emod_add_emod]
    grind
  · grind [bM,G7.PF]
  · show _∨(aD (jq held (bM held n k)).frames i).seen=false;rw[hat];by_cases c:(i:Int)=(bM held n k).hand/\held.contains (bM held n k).hand=false
    · rw[aB c];exact .inr rfl
    · rw[au c];by_cases d:m=n
      · grind [G7.hand]
      · exact t.past m (by omega) i hi
theorem afk {held:List Int} (hl:held.length<=2) (a b c:Int) (h1:a≠b) (h2:a≠c) (h3:b≠c):a∉held∨b∉held∨c∉held:=by
 by_cases ha:a∈held
 · by_cases hb:b∈held
   · right;right;intro hc;have l1:=List.length_erase_of_mem ha;have hb':b∈held.erase a:=(OW (fun e=>h1 e.symm)).2 hb;have hc':c∈held.erase a:=(OW (fun e=>h2 e.symm)).2 hc;have l2:=List.length_erase_of_mem hb';have hc'':c∈(held.erase a).erase b:=(OW (fun e=>h3 e.symm)).2 hc'
     grind
   grind
 grind
theorem DM {x n:Int} (h0:0<=x) (h1:x<2*n) (hn:0<n):(x<n/\x%n=x)∨(n<=x/\x%n=x-n):=by
 by_cases c:x<n
 · grind [Int.emod_eq_of_lt]
 · right;refine⟨by omega,?_⟩;rw[<- Int.sub_emod_right x n];exact agI (by omega) (by omega)
theorem Io (held:List Int) (hl:held.length<=2) {k:aR} (h:aY k) (hf:A7 k):∃T,T<=66/\(∀m,m<T->nE held (bM held m k)=true)/\nE held (bM held T k)=false:=by
 have hN:=h.c.1;have hex:∃T,T<=66/\nE held (bM held T k)=false:=by
  have hh:=h.hand;obtain⟨N,hNe⟩:∃N:Int,N=(k.frames.length:Int):=⟨_,rfl⟩;have hit:∀x:Nat,x<3->(k.hand+x)%N∉held->∃T,T<=66/\nE held (bM held T k)=false:=fun x hx hno=>by
   have t:=G3 held h hf (k.frames.length+x);have hm:0<=(k.hand+x)%N/\(k.hand+x)%N<N:=⟨Int.emod_nonneg _ (by omega),Int.emod_lt_of_pos _ (by omega)⟩;have ak4:(bM held (k.frames.length+x) k).hand=(k.hand+x)%N:=by
    grind [Int.add_emod_right,G7.hand]
   refine⟨k.frames.length+x,by omega,?_⟩;unfold nE;rw[ak4];have hi:(((k.hand+x)%N).toNat:Int)=(k.hand+x)%N:=by omega
   have:=t.past x (by omega) ((k.hand+x)%N).toNat (by grind)
   grind
  have d0:=DM (x:=k.hand+(0:Nat)) (n:=N) (by omega) (by omega) (by omega);have d1:=DM (x:=k.hand+(1:Nat)) (n:=N) (by omega) (by omega) (by omega);have d2:=DM (x:=k.hand+(2:Nat)) (n:=N) (by omega) (by omega) (by omega);rcases afk hl ((k.hand+(0:Nat))%N) ((k.hand+(1:Nat))%N) ((k.hand+(2:Nat))%N) (by omega) (by omega) (by omega) with g | g | g
  · grind
  · exact hit 1 (by omega) g
  grind
 obtain⟨T,hT,hp⟩:=hex;clear hN;induction T using Nat.strongRecOn with
 | _ T ih =>
  grind
theorem Im (held:List Int):∀(T n:Nat) (k:aR),T<=n->(∀m,m<T->nE held (bM held m k)=true)->nE held (bM held T k)=false->nt held (n+1) k=bM held T k:=fun T=>by
 have shift:∀m k,bM held m (jq held k)=bM held (m+1) k:=fun m k=>by
  induction m with
  | zero=>rfl
  | succ m ih=>show jq held _=jq held _;rw[ih]
 induction T with
 | zero =>
  intro n k _ _ h;show(if nE held k then _ else k)=k;rw[au (by rw[show nE held k=false from h];simp)]
 | succ T ih =>
  intro n k hn h1 h2;obtain⟨n,rfl⟩:∃m,n=m+1:=⟨n-1,by omega⟩;show(if nE held k then nt held (n+1) (jq held k) else k)=_;rw[aB (show nE held k=true from h1 0 (by omega)),ih n (jq held k) (by omega) (fun m hm=>by grind) (by grind),shift]
def bJ (k:aR) (held:List Int):Nat×aR:=match yg k.frames with
 | some i=>(i,k)
 | none=>((nt held 70 k).hand.toNat,{ eB (nt held 70 k) (nt held 70 k).hand.toNat with hand:=jb (nt held 70 k) })
structure ua (k:aR) (held:List Int) (g:Nat×aR):Prop where
 right:aY g.2
 kept:fE k g.2
 lt:g.1<k.frames.length
 free:bT g.2.aj 1 g.1=[]
 PF:∀i:Nat,(i:Int)∈held->(aD k.frames i).refs≠0->i≠g.1/\aD g.2.frames i=aD k.frames i
 ML:∀j,j<k.aj.length->∀p,(∀e,bk (ak k.aj j).bf p=some e->¬(e.kind=1/\e.loc=(g.1:Int)))->bk (ak g.2.aj j).bf p=bk (ak k.aj j).bf p
 slot:∀n:Nat,bT k.aj 2 n≠[]->bE g.2.slots n=bE k.slots n
theorem sN {k:aR} (h:aY k) {held:List Int} (hl:held.length<=2):ua k held (bJ k held):=by
 unfold bJ;cases hf:yg k.frames with
 | some i =>
  obtain⟨h1,h2,_⟩:=Pc.1 hf;have hr:(aD k.frames i).refs=0:=by
   grind [aD]
  exact⟨h,fE.refl k,h1,(h.zt i h1).nil hr,fun n _ hn=>⟨fun e=>hn (by grind),rfl⟩,fun j _ p _=>rfl,fun _ _=>rfl⟩
 | none =>
  have hF:A7 k:=fun i hi hr=>by
   have:=UE.1 hf (aD k.frames i) (jL hi)
   grind
  obtain⟨T,hT,t1,t2⟩:=Io held hl h hF;have hc:nt held 70 k=bM held T k:=Im held T 69 k (by omega) t1 t2;rw[hc];have t:=G3 held h hF T;obtain⟨k1,hk1⟩:=ex (bM held T k);have tr:=t.right;have tf:=t.full;have tk:=t.kept;have ts:=t.aj;have tl:=t.slots;have th:=t.PF;rw[<- hk1] at t2 tr tf tk ts tl th ⊢;obtain⟨i,hi⟩:=ex k1.hand.toNat
  have hh:=tr.hand;have hi1:i<k1.frames.length:=by omega
  have hr:=tf i hi1;have a1:=tr.aside hi1 hr;have a2:=SM tr hi1 hr;have h3:=tr.c.1.1;have a3:(eB k1 i).frames.length=k1.frames.length:=a2.nf;rw[<- hi];have hb:aY { eB k1 i with hand:=jb k1 }:=a1.turn (by simp_all [QE]);have hkk:fE (eB k1 i) { eB k1 i with hand:=jb k1 }:=⟨rfl,rfl,rfl,rfl,fun _ _=>rfl,fun _ _=>rfl,fun _ _ _=>rfl⟩;have Bt:=tk.nf;refine⟨hb,tk.trans (a2.trans hkk),by grind,SN k1 i,fun n hn _=>?_,fun j hj p he=>?_,fun n hn=>?_⟩
  · grind [nE,EE,jM]
  · grind [VR]
  grind [SL]
end Go.Proofs.YtlgoihmkgaaemaaGreat
