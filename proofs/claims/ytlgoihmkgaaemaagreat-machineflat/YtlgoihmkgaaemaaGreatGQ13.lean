import Derived.Test.YtlgoihmkgaaemaaGreatGQ12
set_option maxHeartbeats 20000000
set_option linter.unusedVariables false
set_option maxRecDepth 100000
set_option linter.unusedSimpArgs false
namespace Go.Proofs.YtlgoihmkgaaemaaGreat
open Go.RowKit
variable {σ τ:Type}
structure E6 (o:lK σ) (o':lK τ) (Ok:σ->List Bool->Prop) (f:σ->τ):Prop where
 load:∀s fl k a n way,Ok s fl->fl.getD k false=true->1<=n->n<=8->o'.load (f s) k a n way=((o.load s k a n way).1,f (o.load s k a n way).2)
 store:∀s fl k a d,Ok s fl->fl.getD k false=true->1<=d.size->d.size<=8->o'.store (f s) k a d=((o.store s k a d).1,f (o.store s k a d).2)
 map:∀s fl k p n q,Ok s fl->fl.getD k false=true->o'.map (f s) k p n q=((o.map s k p n q).1,f (o.map s k p n q).2)
 qX:∀s fl k p n,Ok s fl->fl.getD k false=true->o'.qX (f s) k p n=((o.qX s k p n).1,f (o.qX s k p n).2)
 ko:∀s fl k p n q,Ok s fl->fl.getD k false=true->o'.ko (f s) k p n q=((o.ko s k p n q).1,f (o.ko s k p n q).2)
 fork:∀s fl k,Ok s fl->fl.getD k false=true->o'.fork (f s) k=((o.fork s k).1,f (o.fork s k).2)
 drop:∀s fl k,Ok s fl->fl.getD k false=true->o'.drop (f s) k=f (o.drop s k)
def jO (f:σ->τ) (st:dB σ):dB τ:=⟨f st.mem,st.ps,st.out⟩
variable {o:lK σ} {o':lK τ} {Ok:σ->List Bool->Prop} {f:σ->τ}
theorem afC (S:E6 o o' Ok f) {st:dB σ} (h:Ok st.mem (bY st.ps)) {k:Nat} (hk:(bY st.ps).getD k false=true) (c:Int):iH o' (jO f st) k c=((iH o st k c).1,jO f (iH o st k c).2):=by
 unfold iH;simp only[jO,S.map _ _ _ _ _ _ h hk,S.qX _ _ _ _ _ h hk,S.ko _ _ _ _ _ _ h hk,S.fork _ _ _ h hk,S.drop _ _ _ h hk]
 repeat' split
 all_goals rfl
theorem YW (S:E6 o o' Ok f) {st:dB σ} (h:Ok st.mem (bY st.ps)) {k:Nat} (hk:(bY st.ps).getD k false=true) (i:eu):gS o' (jO f st) k i=((gS o st k i).1,jO f (gS o st k i).2):=by
 unfold gS;by_cases hb:i.bad=true
 . rw[aC hb,aC hb];rfl
 rw[aB hb,aB hb];have hb:i.bad=false:=by simpa using hb
 by_cases h9:i.op=9
 . have hc:=EG hb (.inl h9);rw[aC h9,aC h9];simp only[jO,S.load _ _ _ _ _ _ h hk hc.1 hc.2]
 rw[aB h9,aB h9];by_cases h10:i.op=10
 . have hc:=EG hb (.inr h10);have hp:=Hq ((aO st.ps k).r i.a.toNat) i.c;rw[aC h10,aC h10];simp only[jO,S.store _ _ _ _ _ h hk (show 1<=(oJ ((aO st.ps k).r i.a.toNat) i.c).size by omega) ω]
 rw[aB h10,aB h10];by_cases Xw:i.op=16
 . rw[aC Xw,aC Xw,afC S h hk]
 rw[aB Xw,aB Xw]
theorem ak1 (S:E6 o o' Ok f) (ho:tj o Ok) {st:dB σ} (h:Ok st.mem (bY st.ps)) {k:Nat} (hk:(bY st.ps).getD k false=true):oh o' (jO f st) k=((oh o st k).1,jO f (oh o st k).2):=by
 unfold oh;have e:=S.load _ _ k (aO st.ps k).pc 8 2 h hk ω ω;have h1:=ho.load _ _ k (aO st.ps k).pc 8 2 h hk;simp only[show(jO f st).mem=f st.mem from rfl,show(jO f st).ps=st.ps from rfl,e];by_cases c:(o.load st.mem k (aO st.ps k).pc 8 2).1.2.1=0
 . simp only[c,Gm,qY];have ha:=YW S (st:={ st with mem:=(o.load st.mem k (aO st.ps k).pc 8 2).2 }) h1 hk (iC (o.load st.mem k (aO st.ps k).pc 8 2).1.1);simp only[jO] at ha ⊢;by_cases c2:(gS o { mem:=(o.load st.mem k (aO st.ps k).pc 8 2).2,ps:=st.ps,out:=st.out } k (iC (o.load st.mem k (aO st.ps k).pc 8 2).1.1)).1.2.1=0
   . simp only[ha,c2,Gm,qY]
   simp only[ha,c2,Gl,vK]
 simp only[c,Gl,vK,jO]
theorem afB (S:E6 o o' Ok f) (ho:tj o Ok) {st:dB σ} (h:ez Ok st) (pick:Int):gN o' (jO f st) pick=((gN o st pick).1,jO f (gN o st pick).2):=by
 unfold gN;simp only[show(jO f st).ps=st.ps from rfl,show(jO f st).out=st.out from rfl];by_cases c1:0<=pick/\pick<(st.ps.length:Int)
 . simp only[c1,Gm,qY,and_self];by_cases c2:(aO st.ps pick.toNat).st=1
   . simp only[c2,Gm,qY];by_cases c3:2000<=st.out.length
     . simp only[c3,vK]
     simp only[c3,qY];have hk:pick.toNat<st.ps.length:=by omega
     have hl:=lY pick.toNat hk c2;have hd:=Ni ho h ω pick.toNat hk c2;have e:=ak1 S ho h.mem hl;by_cases c4:(oh o st pick.toNat).1.1=0
     . simp only[e,c4,vK]
     have hm:=hd.ok.mem;rw[hd.same c4] at hm;simp only[e,c4,qY];simp only[jO,S.drop _ _ _ hm hl]
   simp only[c2,Gl,vK]
 simp only[c1,Gl,vK]
theorem CE (S:E6 o o' Ok f) (ho:tj o Ok) {st:dB σ} (h:ez Ok st) (picks:List Int):∀n,fq o' picks n (some (jO f st))=(fq o picks n (some st)).map (jO f)
 | 0=>rfl
 | n+1=>by
  have ih:=CE S ho h picks n;have hk:=yn ho h picks n;show(match fq o' picks n (some (jO f st)) with | none=>none | some s=>_)=Option.map _ (match fq o picks n (some st) with | none=>none | some s=>_);rw[ih];cases e:fq o picks n (some st) with
  | none=>rfl
  | some s =>
   show(if (gN o' (jO f s) (picks.getD n 0)).1=2 then none else some (gN o' (jO f s) (picks.getD n 0)).2)=_;rw[afB S ho (hk s e)];show _=Option.map _ (if (gN o s (picks.getD n 0)).1=2 then none else some (gN o s (picks.getD n 0)).2);split <;> rfl
structure nA where
 data:ByteArray
 refs:Int
 kE:Bool
 seen:Bool
structure qh where
 data:ByteArray
 refs:Int
structure bJ where
 page:Int
 kind:Int
 loc:Int
structure dA where
 live:Bool
 aJ:List aX
 bh:List bJ
structure aT where
 aR:List bC
 frames:List nA
 slots:List qh
 aj:List dA
 hand:Int
def fN:nA:=⟨⟨#[]⟩,0,false,false⟩
def jm:qh:=⟨⟨#[]⟩,0⟩
def iD:bJ:=⟨0,0,0⟩
def tR:dA:=⟨false,[],[]⟩
def aM (l:List nA) (i:Nat):nA:=l.getD i fN
def bI (l:List qh) (i:Nat):qh:=l.getD i jm
def bc (l:List bJ) (i:Nat):bJ:=l.getD i iD
def ak (l:List dA) (i:Nat):dA:=l.getD i tR
theorem kT {α:Type} {d:α}:∀{l:List α} {i:Nat},i<l.length->l.getD i d∈l
 | [],i,h=>absurd h (iW _)
 | a::r,0,h=>Gs
 | a::r,i+1,h=>Gp _ (kT (l:=r) (Gq h))
theorem mZ {α:Type} (d:α):∀{l:List α} {x:α},x∈l->∃i,i<l.length/\l.getD i d=x
 | a::r,x,h=>by
  rcases qZ.1 h with rfl | h
  . exact⟨0,TX _,rfl⟩
  obtain⟨i,hi,e⟩:=mZ d h;exact⟨i+1,TW hi,e⟩
theorem fh {α:Type} (d x:α):∀(l:List α) (i:Nat),i<l.length->(l.set i x).getD i d=x
 | a::r,0,_=>rfl
 | a::r,i+1,h=>fh d x r i (Gq h)
theorem vh {α:Type} (d x:α):∀(l:List α) (i j:Nat),i≠j->(l.set i x).getD j d=l.getD j d
 | [],_,_,_=>rfl
 | a::r,0,0,h=>absurd rfl h
 | a::r,0,j+1,_=>rfl
 | a::r,i+1,0,_=>rfl
 | a::r,i+1,j+1,h=>vh d x r i j (λe=>h (by rw[e]))
def fW (s:dA) (kd at_:Int):List (Int×Bool):=(s.bh.filter λe=>decide (e.kind=kd/\e.loc=at_)).map λe=>(e.page,(aV s.aJ e.page).1.zero)
def bU (ss:List dA) (kd at_:Int):List (Int×Bool):=ss.flatMap λs=>fW s kd at_
def je (hs:List bC) (p:Int):Option bC:=hs.find? λs=>decide (s.page=p)
def fG (hs:List bC) (p:Int):ByteArray:=match je hs p with
 | some s=>ud s
 | none=>⟨#[]⟩
def yj:ByteArray:=⟨#[0,0,0,0,0,0,0,0,0,0,0,0,0,0,0,0]⟩
def gz (hs:List bC) (p:Int) (z:Bool):ByteArray:=if z then yj else fG hs p
def A6 (nf ns:Nat) (ar:List aX) (e:bJ):Prop:=(aV ar e.page).2=true/\((e.kind=1/\0<=e.loc/\e.loc<nf)\/(e.kind=2/\0<=e.loc/\e.loc<ns))
structure xO (hs:List bC) (nf ns:Nat) (s:dA):Prop where
 dead:s.live=false->s.aJ=[]/\s.bh=[]
 aJ:bj s.aJ=0
 lq:(s.bh.map (·.page)).Pairwise (·<·)
 Qs:∀e∈s.bh,A6 nf ns s.aJ e
 aR:∀p,(aV s.aJ p).2=true->(aV s.aJ p).1.zero=false->(je hs p).isSome=true
structure nz (hs:List bC) (L:List (Int×Bool)) (f:nA):Prop where
 refs:f.refs=L.length
 zero:L=[]->f=fN
 one:∀x∈L,∀y∈L,x=y
 size:L≠[]->f.data.size=16
 fill:f.kE=false->∀x∈L,f.data=gz hs x.1 x.2
structure qC (L:List (Int×Bool)) (s:qh):Prop where
 refs:s.refs=L.length
 zero:L=[]->s=jm
 one:∀x∈L,∀y∈L,x=y
 size:L≠[]->s.data.size=16
def kG (l:List dA):Nat->Int
 | 0=>0
 | k+1=>kG l k+bf (ak l k).aJ
def eU (l:List dA):Int:=kG l l.length
def pB (k:aT):Bool:=decide ((3<=k.frames.length/\k.frames.length<=64)/\k.slots.length<=512/\(1<=k.aj.length/\k.aj.length<=4)/\k.aR.length<=255)
structure aW (k:aT):Prop where
 counts:pB k=true
 lq:iG k.aR=true
 hand:0<=k.hand/\k.hand<k.frames.length
 each:∀s∈k.aj,xO k.aR k.frames.length k.slots.length s
 room:eU k.aj<=k.slots.length
 EK:∀i:Nat,i<k.frames.length->nz k.aR (bU k.aj 1 i) (aM k.frames i)
 slt:∀i:Nat,i<k.slots.length->qC (bU k.aj 2 i) (bI k.slots i)
theorem aW.c {k:aT} (h:aW k):(3<=k.frames.length/\k.frames.length<=64)/\k.slots.length<=512/\(1<=k.aj.length/\k.aj.length<=4)/\k.aR.length<=255:=jY h.counts
theorem Pc (kd a:Int):bU [] kd a=[]:=rfl
theorem mD (s:dA) (r:List dA) (kd a:Int):bU (s::r) kd a=fW s kd a++bU r kd a:=o8
theorem Io (l r:List dA) (kd a:Int):bU (l++r) kd a=bU l kd a++bU r kd a:=tH
theorem wY {s:dA} {kd a:Int} {x:Int×Bool}:x∈fW s kd a↔∃e∈s.bh,e.kind=kd/\e.loc=a/\x=(e.page,(aV s.aJ e.page).1.zero):=by
 grind [fW]
theorem rE {ss:List dA} {kd a:Int} {x:Int×Bool}:x∈bU ss kd a↔∃s∈ss,∃e∈s.bh,e.kind=kd/\e.loc=a/\x=(e.page,(aV s.aJ e.page).1.zero):=by
 grind [bU,wY]
theorem Cx:∀(l:List dA) (j:Nat) (s:dA) (kd a:Int),j<l.length->∃u v,bU l kd a=u++(fW (ak l j) kd a++v)/\bU (l.set j s) kd a=u++(fW s kd a++v)
 | x::r,0,s,kd,a,_=>⟨[],bU r kd a,mD x r kd a,mD s r kd a⟩
 | x::r,j+1,s,kd,a,h=>by
  obtain⟨u,v,h1,h2⟩:=Cx r j s kd a (Gq h);refine⟨fW x kd a++u,v,?_,?_⟩
  . rw[mD,h1,uH];rfl
  grind [mD]
theorem wj (f:dA->dA) (kd a:Int) (kd' a':Int):∀(l:List dA),(∀s∈l,fW (f s) kd a=fW s kd' a')->bU (l.map f) kd a=bU l kd' a'
 | [],_=>rfl
 | x::r,h=>by
  rw[Cf,mD,mD,h x Gs,wj f kd a kd' a' r (λs hs=>h s (Gp _ hs))]
theorem rZ (f:dA->dA) (kd a:Int):∀(l:List dA),(∀s∈l,fW (f s) kd a=[])->bU (l.map f) kd a=[]
 | [],_=>rfl
 | x::r,h=>by
  rw[Cf,mD,h x Gs,rZ f kd a r (λs hs=>h s (Gp _ hs))];rfl
theorem xE (l m:List dA):∀k,(∀i,i<k->(ak l i).aJ=(ak m i).aJ)->kG l k=kG m k
 | 0,_=>rfl
 | k+1,h=>by rw[kG,kG,xE l m k (λi hi=>h i (Nat.lt_succ_of_lt hi)),h k (T3 k)]
def kL (es:List bJ):Prop:=(es.map (·.page)).Pairwise (·<·)
def bl (es:List bJ) (p:Int):Option bJ:=es.find? λe=>decide (e.page=p)
theorem O8 {a:bJ} {r:List bJ} (h:kL (a::r)):kL r/\∀e∈r,a.page<e.page:=by
 have:=Ag.1 h;exact⟨this.2,λe he=>this.1 _ (aaT he)⟩
theorem gZ:∀{es:List bJ} {p:Int} {e:bJ},kL es->(bl es p=some e↔e∈es/\e.page=p)
 | [],p,e,_=>by simp[bl]
 | a::r,p,e,h=>by
  have hr:=O8 h;by_cases c:a.page=p
  . grind [bl]
  have:bl (a::r) p=bl r p:=by simp[bl,c]
  rw[this,gZ hr.1]
  grind
theorem tB {es:List bJ} {p:Int}:bl es p=none↔∀e∈es,e.page≠p:=by
 grind [bl]
def oq:List bJ->bJ->List bJ
 | [],e=>[e]
 | a::r,e=>if a.page<e.page then a::oq r e else if a.page=e.page then e::r else e::a::r
theorem yT:∀{es:List bJ} {e:bJ},kL es->∃pre post,es=pre++((bl es e.page).toList++post)/\oq es e=pre++e::post/\(∀x∈pre,x.page<e.page)/\∀x∈post,e.page<x.page
 | [],e,_=>⟨[],[],rfl,rfl,ξ,ξ⟩
 | a::r,e,h=>by
  have hr:=O8 h;unfold oq;by_cases c:a.page<e.page
  . obtain⟨pre,post,h1,h2,h3,h4⟩:=yT (es:=r) (e:=e) hr.1;have:bl (a::r) e.page=bl r e.page:=by grind [bl]
    grind
  rw[aB c];by_cases d:a.page=e.page
  . have:bl (a::r) e.page=some a:=by simp[bl,d]
    rw[aC d,this];exact⟨[],r,rfl,rfl,ξ,λx hx=>Γ⟩
  have:bl (a::r) e.page=none:=tB.2 λx hx=>by
   grind
  rw[aB d,this];refine⟨[],a::r,rfl,rfl,ξ,λx hx=>?_⟩
  grind
theorem aeN {pre post:List bJ} {e:bJ} (hp:kL pre) (hq:kL post) (h1:∀x∈pre,x.page<e.page) (h2:∀x∈post,e.page<x.page):kL (pre++e::post):=by
 grind [kL,List.pairwise_cons]
theorem EW {a b:List bJ} (h:kL (a++b)):kL a/\kL b:=by
 grind [kL]
theorem Si {es:List bJ} {e:bJ} (h:kL es):kL (oq es e):=by
 obtain⟨b,post,h1,h2,h3,h4⟩:=yT (e:=e) h;rw[h2];rw[h1] at h;exact aeN (EW h).1 (EW (EW h).2).2 h3 h4
def kR (ar:List aX) (kd a:Int) (es:List bJ):List (Int×Bool):=(es.filter λe=>decide (e.kind=kd/\e.loc=a)).map λe=>(e.page,(aV ar e.page).1.zero)
theorem Cy (s:dA) (kd a:Int):fW s kd a=kR s.aJ kd a s.bh:=rfl
theorem oH (ar:List aX) (kd a:Int) (l r:List bJ):kR ar kd a (l++r)=kR ar kd a l++kR ar kd a r:=by grind [kR]
theorem zQ (ar:List aX) (kd a:Int) (e:bJ) (r:List bJ):kR ar kd a (e::r)=kR ar kd a [e]++kR ar kd a r:=oH ar kd a [e] r
theorem uB (ar:List aX) {kd a:Int} {e:bJ} (h:e.kind=kd/\e.loc=a):kR ar kd a [e]=[(e.page,(aV ar e.page).1.zero)]:=by simp[kR,h]
theorem pP (ar:List aX) {kd a:Int} {e:bJ} (h:¬(e.kind=kd/\e.loc=a)):kR ar kd a [e]=[]:=by
 grind [kR]
theorem QK {ar:List aX} {kd a:Int} {es:List bJ} {x:Int×Bool}:x∈kR ar kd a es↔∃e∈es,e.kind=kd/\e.loc=a/\x=(e.page,(aV ar e.page).1.zero):=wY (s:=⟨true,ar,es⟩)
theorem Pb {ar:List aX} {kd a:Int} {es:List bJ} (h:∀e∈es,¬(e.kind=kd/\e.loc=a)):kR ar kd a es=[]:=by
 simp_all [ai6,QK]
theorem Ep {l:List dA} {j:Nat} (h:j<l.length):ak l j∈l:=kT h
theorem aW.sp {k:aT} (h:aW k) {j:Nat} (hj:j<k.aj.length):xO k.aR k.frames.length k.slots.length (ak k.aj j):=h.each _ (Ep hj)
theorem ki {ss:List dA} {j:Nat} (hj:j<ss.length) {e:bJ} (he:e∈(ak ss j).bh):(e.page,(aV (ak ss j).aJ e.page).1.zero)∈bU ss e.kind e.loc:=rE.2 ⟨_,Ep hj,e,he,rfl,rfl,rfl⟩
theorem aW.frame {k:aT} (h:aW k) {i:Nat} {f:nA} (hf:nz k.aR (bU k.aj 1 i) f):aW { k with frames:=k.frames.set i f }:=by
 have hl:(k.frames.set i f).length=k.frames.length:=dE;refine⟨?_,h.lq,by simp_all [hand],?_,h.room,?_,h.slt⟩
 . have:=h.counts
   grind [pB]
 . grind [each]
 intro n hn;have b:n<k.frames.length:=by grind
 show nz k.aR (bU k.aj 1 n) ((k.frames.set i f).getD n fN);by_cases c:i=n
 . grind
 rw[vh _ _ _ _ _ c];exact h.EK n b
theorem aW.turn {k:aT} (h:aW k) {x:Int} (hx:0<=x/\x<k.frames.length):aW { k with hand:=x }:=⟨h.counts,h.lq,hx,h.each,h.room,h.EK,h.slt⟩
theorem nz.seen {hs:List bC} {L:List (Int×Bool)} {f:nA} (h:nz hs L f) (b:Bool) (hL:L≠[]):nz hs L { f with seen:=b }:=⟨h.refs,λe=>absurd e hL,h.one,h.size,h.fill⟩
theorem nz.ne {hs:List bC} {L:List (Int×Bool)} {f:nA} (h:nz hs L f) (hr:f.refs≠0):L≠[]:=λe=>hr (by rw[h.refs,e];rfl)
theorem nz.nil {hs:List bC} {L:List (Int×Bool)} {f:nA} (h:nz hs L f) (hr:f.refs=0):L=[]:=by
 have:=h.refs
 simp_all
theorem qC.nil {L:List (Int×Bool)} {f:qh} (h:qC L f) (hr:f.refs=0):L=[]:=by
 have:=h.refs
 simp_all
theorem nz.none (hs:List bC):nz hs [] fN:=⟨rfl,λ_=>rfl,ξ,λh=>absurd rfl h,ξ⟩
theorem qC.none:qC [] jm:=⟨rfl,λ_=>rfl,ξ,λh=>absurd rfl h⟩
def uo (f:nA):nA:=if f.refs-1=0 then fN else { f with refs:=f.refs-1 }
def w9 (f:qh):qh:=if f.refs-1=0 then jm else { f with refs:=f.refs-1 }
theorem nz.less {hs:List bC} {X Y:List (Int×Bool)} {x:Int×Bool} {f:nA} (h:nz hs (X++x::Y) f):nz hs (X++Y) (uo f):=by
 have hr:=h.refs;have hn:X++x::Y≠[]:=by simp
 have hm:∀y∈X++Y,y∈X++x::Y:=λy hy=>by
  grind
 rw[ft,tG] at hr;unfold uo;by_cases c:f.refs-1=0
 . rw[aC c];have:X++Y=[]:=o9 Γ
   grind [nz.none]
 rw[aB c];refine⟨?_,λe=>?_,λa ha b hb=>h.one a (hm a ha) b (hm b hb),λ_=>h.size hn,λd y hy=>h.fill d y (hm y hy)⟩
 . grind
 simp_all
theorem qC.less {X Y:List (Int×Bool)} {x:Int×Bool} {f:qh} (h:qC (X++x::Y) f):qC (X++Y) (w9 f):=by
 have hr:=h.refs;have hn:X++x::Y≠[]:=by simp
 have hm:∀y∈X++Y,y∈X++x::Y:=λy hy=>by
  grind
 rw[ft,tG] at hr;unfold w9;by_cases c:f.refs-1=0
 . rw[aC c];have:X++Y=[]:=o9 Γ
   grind [qC.none]
 rw[aB c];refine⟨?_,λe=>?_,λa ha b hb=>h.one a (hm a ha) b (hm b hb),λ_=>h.size hn⟩
 . grind
 simp_all
def mO (i:Int) (e:bJ):Bool:=decide (e.kind=1/\e.loc=i)
def yU (i:Int) (es:List bJ):List bJ:=es.filter λe=>!mO i e
def kP (i s:Int) (es:List bJ):List bJ:=es.map λe=>if mO i e then ⟨e.page,2,s⟩ else e
def A5 (l:List nA):Option Nat:=l.findIdx? λf=>decide (f.refs=0)
def A4 (l:List qh):Option Nat:=l.findIdx? λf=>decide (f.refs=0)
def pZ (i:Int) (s:dA):dA:={ s with bh:=yU i s.bh }
def lQ (i s:Int) (sp:dA):dA:={ sp with bh:=kP i s sp.bh }
def Dw (k:aT) (i:Nat):aT:={ k with frames:=k.frames.set i fN,aj:=k.aj.map (pZ i) }
def Jn (k:aT) (i s:Nat):aT:={ k with frames:=k.frames.set i fN,slots:=k.slots.set s ⟨(aM k.frames i).data,(aM k.frames i).refs⟩,aj:=k.aj.map (lQ i s) }
def eY (k:aT) (i:Nat):aT:=if (aM k.frames i).kE then (match A4 k.slots with
 | some s=>Jn k i s
 | none=>Dw k i) else Dw k i
def b7 (k:aT) (j:Nat) (p:Int):ByteArray:=match bl (ak k.aj j).bh p with
 | some e=>if e.kind=1 then (aM k.frames e.loc.toNat).data else (bI k.slots e.loc.toNat).data
 | none=>gz k.aR p (aV (ak k.aj j).aJ p).1.zero
theorem Sl {α β:Type} (f:α->β) (d:α) (d':β):∀(l:List α) (i:Nat),i<l.length->(l.map f).getD i d'=f (l.getD i d)
 | a::r,0,_=>rfl
 | a::r,i+1,h=>Sl f d d' r i (Gq h)
theorem A3 {i:Int} {e:bJ}:mO i e=true↔e.kind=1/\e.loc=i:=by simp[mO]
theorem qB {i:Int} {e:bJ}:mO i e=false↔¬(e.kind=1/\e.loc=i):=by simp[mO]
theorem Du {i:Int} {es:List bJ} {e:bJ}:e∈yU i es↔e∈es/\¬(e.kind=1/\e.loc=i):=by
 grind [yU,qB]
theorem Sj {i:Int} {es:List bJ} (h:kL es):kL (yU i es):=aaX (List.filter_sublist.map _) h
theorem Yx (i s:Int) (es:List bJ):(kP i s es).map (·.page)=es.map (·.page):=by
 grind [kP,List.map_congr_left]
theorem OY {i s:Int} {es:List bJ} (h:kL es):kL (kP i s es):=by grind [kL,Yx]
theorem Eo {i s:Int} {es:List bJ} {x:bJ}:x∈kP i s es↔(x∈es/\¬(x.kind=1/\x.loc=i))\/∃e∈es,(e.kind=1/\e.loc=i)/\x=⟨e.page,2,s⟩:=by
 grind [kP,qB]
theorem aad (ar:List aX) (i kd a:Int) (es:List bJ) (h:¬(kd=1/\a=i)):kR ar kd a (yU i es)=kR ar kd a es:=by
 unfold kR yU;rw[List.filter_filter]
 grind [qB]
theorem Ak (ar:List aX) (i:Int) (es:List bJ):kR ar 1 i (yU i es)=[]:=Pb λe he=>(Du.1 he).2
theorem MW (ar:List aX) (i s kd a:Int) (h:¬(kd=1/\a=i)) (h2:¬(kd=2/\a=s)):∀es:List bJ,kR ar kd a (kP i s es)=kR ar kd a es
 | []=>rfl
 | e::r=>by
  have e1:kP i s (e::r)=(if mO i e then ⟨e.page,2,s⟩ else e)::kP i s r:=rfl;rw[e1,zQ,zQ ar kd a e r,MW ar i s kd a h h2 r]
  grind [pP,qB]
theorem Js (ar:List aX) (i s:Int) (es:List bJ):kR ar 1 i (kP i s es)=[]:=Pb λe he g=>by
 grind [Eo]
theorem LZ (ar:List aX) (i s:Int):∀es:List bJ,(∀e∈es,¬(e.kind=2/\e.loc=s))->kR ar 2 s (kP i s es)=kR ar 1 i es
 | [],_=>rfl
 | e::r,h=>by
  have e1:kP i s (e::r)=(if mO i e then ⟨e.page,2,s⟩ else e)::kP i s r:=rfl;rw[e1,zQ,zQ ar 1 i e r,LZ ar i s r (λx hx=>h x (Gp _ hx))]
  grind [uB,qB,pP]
theorem Sg (f:dA->dA) (hf:∀s,(f s).aJ=s.aJ) (l:List dA):eU (l.map f)=eU l:=by
 grind [eU,xE,ak]
theorem aW.atW {k:aT} (h:aW k) {i:Nat} (hi:i<k.frames.length):aW (Dw k i):=by
 have hl:(k.frames.set i fN).length=k.frames.length:=dE;have hm:(k.aj.map (pZ i)).length=k.aj.length:=fI ..;refine⟨?_,h.lq,by show 0<=k.hand/\k.hand<((k.frames.set i fN).length:Int);simp_all [hand],?_,?_,?_,?_⟩
 . have:=h.counts
   grind [pB,Dw]
 . show ∀s∈k.aj.map (pZ i),xO k.aR (k.frames.set i fN).length k.slots.length s;rw[hl];intro s hs;obtain⟨s,q,rfl⟩:=tD.1 hs;have g:=h.each s q;exact⟨λd=>⟨(g.dead d).1,by show yU i s.bh=[];rw[(g.dead d).2];rfl⟩,g.aJ,Sj g.lq,λe he=>g.Qs e (Du.1 he).1,g.aR⟩
 . show eU (k.aj.map (pZ i))<=_;rw[Sg (pZ i) (λ_=>rfl)];exact h.room
 . intro n hn;have b:n<k.frames.length:=by rw[<- hl];exact hn
   show nz k.aR (bU (k.aj.map (pZ i)) 1 n) ((k.frames.set i fN).getD n fN);by_cases c:i=n
   . subst c;rw[fh _ _ _ _ b,rZ (pZ i) 1 i _ (λs _=>Ak s.aJ i s.bh)];exact nz.none _
   rw[vh _ _ _ _ _ c,wj (pZ i) 1 n 1 n _ (λs _=>aad s.aJ i 1 n s.bh ω)];exact h.EK n b
 intro n hn;show qC (bU (k.aj.map (pZ i)) 2 n) (bI k.slots n);rw[wj (pZ i) 2 n 2 n _ (λs _=>aad s.aJ i 2 n s.bh ω)];exact h.slt n hn
theorem aW.asQ {k:aT} (h:aW k) {i s:Nat} (hi:i<k.frames.length) (hs:s<k.slots.length) (hf:bU k.aj 2 s=[]):aW (Jn k i s):=by
 have hl:(k.frames.set i fN).length=k.frames.length:=dE;have y:(k.slots.set s ⟨(aM k.frames i).data,(aM k.frames i).refs⟩).length=k.slots.length:=dE;have hm:(k.aj.map (lQ i s)).length=k.aj.length:=fI ..;have B:∀sp∈k.aj,∀e∈sp.bh,¬(e.kind=2/\e.loc=(s:Int)):=λsp q e he g=>by
  have:(e.page,(aV sp.aJ e.page).1.zero)∈bU k.aj 2 s:=rE.2 ⟨sp,q,e,he,g.1,g.2,rfl⟩
  grind
 refine⟨?_,h.lq,by show 0<=k.hand/\k.hand<((k.frames.set i fN).length:Int);simp_all [hand],?_,?_,?_,?_⟩
 . have:=h.counts
   grind [pB,Jn]
 . show ∀sp∈k.aj.map (lQ i s),xO k.aR (k.frames.set i fN).length (k.slots.set s ⟨(aM k.frames i).data,(aM k.frames i).refs⟩).length sp;rw[hl,y];intro sp q;obtain⟨sp,A,rfl⟩:=tD.1 q;have g:=h.each sp A;refine⟨λd=>⟨(g.dead d).1,by show kP i s sp.bh=[];rw[(g.dead d).2];rfl⟩,g.aJ,OY g.lq,λe he=>?_,g.aR⟩;rcases Eo.1 he with x | ⟨x,hx,hc,rfl⟩
   . exact g.Qs e x.1
   exact⟨(g.Qs x hx).1,.inr ⟨rfl,Γ,Γ⟩⟩
 . show eU (k.aj.map (lQ i s))<=((k.slots.set s ⟨(aM k.frames i).data,(aM k.frames i).refs⟩).length:Int);rw[y,Sg (lQ i s) (λ_=>rfl)];exact h.room
 . intro n hn;have b:n<k.frames.length:=by rw[<- hl];exact hn
   show nz k.aR (bU (k.aj.map (lQ i s)) 1 n) ((k.frames.set i fN).getD n fN);by_cases c:i=n
   . subst c;rw[fh _ _ _ _ b,rZ (lQ i s) 1 i _ (λsp _=>Js sp.aJ i s sp.bh)];exact nz.none _
   rw[vh _ _ _ _ _ c,wj (lQ i s) 1 n 1 n _ (λsp _=>MW sp.aJ i s 1 n ω ω sp.bh)];exact h.EK n b
 intro n hn;have b:n<k.slots.length:=by rw[<- y];exact hn
 show qC (bU (k.aj.map (lQ i s)) 2 n) ((k.slots.set s ⟨(aM k.frames i).data,(aM k.frames i).refs⟩).getD n jm);by_cases c:s=n
 . subst c;rw[fh _ _ _ _ b,wj (lQ i s) 2 s 1 i _ (λsp q=>LZ sp.aJ i s sp.bh (B sp q))];have g:=h.EK i hi;exact⟨g.refs,λe=>by rw[g.zero e];rfl,g.one,g.size⟩
 rw[vh _ _ _ _ _ c,wj (lQ i s) 2 n 2 n _ (λsp _=>MW sp.aJ i s 2 n ω ω sp.bh)];exact h.slt n b
theorem aab:∀(n:Nat) (L:List Int),(∀i:Nat,i<n->(i:Int)∈L)->n<=L.length
 | 0,_,_=>yt _
 | n+1,L,h=>by
  have hn:=h n (T3 n);have:=aab n (L.erase (n:Int)) (λi hi=>(Ub ω).2 (h i ω))
  grind
def Ap (ss:List dA):List bJ:=ss.flatMap (·.bh)
theorem Am {hs:List bC} {nf ns:Nat} {s:dA} (g:xO hs nf ns s):(s.bh.length:Int)<=bf s.aJ:=by
 rw[oX g.aJ];have:=oK (cI s.aJ) (s.bh.map (·.page)) g.lq (nZ g.aJ).sorted (λx hx=>by
  obtain⟨e,he,rfl⟩:=tD.1 hx;exact(qd g.aJ _).1 (g.Qs e he).1)
 grind
theorem QH (l r:List dA):∀k,k<=l.length->kG (l++r) k=kG l k:=λk hk=>xE _ _ _ λi hi=>by
 grind [ak]
theorem O7 (l:List dA) (s:dA):eU (l++[s])=eU l+bf s.aJ:=by
 simp[eU,kG,QH,ak]
theorem JH:∀(m:Nat) (l:List dA),l.length=m->(∀s∈l,(s.bh.length:Int)<=bf s.aJ)->((Ap l).length:Int)<=eU l
 | 0,l,h,_=>by
  have:l=[]:=o9 h;subst this;exact vM _
 | m+1,l,h,hs=>by
  have hne:l≠[]:=λe=>by grind
  obtain⟨l',s,rfl⟩:∃l' s,l=l'++[s]:=⟨l.dropLast,l.getLast hne,(ai4 hne).symm⟩;rw[O7];have:=JH m l' Γ (λx hx=>hs x (kJ.2 (.inl hx)))
  grind [Ap]
theorem aW.slot {k:aT} (h:aW k) {i:Nat} (hi:i<k.frames.length) (hr:(aM k.frames i).refs≠0):∃s,A4 k.slots=some s/\s<k.slots.length/\bU k.aj 2 s=[]:=by
 cases hf:A4 k.slots with
 | some s =>
  obtain⟨h1,h2,_⟩:=Uj.1 hf
  grind [bI,slt,qC.nil]
 | none =>
  exfalso;have b:=aa0.1 hf;have y:∀n:Nat,n<k.slots.length->∃e∈Ap k.aj,e.kind=2/\e.loc=(n:Int):=λn hn=>by
   have h1:=b (bI k.slots n) (kT hn);have h2:=(h.slt n hn).refs;have h3:bU k.aj 2 n≠[]:=λe=>by
    grind
   obtain⟨x,hx⟩:=NT _ h3;obtain⟨s,hs,e,he,g1,g2,_⟩:=rE.1 hx;exact⟨e,vO.2 ⟨s,hs,he⟩,g1,g2⟩
  have hp:=aab k.slots.length (((Ap k.aj).filter λe:bJ=>decide (e.kind=2)).map (·.loc)) (λn hn=>by
   grind)
  rw[fI] at hp;have q:=JH _ k.aj rfl (λs hs=>Am (h.each s hs));have A:=h.room;obtain⟨x,hx⟩:=NT _ ((h.EK i hi).ne hr)
  grind [rE,Ap,List.length_filter_eq_length_iff]
theorem aW.aside {k:aT} (h:aW k) {i:Nat} (hi:i<k.frames.length) (hr:(aM k.frames i).refs≠0):aW (eY k i):=by
 grind [eY,slot,asQ,atW]
def eD (s:dA) (es:List bJ):dA:=⟨s.live,s.aJ,es⟩
def dN (k:aT) (e:bJ):aT:=if e.kind=1 then { k with frames:=k.frames.set e.loc.toNat (uo (aM k.frames e.loc.toNat)) } else { k with slots:=k.slots.set e.loc.toNat (w9 (bI k.slots e.loc.toNat)) }
def gK (k:aT) (j:Nat) (e:bJ):aT:={ k with aj:=k.aj.set j (eD (ak k.aj j) (oq (ak k.aj j).bh e)) }
def jw (k:aT) (i:Nat) (d:ByteArray) (dy:Bool):aT:={ k with frames:=k.frames.set i ⟨d,1,dy,false⟩ }
def fe (k:aT) (j:Nat) (p:Int) (i:Nat) (d:ByteArray) (dy:Bool):aT:=match bl (ak k.aj j).bh p with
 | none=>gK (jw k i d dy) j ⟨p,1,i⟩
 | some e=>dN (gK (jw k i d dy) j ⟨p,1,i⟩) e
theorem L3 {ss:List dA} {j:Nat} (hj:j<ss.length) (e:bJ) (hr:kL (ak ss j).bh) (kd a:Int):∃X Y,bU ss kd a=X++(kR (ak ss j).aJ kd a (bl (ak ss j).bh e.page).toList++Y)/\bU (ss.set j (eD (ak ss j) (oq (ak ss j).bh e))) kd a=X++(kR (ak ss j).aJ kd a [e]++Y):=by
 obtain⟨b,post,h1,h2,_,_⟩:=yT (e:=e) hr;obtain⟨u,v,g1,g2⟩:=Cx ss j (eD (ak ss j) (oq (ak ss j).bh e)) kd a hj;refine⟨u++kR (ak ss j).aJ kd a b,kR (ak ss j).aJ kd a post++v,?_,?_⟩
 . grind [Cy,oH]
 rw[g2,Cy];show u++(kR (ak ss j).aJ kd a (oq (ak ss j).bh e)++v)=_
 grind [oH,zQ]
theorem V6 {es:List bJ} (h:kL es) (e:bJ) (p:Int):bl (oq es e) p=if p=e.page then some e else bl es p:=by
 have hp:=Si (e:=e) h;obtain⟨b,post,h1,h2,h3,h4⟩:=yT (e:=e) h
 grind [gZ,tB]
theorem jd (l:List dA) (j n:Nat) (s:dA) (hj:j<l.length):ak (l.set j s) n=if j=n then s else ak l n:=by
 grind [ak]
theorem kV (l:List nA) (j n:Nat) (s:nA) (hj:j<l.length):aM (l.set j s) n=if j=n then s else aM l n:=by
 grind [aM]
theorem AW (l:List qh) (j n:Nat) (s:qh) (hj:j<l.length):bI (l.set j s) n=if j=n then s else bI l n:=by
 grind [bI]
theorem Er (l:List dA) (j:Nat) (s:dA) (hj:j<l.length) (ha:s.aJ=(ak l j).aJ):eU (l.set j s)=eU l:=by
 grind [eU,xE,jd]
structure kX (k:aT) (j:Nat) (p:Int) (i:Nat) (d:ByteArray) (dy:Bool):Prop where
 right:aW k
 hj:j<k.aj.length
 hp:(aV (ak k.aj j).aJ p).2=true
 hi:i<k.frames.length
 free:bU k.aj 1 i=[]
 size:d.size=16
 fill:dy=false->d=gz k.aR p (aV (ak k.aj j).aJ p).1.zero
theorem jn {k:aT} (h:aW k) {j:Nat} (hj:j<k.aj.length) {e:bJ} (he:e∈(ak k.aj j).bh):(e.kind=1/\(e.loc.toNat:Int)=e.loc/\e.loc.toNat<k.frames.length)\/(e.kind=2/\(e.loc.toNat:Int)=e.loc/\e.loc.toNat<k.slots.length):=by
 rcases((h.sp hj).Qs e he).2 with g | g
 . omega
 omega
theorem qA (k:aT) (j:Nat) (p:Int) (i:Nat) (d:ByteArray) (dy:Bool) (m:kX k j p i d dy):(fe k j p i d dy).frames.length=k.frames.length/\(fe k j p i d dy).slots.length=k.slots.length/\(fe k j p i d dy).aR=k.aR/\(fe k j p i d dy).hand=k.hand/\(fe k j p i d dy).aj=k.aj.set j (eD (ak k.aj j) (oq (ak k.aj j).bh ⟨p,1,i⟩)) /\
  (∀n,aM (fe k j p i d dy).frames n=if n=i then ⟨d,1,dy,false⟩ else match bl (ak k.aj j).bh p with
   | some e=>if e.kind=1/\e.loc=(n:Int) then uo (aM k.frames n) else aM k.frames n
   | none=>aM k.frames n) /\
  (∀n,bI (fe k j p i d dy).slots n=match bl (ak k.aj j).bh p with
   | some e=>if e.kind=2/\e.loc=(n:Int) then w9 (bI k.slots n) else bI k.slots n
   | none=>bI k.slots n):=by
 have hr:=(m.right.sp m.hj).lq;unfold fe;cases g:bl (ak k.aj j).bh p with
 | none =>
  refine⟨dE,rfl,rfl,rfl,rfl,λn=>?_,λn=>rfl⟩;show aM (k.frames.set i _) n=_
  grind [kV,kX.hi]
 | some e =>
  have he:=(gZ hr).1 g;have q:e.kind=1->e.loc.toNat≠i:=λh1 h2=>by
   have:=ki m.hj he.1;rcases jn m.right m.hj he.1 with b | b
   . grind [kX.free]
   omega
  dsimp only;unfold dN;rcases jn m.right m.hj he.1 with b | b
  . rw[aC b.1];have q:=q b.1;refine⟨by show((k.frames.set i _).set _ _).length=_;grind,rfl,rfl,rfl,rfl,λn=>?_,λn=>?_⟩
    . show aM ((k.frames.set i _).set _ (uo (aM (k.frames.set i _) _))) n=_
      grind [kV,kX.hi]
    show bI k.slots n=if e.kind=2/\e.loc=(n:Int) then _ else _
    grind
  rw[aB ω];refine⟨dE,dE,rfl,rfl,rfl,λn=>?_,λn=>?_⟩
  . show aM (k.frames.set i _) n=if n=i then _ else if e.kind=1/\e.loc=(n:Int) then _ else _
    grind [kV,kX.hi]
  show bI (k.slots.set _ (w9 (bI k.slots _))) n=if e.kind=2/\e.loc=(n:Int) then _ else _
  grind [AW]
theorem Al {k:aT} {j:Nat} {p:Int} {i:Nat} {d:ByteArray} {dy:Bool} (m:kX k j p i d dy):aW (fe k j p i d dy):=by
 have h:=m.right;have b:=h.sp m.hj;obtain⟨f1,f2,f3,f4,f5,f6,f7⟩:=qA k j p i d dy m;have B:(fe k j p i d dy).aj.length=k.aj.length:=by grind
 refine⟨?_,by rw[f3];exact h.lq,by simp_all [aW.hand],?_,?_,?_,?_⟩
 . have:=h.counts
   grind [pB]
 . rw[f1,f2,f3,f5];intro s hs;rcases ai1 hs with g | rfl
   . exact h.each s g
   refine⟨λdd=>?_,b.aJ,Si b.lq,λe he=>?_,b.aR⟩
   . have:=m.hp;rw[(b.dead dd).1] at this;cases this
   obtain⟨A,post,h1,h2,_,_⟩:=yT (e:=(⟨p,1,i⟩:bJ)) b.lq;rw[show(eD (ak k.aj j) (oq (ak k.aj j).bh ⟨p,1,i⟩)).bh=A++⟨p,1,i⟩::post from h2] at he;have q:∀x,x∈A\/x∈post->x∈(ak k.aj j).bh:=λx hx=>by
    grind
   rcases kJ.1 he with g | g
   . exact b.Qs e (q e (.inl g))
   rcases qZ.1 g with rfl | g
   . exact⟨m.hp,.inl ⟨rfl,Γ,by show(i:Int)<_;have:=m.hi;omega⟩⟩
   exact b.Qs e (q e (.inr g))
 . rw[f2,f5,Er _ _ (eD (ak k.aj j) (oq (ak k.aj j).bh ⟨p,1,i⟩)) m.hj rfl];exact h.room
 . intro n hn;rw[f1] at hn;rw[f3,f5,f6];obtain⟨X,Y,h1,h2⟩:=L3 m.hj ⟨p,1,i⟩ b.lq 1 n;rw[h2];by_cases c:n=i
   . subst c;rw[aC rfl,uB _ (e:=(⟨p,1,n⟩:bJ)) ⟨rfl,rfl⟩];rw[m.free] at h1;have hX:X=[]:=(Ug.1 h1.symm).1;have hY:Y=[]:=(Ug.1 (Ug.1 h1.symm).2).2;subst hX hY;refine⟨rfl,λe=>(by cases e),λx hx y hy=>?_,λ_=>m.size,λe x hx=>?_⟩
     . grind
     grind [kX.fill]
   rw[aB c,pP _ (e:=(⟨p,1,i⟩:bJ)) (λg=>c Γ)];have hf:=h.EK n hn;rw[h1] at hf;cases g:bl (ak k.aj j).bh p with
   | none =>
    rw[g] at hf;exact hf
   | some e =>
    grind [uB,pP,nz.less]
 intro n hn;rw[f2] at hn;rw[f5,f7];obtain⟨X,Y,h1,h2⟩:=L3 m.hj ⟨p,1,i⟩ b.lq 2 n;rw[h2,pP _ (e:=(⟨p,1,i⟩:bJ)) (λg=>Γ)];have hf:=h.slt n hn;rw[h1] at hf;cases g:bl (ak k.aj j).bh p with
 | none =>
  rw[g] at hf;exact hf
 | some e =>
  grind [uB,pP,qC.less]
theorem V7 {i:Int} {es:List bJ} (h:kL es) (p:Int):bl (yU i es) p=(bl es p).filter λe=>!mO i e:=by
 cases g:bl es p with
 | none=>grind [tB,Du]
 | some e =>
  have he:=(gZ h).1 g;by_cases c:e.kind=1/\e.loc=i
  . rw[Option.filter_some,A3.2 c,aB ξ,tB];intro x hx hp;have hx:=Du.1 hx;have:some x=some e:=((gZ h).2 ⟨hx.1,hp⟩).symm.trans g
    grind
  grind [qB,gZ,Sj,Du]
theorem Sa {i s:Int} {es:List bJ} (h:kL es) (p:Int):bl (kP i s es) p=(bl es p).map λe=>if mO i e then ⟨e.page,2,s⟩ else e:=by
 cases g:bl es p with
 | none =>
  grind [tB,Eo]
 | some e =>
  grind [gZ,OY,Eo,qB]
theorem tA (f:dA->dA) (l:List dA) (j:Nat) (hj:j<l.length):ak (l.map f) j=f (ak l j):=Sl f tR tR l j hj
structure gp (k k':aT):Prop where
 aR:k'.aR=k.aR
 nf:k'.frames.length=k.frames.length
 ns:k'.slots.length=k.slots.length
 np:k'.aj.length=k.aj.length
 live:∀j,j<k.aj.length->(ak k'.aj j).live=(ak k.aj j).live
 aJ:∀j,j<k.aj.length->(ak k'.aj j).aJ=(ak k.aj j).aJ
 XK:∀j,j<k.aj.length->∀p,b7 k' j p=b7 k j p
theorem gp.refl (k:aT):gp k k:=⟨rfl,rfl,rfl,rfl,λ_ _=>rfl,λ_ _=>rfl,λ_ _ _=>rfl⟩
theorem gp.trans {a b c:aT} (h:gp a b) (g:gp b c):gp a c :=
 ⟨g.aR.trans h.aR,g.nf.trans h.nf,g.ns.trans h.ns,g.np.trans h.np,λj hj=>(g.live j (by grind [np])).trans (h.live j hj),λj hj=>(g.aJ j (by grind [np])).trans (h.aJ j hj),λj hj p=>(g.XK j (by grind [np]) p).trans (h.XK j hj p)⟩
theorem acd {k:aT} (h:aW k) {i:Nat} (hi:i<k.frames.length) (hd:(aM k.frames i).kE=false):gp k (Dw k i):=by
 refine⟨rfl,dE,rfl,fI ..,λj hj=>?_,λj hj=>?_,λj hj p=>?_⟩
 . show(ak (k.aj.map (pZ i)) j).live=_;rw[tA _ _ _ hj];rfl
 . show(ak (k.aj.map (pZ i)) j).aJ=_;rw[tA _ _ _ hj];rfl
 have b:=h.sp hj;unfold b7;show(match bl (ak (k.aj.map (pZ i)) j).bh p with
  | some e=>if e.kind=1 then (aM (k.frames.set i fN) e.loc.toNat).data else (bI k.slots e.loc.toNat).data
  | none=>gz k.aR p (aV (ak (k.aj.map (pZ i)) j).aJ p).1.zero)=_
 rw[tA _ _ _ hj];show(match bl (yU i (ak k.aj j).bh) p with
  | some e=>if e.kind=1 then (aM (k.frames.set i fN) e.loc.toNat).data else (bI k.slots e.loc.toNat).data
  | none=>gz k.aR p (aV (ak k.aj j).aJ p).1.zero)=_
 rw[V7 b.lq];cases g:bl (ak k.aj j).bh p with
 | none=>rfl
 | some e =>
  have he:=(gZ b.lq).1 g;have hb:=jn h hj he.1;by_cases c:e.kind=1/\e.loc=(i:Int)
  . rw[Option.filter_some,A3.2 c,aB ξ];show _=if e.kind=1 then _ else _
    rw[aC c.1,show e.loc.toNat=i by omega];have:=ki hj he.1;rw[c.1,c.2] at this;have:=(h.EK i hi).fill hd _ this
    grind
  grind [qB,kV]
theorem ab2 {k:aT} (h:aW k) {i s:Nat} (hi:i<k.frames.length) (hs:s<k.slots.length) (hf:bU k.aj 2 s=[]):gp k (Jn k i s):=by
 refine⟨rfl,dE,dE,fI ..,λj hj=>?_,λj hj=>?_,λj hj p=>?_⟩
 . show(ak (k.aj.map (lQ i s)) j).live=_;rw[tA _ _ _ hj];rfl
 . show(ak (k.aj.map (lQ i s)) j).aJ=_;rw[tA _ _ _ hj];rfl
 have b:=h.sp hj;unfold b7;show(match bl (ak (k.aj.map (lQ i s)) j).bh p with
  | some e=>if e.kind=1 then (aM (k.frames.set i fN) e.loc.toNat).data else (bI (k.slots.set s ⟨(aM k.frames i).data,(aM k.frames i).refs⟩) e.loc.toNat).data
  | none=>gz k.aR p (aV (ak (k.aj.map (lQ i s)) j).aJ p).1.zero)=_
 rw[tA _ _ _ hj];show(match bl (kP i s (ak k.aj j).bh) p with
  | some e=>if e.kind=1 then (aM (k.frames.set i fN) e.loc.toNat).data else (bI (k.slots.set s ⟨(aM k.frames i).data,(aM k.frames i).refs⟩) e.loc.toNat).data
  | none=>gz k.aR p (aV (ak k.aj j).aJ p).1.zero)=_
 rw[Sa b.lq];cases g:bl (ak k.aj j).bh p with
 | none=>rfl
 | some e =>
  have he:=(gZ b.lq).1 g
  grind [jn,AW,qB,kV,ki]
theorem YI {k:aT} (h:aW k) {i:Nat} (hi:i<k.frames.length) (hr:(aM k.frames i).refs≠0):gp k (eY k i):=by
 grind [eY,ab2,acd,aW.slot]
theorem YJ (k:aT) (i:Nat):bU (eY k i).aj 1 i=[]:=by
 unfold eY;by_cases c:(aM k.frames i).kE=true
 . rw[aC c];cases A4 k.slots with
   | none=>exact rZ (pZ i) 1 i _ (λs _=>Ak s.aJ i s.bh)
   | some s=>exact rZ (lQ i s) 1 i _ (λsp _=>Js sp.aJ i s sp.bh)
 rw[aB c];exact rZ (pZ i) 1 i _ (λs _=>Ak s.aJ i s.bh)
theorem Iq (k:aT) (i:Nat):(eY k i).frames=k.frames.set i fN/\(eY k i).hand=k.hand:=by
 unfold eY;by_cases c:(aM k.frames i).kE=true
 . rw[aC c];cases A4 k.slots with
   | none=>exact⟨rfl,rfl⟩
   | some s=>exact⟨rfl,rfl⟩
 rw[aB c];exact⟨rfl,rfl⟩
theorem ace {k:aT} (h:aW k) (i:Nat) {j:Nat} (hj:j<k.aj.length) (p:Int) (hn:∀e,bl (ak k.aj j).bh p=some e->¬(e.kind=1/\e.loc=(i:Int))):bl (ak (eY k i).aj j).bh p=bl (ak k.aj j).bh p:=by
 have hr:=(h.sp hj).lq;have hD:bl (ak (k.aj.map (pZ i)) j).bh p=bl (ak k.aj j).bh p:=by
  rw[tA _ _ _ hj];show bl (yU i (ak k.aj j).bh) p=_;rw[V7 hr];cases g:bl (ak k.aj j).bh p with
  | none=>rfl
  | some e=>grind [qB]
 unfold eY;by_cases c:(aM k.frames i).kE=true
 . rw[aC c];cases A4 k.slots with
   | none=>exact hD
   | some s =>
    show bl (ak (k.aj.map (lQ i s)) j).bh p=_;rw[tA _ _ _ hj];show bl (kP i s (ak k.aj j).bh) p=_;rw[Sa hr];cases g:bl (ak k.aj j).bh p with
    | none=>rfl
    | some e=>grind [qB]
 rw[aB c];exact hD
theorem YH {k:aT} (h:aW k) {i:Nat} (hi:i<k.frames.length) (hr:(aM k.frames i).refs≠0) (n:Nat) (hn:bU k.aj 2 n≠[]):bI (eY k i).slots n=bI k.slots n:=by
 unfold eY;by_cases c:(aM k.frames i).kE=true
 . rw[aC c];obtain⟨s,h1,h2,h3⟩:=h.slot hi hr;rw[h1];show bI (k.slots.set s _) n=_
   grind [AW]
 rw[aB c];rfl
theorem G3 {k:aT} {j:Nat} {p:Int} {i:Nat} {d:ByteArray} {dy:Bool} (m:kX k j p i d dy) (hd:d=b7 k j p):gp k (fe k j p i d dy):=by
 have h:=m.right;have J:=h.sp m.hj;have hR:=Al m;obtain⟨f1,f2,f3,f4,f5,f6,f7⟩:=qA k j p i d dy m;have y:∀n,ak (fe k j p i d dy).aj n=if j=n then eD (ak k.aj j) (oq (ak k.aj j).bh ⟨p,1,i⟩) else ak k.aj n:=λn=>by grind [jd,kX.hj]
 have C0:(fe k j p i d dy).aj.length=k.aj.length:=by grind
 refine⟨f3,f1,f2,C0,λn hn=>?_,λn hn=>?_,λn hn q=>?_⟩
 . rw[y];by_cases c:j=n
   . rw[aC c,<- c];rfl
   grind
 . rw[y];by_cases c:j=n
   . rw[aC c,<- c];rfl
   grind
 have G:(ak (fe k j p i d dy).aj n).aJ=(ak k.aj n).aJ:=by
  rw[y];by_cases c:j=n
  . rw[aC c,<- c];rfl
  grind
 have b:bl (ak (fe k j p i d dy).aj n).bh q=if j=n/\q=p then some ⟨p,1,i⟩ else bl (ak k.aj n).bh q:=by
  rw[y];by_cases c:j=n
  . rw[aC c];show bl (oq (ak k.aj j).bh ⟨p,1,i⟩) q=_;rw[V6 J.lq]
    grind
  grind
 by_cases c:j=n/\q=p
 . grind [b7]
 rw[aB c] at b;have B:n<(fe k j p i d dy).aj.length:=by omega
 have L:=h.sp hn;unfold b7;rw[b,G,f3];cases g:bl (ak k.aj n).bh q with
 | none=>rfl
 | some e =>
  have he:=(gZ L.lq).1 g;have hb:=jn h hn he.1;have K:=(gZ (hR.sp B).lq).1 (b.trans g);have NU:=ki B K.1;have M:=ki hn he.1;show(if e.kind=1 then _ else _)=if e.kind=1 then _ else _
  by_cases c1:e.kind=1
  . rw[aC c1,aC c1,f6];have hb:=hb.resolve_right (λx=>ω);have F:e.loc.toNat≠i:=λe1=>by
     grind [kX.free]
    rw[aB F];have hF:=hR.EK e.loc.toNat ω;rw[f6,aB F] at hF;have A:bU (fe k j p i d dy).aj 1 (e.loc.toNat:Int)≠[]:=λe1=>by
     grind
    cases g2:bl (ak k.aj j).bh p with
    | none=>rfl
    | some e2 =>
     rw[g2] at hF;have hF:nz _ _ (if e2.kind=1/\e2.loc=(e.loc.toNat:Int) then uo (aM k.frames e.loc.toNat) else aM k.frames e.loc.toNat):=hF;show(if e2.kind=1/\e2.loc=(e.loc.toNat:Int) then uo (aM k.frames e.loc.toNat) else aM k.frames e.loc.toNat).data=_;by_cases c3:e2.kind=1/\e2.loc=(e.loc.toNat:Int)
     . rw[aC c3] at hF ⊢;unfold uo at hF ⊢;by_cases c4:(aM k.frames e.loc.toNat).refs-1=0
       . rw[aC c4] at hF;exact absurd (hF.nil rfl) A
       grind
     grind
  rw[aB c1,aB c1,f7];have hb:=hb.resolve_left (λx=>c1 x.1);have hF:=hR.slt e.loc.toNat ω;rw[f7] at hF;have A:bU (fe k j p i d dy).aj 2 (e.loc.toNat:Int)≠[]:=λe1=>by
   grind
  cases g2:bl (ak k.aj j).bh p with
  | none=>rfl
  | some e2 =>
   rw[g2] at hF;have hF:qC _ (if e2.kind=2/\e2.loc=(e.loc.toNat:Int) then w9 (bI k.slots e.loc.toNat) else bI k.slots e.loc.toNat):=hF;show(if e2.kind=2/\e2.loc=(e.loc.toNat:Int) then w9 (bI k.slots e.loc.toNat) else bI k.slots e.loc.toNat).data=_;by_cases c3:e2.kind=2/\e2.loc=(e.loc.toNat:Int)
   . rw[aC c3] at hF ⊢;unfold w9 at hF ⊢;by_cases c4:(bI k.slots e.loc.toNat).refs-1=0
     . rw[aC c4] at hF;exact absurd (hF.nil rfl) A
     grind
   grind
end Go.Proofs.YtlgoihmkgaaemaaGreat
