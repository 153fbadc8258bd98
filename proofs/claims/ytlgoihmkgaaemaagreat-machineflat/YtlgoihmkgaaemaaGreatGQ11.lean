import Derived.Test.YtlgoihmkgaaemaaGreatGQ10
set_option maxHeartbeats 20000000
set_option linter.unusedVariables false
set_option maxRecDepth 100000
set_option linter.unusedSimpArgs false
namespace Go.Proofs.YtlgoihmkgaaemaaGreat
open Go.RowKit Tryz
def gY (l:List Int):Bool:=l.all λx=>decide (0<=x/\x<8)
def uv (n:Int):Bool:=decide (n=1\/n=2\/n=4\/n=8)
def eu.bad (i:eu):Bool :=
 if i.op=12 then false
 else if i.op=16 then !(decide (1<=i.m/\i.m<=6))
 else if i.op=1\/i.op=11\/i.op=15 then decide (8<=i.a)
 else if 2<=i.op/\i.op<=7 then decide (8<=i.a\/8<=i.b\/8<=i.c)
 else if i.op=8\/i.op=13\/i.op=14 then decide (8<=i.a\/8<=i.b)
 else if i.op=9\/i.op=10 then decide (8<=i.a\/8<=i.b) || !(uv i.c)
 else true
theorem amv (a:Int) (ha:tJ a):(!gY [a])=decide (8<=a):=by
 grind [tJ,gY]
theorem amu (a b:Int) (ha:tJ a) (hb:tJ b):(!gY [a,b])=decide (8<=a\/8<=b):=by
 grind [tJ,gY]
theorem amt (a b c:Int) (ha:tJ a) (hb:tJ b) (hc:tJ c):(!gY [a,b,c])=decide (8<=a\/8<=b\/8<=c):=by
 grind [tJ,gY]
theorem XX (l:List Int) (k:Nat) (x:Int) (h:l[k]?=some x) (hx:¬(0<=x/\x<8)):gY l=false:=by
 unfold gY;rw[aaM];exact⟨x,List.mem_of_getElem? h,Γ⟩
theorem U4 (l:List Int) (h:∀(k:Nat) (x:Int),l[k]?=some x->0<=x/\x<8):gY l=true:=by
 grind [gY,List.getElem?_of_mem]
structure bT where
 r:Nat->Int
 pc:Int
 st:Int
 cd:Int
 fk:Int
 fa:Int
def bT.row (p:bT):Array Value:=#[I (p.r 0),I (p.r 1),I (p.r 2),I (p.r 3),I (p.r 4),I (p.r 5),I (p.r 6),I (p.r 7),I p.pc,I p.st,I p.cd,I p.fk,I p.fa]
def bT.val (p:bT):Value:=.agg p.row
def bT.set (p:bT) (j:Nat) (v:Int):bT:={ p with r:=λk=>if k=j then v else p.r k }
variable {w':World} (l:List aX) (p:bT)
theorem MG (j:Nat) (v:Int) (h:j<8):p.row.setIfInBounds j (I v)=(p.set j v).row:=by
 match j,h with
 | 0,_=>rfl
 | 1,_=>rfl
 | 2,_=>rfl
 | 3,_=>rfl
 | 4,_=>rfl
 | 5,_=>rfl
 | 6,_=>rfl
 | 7,_=>rfl
theorem MH (j:Nat) (h:j<8):p.row[j]?=some (I (p.r j)):=by
 match j,h with
 | 0,_=>rfl
 | 1,_=>rfl
 | 2,_=>rfl
 | 3,_=>rfl
 | 4,_=>rfl
 | 5,_=>rfl
 | 6,_=>rfl
 | 7,_=>rfl
theorem CW (v:Int):p.row.setIfInBounds 8 (I v)=({ p with pc:=v }:bT).row:=rfl
theorem CV (v:Int):p.row.setIfInBounds 9 (I v)=({ p with st:=v }:bT).row:=rfl
theorem CX (v:Int):p.row.setIfInBounds 10 (I v)=({ p with cd:=v }:bT).row:=rfl
theorem yc:p.row.size=13:=rfl
theorem CU:(∀(q:bT) (h:0<q.row.size),q.row[0]=I (q.r 0))/\(∀(q:bT) (h:1<q.row.size),q.row[1]=I (q.r 1))/\(∀(q:bT) (h:2<q.row.size),q.row[2]=I (q.r 2))/\(∀(q:bT) (h:3<q.row.size),q.row[3]=I (q.r 3))/\(∀(q:bT) (h:4<q.row.size),q.row[4]=I (q.r 4))/\(∀(q:bT) (h:5<q.row.size),q.row[5]=I (q.r 5))/\(∀(q:bT) (h:6<q.row.size),q.row[6]=I (q.r 6))/\(∀(q:bT) (h:7<q.row.size),q.row[7]=I (q.r 7))/\(∀(q:bT) (h:8<q.row.size),q.row[8]=I q.pc)/\(∀(q:bT) (h:9<q.row.size),q.row[9]=I q.st)/\(∀(q:bT) (h:10<q.row.size),q.row[10]=I q.cd)/\(∀(q:bT) (h:11<q.row.size),q.row[11]=I q.fk)/\(∀(q:bT) (h:12<q.row.size),q.row[12]=I q.fa):=⟨λq h=>rfl,λq h=>rfl,λq h=>rfl,λq h=>rfl,λq h=>rfl,λq h=>rfl,λq h=>rfl,λq h=>rfl,λq h=>rfl,λq h=>rfl,λq h=>rfl,λq h=>rfl,λq h=>rfl⟩
theorem MI (n:Nat) (hn:n<8):(∀(q:bT) (v:Int),q.row.setIfInBounds n (I v)=(q.set n v).row)/\(∀(q:bT),q.row[n]?=some (I (q.r n)))/\(∀(q:bT) (h:n<q.row.size),q.row[n]=I (q.r n)):=⟨λq v=>MG q n v hn,λq=>MH q n hn,λq h=>aaH ((ai0 h).symm.trans (MH q n hn))⟩
theorem abe (n:Int):bits .and .u64 (IntKind.u64.wrap n) 63=n%64:=by
 have b:(BitVec.ofInt 64 63).toNat=2 ^ 6-1:=by decide
 have q:(BitVec.ofInt 64 (IntKind.u64.wrap n) &&& BitVec.ofInt 64 63).toNat=((IntKind.u64.wrap n)%((2 ^ 64:Nat):Int)).toNat%2 ^ 6:=by
  rw[BitVec.toNat_and,BitVec.toNat_ofInt,b,ai5]
 show IntKind.u64.wrap ((BitVec.ofInt 64 (IntKind.u64.wrap n) &&& BitVec.ofInt 64 63).toNat:Nat)=n%64
 grind [IntKind.wrap_u64]
theorem abf (n:Int):bits .and .i64 n 63=n%64:=by
 have b:(BitVec.ofInt 64 63).toNat=2 ^ 6-1:=by decide
 have q:(BitVec.ofInt 64 n &&& BitVec.ofInt 64 63).toNat=(n%((2 ^ 64:Nat):Int)).toNat%2 ^ 6:=by
  rw[BitVec.toNat_and,BitVec.toNat_ofInt,b,ai5]
 show IntKind.i64.wrap ((BitVec.ofInt 64 n &&& BitVec.ofInt 64 63).toNat:Nat)=n%64
 grind [IntKind.wrap_i64]
def Ru (op b c:Int):Int :=
 if op=2 then wrap64 (b+c) else if op=3 then wrap64 (b-c) else if op=4 then wrap64 (b*c) else if op=5 then bits .and .i64 b c else if op=6 then bits .xor .i64 b c
 else wrap64 (IntKind.u64.wrap b/2 ^ min (c%64).toNat 64)
def eN (p:bT) (i:eu) (v:Int):bT :=
 let nx:bT:={ p with pc:=wrap64 (p.pc+8) }
 let tgt:Int:=wrap64 (p.pc+i.m)
 if i.op=1 then nx.set i.a.toNat i.m
 else if 2<=i.op/\i.op<=7 then nx.set i.a.toNat (Ru i.op (p.r i.b.toNat) (p.r i.c.toNat))
 else if i.op=8 then nx.set i.a.toNat (wrap64 (p.r i.b.toNat+i.m))
 else if i.op=9 then nx.set i.a.toNat v
 else if i.op=10 then nx
 else if i.op=11 then nx.set i.a.toNat tgt
 else if i.op=12 then { p with pc:=tgt }
 else if i.op=13 then (if p.r i.a.toNat=p.r i.b.toNat then { p with pc:=tgt } else nx)
 else if i.op=14 then (if p.r i.a.toNat<p.r i.b.toNat then { p with pc:=tgt } else nx)
 else if i.op=15 then { p with pc:=p.r i.a.toNat }
 else if i.m=6 then { nx with st:=2,cd:=p.r 0 }
 else if i.m=1 then nx
 else nx.set 0 v
def ru (p:bT) (i:eu):Array Value :=
 if i.bad then #[I 4,I 0,I 0,I 0,I 0]
 else if i.op=9 then #[I 1,I (wrap64 (p.r i.b.toNat+i.m)),I i.c,I 0,I 0]
 else if i.op=10 then #[I 2,I (wrap64 (p.r i.b.toNat+i.m)),I i.c,I (p.r i.a.toNat),I 0]
 else if i.op=16 then #[I 3,I 0,I 0,I 0,I i.m]
 else #[I 0,I 0,I 0,I 0,I 0]
open Go.RowKit
structure dK where
 page:Int
 data:ByteArray
variable {ps:List dK}
structure ek where
 live:Bool
 aJ:List aX
 aD:List dK
structure uN where
 proc:Int
 value:Int
structure ky where
 slots:Int
 aj:List ek
 procs:List bT
 out:List uN
def zk:dK:=⟨0,⟨#[]⟩⟩
def Kh:ek:=⟨false,[],[]⟩
def aiP:uN:=⟨0,0⟩
def Hz:bT:=⟨λ_=>0,0,0,0,0,0⟩
def bo (l:List dK) (i:Nat):dK:=l.getD i zk
def aI (l:List ek) (i:Nat):ek:=l.getD i Kh
def qM (l:List uN) (i:Nat):uN:=l.getD i aiP
def aO (l:List bT) (i:Nat):bT:=l.getD i Hz
def zX (p:bT):Bool:=decide (p.fk=0/\p.fa=0)
def eV (p:bT):Bool:=if p.st=1 then decide (p.cd=0)&&zX p else if p.st=2 then zX p else if p.st=3 then decide (p.cd=0)&&decide (1<=p.fk/\p.fk<=4) else false
def pR (l:List dK):Bool:=l.all λp=>decide (p.data.size=16)
def bX (l:List dK):List Int:=l.map (·.page)
def bW (s:ek):Bool:=if s.live then decide (bj s.aJ=0)&&(decide (bX s.aD=cI s.aJ)&&pR s.aD) else decide (s.aJ.length=0)&&decide (s.aD.length=0)
def mr (l:List ek):Nat->Int
 | 0=>0
 | k+1=>mr l k+bf (aI l k).aJ
def fu (l:List ek):Int:=mr l l.length
def mJ (f:ky):Bool:=decide (1<=f.aj.length/\f.aj.length<=4)&&(decide (f.procs.length=f.aj.length)&&(decide (0<=f.slots/\f.slots<=512)&&decide (f.out.length<=2000)))
def mI (f:ky):Bool:=f.aj.all bW&&decide (fu f.aj<=f.slots)
def Xb (f:ky) (i:Nat):Bool:=(aI f.aj i).live==decide ((aO f.procs i).st=1)
def qj (f:ky):Bool:=(List.range f.procs.length).all (λi=>eV (aO f.procs i)&&Xb f i)&&f.out.all (λo=>decide (0<=o.proc/\o.proc<(f.procs.length:Int)))
def fQ (f:ky):Int:=if mJ f=false then 2 else if mI f&&qj f then 0 else 1
def P5 (s:ek):Prop:=(s.aD.length:Int)=bf s.aJ/\∀k,k<s.aD.length->(aV s.aJ (bo s.aD k).page).2=true/\(0<k->(bo s.aD (k-1)).page<(bo s.aD k).page)/\(bo s.aD k).data.size=16
def P4 (s:ek):Prop:=(s.live=false->s.aJ.length=0/\s.aD.length=0)/\bj s.aJ=0/\P5 s
theorem xW:∀(l:List Int),(∀k,0<k->k<l.length->l.getD (k-1) 0<l.getD k 0)->l.Pairwise (·<·)
 | [],_=>List.Pairwise.nil
 | [a],_=>List.pairwise_singleton _ _
 | a::b::r,h=>by
  have ih:=xW (b::r) (λk h1 h2=>by
   have:=h (k+1) ω Γ
   grind)
  have h0:a<b:=h 1 ω ξ
  grind [List.pairwise_cons]
theorem DJ {l:List Int} (h:l.Pairwise (·<·)) (k:Nat) (h1:0<k) (h2:k<l.length):l.getD (k-1) 0<l.getD k 0:=by
 grind [List.pairwise_iff_getElem]
theorem AG (l:List dK) (k:Nat):(bX l).getD k 0=(bo l k).page:=by
 unfold bX bo;rw[cB,cB,vQ];cases l[k]? <;> rfl
theorem vH {l:List dK} {k:Nat} (h:k<l.length):bo l k∈l:=by
 grind [bo]
theorem vI {l:List dK} {p:dK} (h:p∈l):∃k,k<l.length/\bo l k=p:=by
 grind [List.getElem?_of_mem,List.getElem?_eq_none,bo]
theorem Mu {s:ek} (hc:bj s.aJ=0):P5 s↔bX s.aD=cI s.aJ/\pR s.aD=true:=by
 have b:(bX s.aD).length=s.aD.length:=fI _;have q:pR s.aD=true↔∀p∈s.aD,p.data.size=16:=by
  grind [pR]
 rw[q,<- Zu hc,b];constructor
 . rintro⟨h1,h2⟩;refine⟨⟨h1,λx hx=>?_,xW _ (λk g1 g2=>?_)⟩,λp hp=>?_⟩
   . obtain⟨p,hp,rfl⟩:=tD.1 hx
     grind [vI]
   . grind [AG]
   grind [vI]
 rintro⟨⟨h1,h2,h3⟩,h4⟩;refine⟨h1,λk hk=>⟨h2 _ (aaT (vH hk)),λg=>?_,h4 _ (vH hk)⟩⟩;have:=DJ h3 k g ω
 grind [AG]
theorem Zv (s:ek):P4 s↔bW s=true:=by
 unfold P4 bW;cases hl:s.live with
 | true =>
  grind [Mu]
 | false =>
  simp only[Ky,qY,cK,fX];constructor
  . grind
  rintro⟨h1,h2⟩;have ha:s.aJ=[]:=NP.1 h1;have hp:s.aD=[]:=NP.1 h2;have hc:bj s.aJ=0:=by rw[ha];rfl
  refine⟨λ_=>⟨h1,h2⟩,hc,(Mu hc).2 ⟨by rw[ha,hp];rfl,by rw[hp];rfl⟩⟩
theorem Zr {s:ek} (h:bW s=true):(s.aD.length:Int)=bf s.aJ:=((Zv s).2 h).2.2.1
theorem vE:∀(n:Nat) (p:Int),jT p (n+1)=jT p n++[p+(n:Int)]
 | 0,p=>by show [p]=[]++[p+0];rw[Gj];rfl
 | n+1,p=>by
  show p::jT (p+1) (n+1)=(p::jT (p+1) n)++[p+((n+1:Nat):Int)];rw[vE n (p+1),D5,show p+1+(n:Int)=p+((n+1:Nat):Int) by omega]
theorem adm (p:Int) (n m:Nat) (h:n<m):∃t,jT p m=jT p n++(p+(n:Int))::t:=by
 induction m with
 | zero=>omega
 | succ m ih =>
  by_cases e:n=m
  . subst e;exact⟨[],vE n p⟩
  obtain⟨t,ht⟩:=ih ω;exact⟨t++[p+(m:Int)],by rw[vE,ht];simp⟩
theorem zl:∀a b:List aX,cI (a++b)=cI a++cI b
 | [],b=>rfl
 | x::a,b=>by
  show jT x.page x.aD.toNat++cI (a++b)=(jT x.page x.aD.toNat++cI a)++cI b;rw[zl a b,uH]
def iV (l:List aX) (i:Nat):List Int:=cI (l.take i)
theorem xL (i:Nat) (h:i<l.length):iV l (i+1)=iV l i++jT (bw l i).page (bw l i).aD.toNat:=by
 unfold iV;rw[Ui h,zl];have e:bw l i=l[i]:=by
  unfold bw;rw[cB,fF h];rfl
 rw[e];show _++(jT l[i].page l[i].aD.toNat++[])=_;rw[Ch]
theorem W9 (i:Nat) (hi:i<l.length) (n:Nat) (hn:n<(bw l i).aD.toNat):∃t,cI l=(iV l i++jT (bw l i).page n)++((bw l i).page+(n:Int))::t:=by
 obtain⟨u,hu⟩:=adm (bw l i).page n _ hn;have h1:=xL l i hi;refine⟨u++cI (l.drop (i+1)),?_⟩;have h2:cI l=iV l (i+1)++cI (l.drop (i+1)):=by
  unfold iV;rw[<- zl,NR]
 rw[h2,h1,hu];simp
theorem Xa:iV l l.length=cI l:=by
 unfold iV;rw[qJ]
def qG (l:List aX) (ps:List dK):Bool:=decide (bX ps=cI l)&&pR ps
theorem PZ (ps:List dK) (c:Nat) (h:c<ps.length):ps.take (c+1)=ps.take c++[bo ps c]:=by
 rw[Ui h];unfold bo;rw[cB,fF h];rfl
theorem Iy (ps:List dK) (c:Nat) (h:c<ps.length):bX (ps.take (c+1))=bX (ps.take c)++[(bo ps c).page]:=by
 rw[PZ ps c h];unfold bX;rw[tF];rfl
theorem Zq (ps:List dK) (c:Nat) (h:c<ps.length) (h1:pR (ps.take c)=true) (h2:(bo ps c).data.size=16):pR (ps.take (c+1))=true:=by
 rw[PZ ps c h];unfold pR at h1 ⊢;rw[aaG,h1];simp[h2]
theorem Zw {l:List aX} {pre t:List Int} {x:Int} (hp:bX (ps.take ps.length)=pre) (ho:cI l=pre++x::t):qG l ps=false:=by
 unfold qG;rw[fE,yw];intro e;rw[qJ] at hp;rw[hp,ho] at e;have:=dC List.length e;simp at this
theorem Zx {l:List aX} {pre t:List Int} {x:Int} {c:Nat} (hc:c<ps.length) (hp:bX (ps.take c)=pre) (ho:cI l=pre++x::t) (hx:(bo ps c).page≠x):qG l ps=false:=by
 unfold qG;rw[fE,yw];intro e;have h1:=Iy ps c hc;rw[hp] at h1;have h2:bX ps=bX (ps.take (c+1))++bX (ps.drop (c+1)):=by unfold bX;rw[<- tF,NR]
 rw[h2,h1,ho,uH] at e;have:=List.append_cancel_left e;simp at this;exact hx this.1
theorem adn {l:List aX} {c:Nat} (hc:c<ps.length) (hx:(bo ps c).data.size≠16):qG l ps=false:=by
 unfold qG;have:pR ps=false:=by
  unfold pR;rw[aaM];exact⟨bo ps c,vH hc,by simpa using hx⟩
 rw[this,TS]
theorem ado {l:List aX} {c:Nat} (hc:c<=ps.length) (hp:bX (ps.take c)=iV l l.length) (hs:pR (ps.take c)=true):qG l ps=decide (c=ps.length):=by
 unfold qG;rw[Xa] at hp;by_cases e:c=ps.length
 . subst e;rw[qJ] at hp hs;rw[fD hp,fD rfl,hs];rfl
 rw[fE e,fE,yw];intro g;rw[<- hp] at g;have:=dC List.length g;unfold bX at this;rw[fI,fI,o7] at this;omega
theorem Zp (s:ek):bW s=if s.live then decide (bj s.aJ=0)&&qG s.aJ s.aD else decide (s.aJ.length=0)&&decide (s.aD.length=0):=rfl
def yo (l:List bT) (lv:Nat->Bool) (k:Nat):Bool:=eV (aO l k)&&lv k==decide ((aO l k).st=1)
def nV (l:List bT) (lv:Nat->Bool):Nat->Bool
 | 0=>true
 | k+1=>nV l lv k&&yo l lv k
def DI (o:uN) (n:Nat):Bool:=decide (0<=o.proc/\o.proc<(n:Int))
def lZ (o:List uN) (n:Nat):Nat->Bool
 | 0=>true
 | k+1=>lZ o n k&&DI (qM o k) n
theorem Ki {l:List bT} {lv:Nat->Bool} {k:Nat} (h:nV l lv k=false):∀n,k<=n->nV l lv n=false
 | 0, hn => by obtain rfl:k=0 := by omega
               exact h
 | n+1,hn=>by
  by_cases e:k=n+1
  . subst e;exact h
  show(nV l lv n&&_)=false;rw[Ki h n ω,yw]
theorem Kg {o:List uN} {m k:Nat} (h:lZ o m k=false):∀n,k<=n->lZ o m n=false
 | 0, hn => by obtain rfl:k=0 := by omega
               exact h
 | n+1,hn=>by
  by_cases e:k=n+1
  . subst e;exact h
  show(lZ o m n&&_)=false;rw[Kg h n ω,yw]
theorem CP (l:List bT) (lv:Nat->Bool):∀n,(List.range n).all (λi=>yo l lv i)=nV l lv n
 | 0=>rfl
 | n+1=>by
  rw[NM,aaG,CP l lv n];show(nV l lv n&&(yo l lv n&&true))=(nV l lv n&&yo l lv n);rw[Bool.and_true]
theorem Mt (o:List uN) (m:Nat):∀n,n<=o.length->(o.take n).all (λx=>DI x m)=lZ o m n
 | 0,_=>rfl
 | n+1,h=>by
  rw[Ui (ω:n<o.length),aaG,Mt o m n ω];have e:qM o n=o[n]:=by
   unfold qM;rw[cB,fF (ω:n<o.length)];rfl
  show(lZ o m n&&(DI o[n] m&&true))=(lZ o m n&&DI (qM o n) m);rw[Bool.and_true,e]
theorem Hx (o:List uN) (m:Nat):o.all (λx=>DI x m)=lZ o m o.length:=by
 rw[<- Mt o m o.length (aK _),qJ]
def iO (l:List bT) (o:List uN) (lv:Nat->Bool):Bool:=nV l lv l.length&&lZ o l.length o.length
theorem Zt (f:ky):qj f=iO f.procs f.out (λk=>(aI f.aj k).live):=by
 unfold iO;rw[<- CP,<- Hx];rfl
theorem ai {p:Prop} (h:p):Hid p:=h
theorem bq {w w1 w2:World} (h1:Below w.heap.size w w1) (h2:Below w1.heap.size w1 w2):Below w.heap.size w w2:=h1.trans (h2.mono h1.size)
def zW (way:Int):Int:=if way=1 then 1 else if way=2 then 2 else 0
theorem adk (way:Int) (w:World):Calls prog 289 #[I way] w λe w'=>e=.returned (I (zW way))/\w=w':=by
 unfold zW;by_cases h1:way=1
 . subst h1;go_enter func289,ntmps289;go_wp2;go_ret
   simp_all
 rw[aB h1];have b:(way==1)=false:=by grind
 by_cases h2:way=2
 . subst h2;go_enter func289,ntmps289;go_wp2;go_ret
   simp_all
 rw[aB h2];have q:(way==2)=false:=by grind
 clear h1 h2;go_enter func289,ntmps289;go_wp2;go_ret
 simp_all
theorem Zl (p way:Int) (h0:0<=p) (h3:p<=3):(bits BinOp.and IntKind.i64 p (zW way)==zW way)=!(ua p way):=by
 have hp:p=0\/p=1\/p=2\/p=3:=by omega
 unfold zW ua;by_cases h1:way=1
 . subst h1;rcases hp with rfl | rfl | rfl | rfl <;> decide
 by_cases h2:way=2
 . subst h2;rcases hp with rfl | rfl | rfl | rfl <;> decide
 rw[aB h1,aB h2];simp only[h1,h2,false_and,or_self,decide_false,aaD];rcases hp with rfl | rfl | rfl | rfl <;> decide
theorem aiN (x y:Int) (V:World):(Op.equalIn 10000 75 (.agg #[I x,I y]) (.agg #[I 0,I 0])).run prog V=.ok (decide (x=0/\y=0)) V:=by
 by_cases h1:x=0
 . by_cases h2:y=0
   . subst h1;subst h2;simp[go_sem]
   have hq:=gT.2 h2;have hd:decide (x=0/\y=0)=false:=fE (λg=>h2 g.2);rw[hd];subst h1;simp[go_sem,hq]
 have hq:=gT.2 h1;have hd:decide (x=0/\y=0)=false:=fE (λg=>h1 g.1);rw[hd];simp[go_sem,hq]
theorem Q9 (w:World):Calls prog 146 #[p.val] w λe w'=>e=.returned (.bool (eV p))/\Below w.heap.size w w':=by
 obtain⟨r,pc,st,cd,fk,fa⟩:=p;obtain⟨A,hA⟩:=ex (eV ⟨r,pc,st,cd,fk,fa⟩);rw[<- hA];unfold eV zX at hA;simp only at hA;have HA:=ai hA;clear hA;unfold bT.val bT.row;simp only;have b:=λV=>aiN fk fa V
 rcases(show(st=1/\cd=0)\/(st=1/\(cd==0)=false)\/st=2\/(st=3/\cd=0/\1<=fk)\/(st=3/\cd=0/\¬1<=fk)\/(st=3/\(cd==0)=false)\/((st==1)=false/\(st==2)=false/\(st==3)=false) by simp;omega) with⟨rfl,rfl⟩ | ⟨rfl,h⟩ | rfl | ⟨rfl,rfl,h⟩ | ⟨rfl,rfl,h⟩ | ⟨rfl,h⟩ | ⟨h1,h2,h3⟩
 all_goals
  go_enter func146,ntmps146;go_wp2;go_ret;clear b;exact⟨by rw[HA.o];clear HA;first | (simp_all;done) | (simp_all;omega),(aN _ _).alloc (aK _) _⟩
def PY (w:World) (b off:Nat) (l:List dK):Prop:=∀i,i<l.length->w.cell? (Ad b (off+i*2))=some (I (bo l i).page)/\w.cell? (Ad b (off+i*2+1))=some (.string (bo l i).data)
theorem ajO {w:World} {b off:Nat} {l:List dK} (hb:Below w.heap.size w w') (hlt:b<w.heap.size) (h:PY w b off l):PY w' b off l:=λi hi=>by
 obtain⟨c0,c1⟩:=h i hi
 grind [cJ]
def rU (w:World) (ao:Option Addr) (l:List dK):Prop:=dG PY w ao l
theorem rU.below {w:World} {ao:Option Addr} {l:List dK} (h:rU w ao l) (hb:Below w.heap.size w w'):rU w' ao l:=dG.below (lie:=PY) (λhb hlt h=>ajO hb hlt h) h hb
def Uz (w:World) (b off:Nat) (l:List ek):Prop:=∀i,i<l.length->∃va ap cp,w.cell? (Ad b (off+i*3))=some (.bool (aI l i).live)/\w.cell? (Ad b (off+i*3+1))=some va/\w.cell? (Ad b (off+i*3+2))=some (.slice ap (aI l i).aD.length cp)/\gD w va (aI l i).aJ/\rU w ap (aI l i).aD/\(aI l i).aD.length<=cp
theorem apk {w:World} {b off:Nat} {l:List ek} (hb:Below w.heap.size w w') (hlt:b<w.heap.size) (h:Uz w b off l):Uz w' b off l:=λi hi=>by
 obtain⟨va,ap,cp,c0,c1,c2,c3,c4,c5⟩:=h i hi;exact⟨va,ap,cp,(cJ hb hlt).trans c0,(cJ hb hlt).trans c1,(cJ hb hlt).trans c2,c3.below hb,c4.below hb,c5⟩
def CO (w:World) (ao:Option Addr) (l:List ek):Prop:=dG Uz w ao l
theorem CO.below {w:World} {ao:Option Addr} {l:List ek} (h:CO w ao l) (hb:Below w.heap.size w w'):CO w' ao l:=dG.below (lie:=Uz) (λhb hlt h=>apk hb hlt h) h hb
structure UB (s:ek):Prop where
 aJ:dQ s.aJ
 aD:bD s.aD.length
 page:∀k,k<s.aD.length->cH (bo s.aD k).page/\bD (bo s.aD k).data.size
def Kf (l:List ek):Prop:=bD l.length/\∀k,k<l.length->UB (aI l k)
theorem oW:0<=bf l/\bf l<=65025:=by
 unfold bf;split
 . rename_i h
   have h1:=jF l h;have h2:=EI l h l.length (aK _);omega
 omega
theorem Hv (l:List ek):∀k,0<=mr l k/\mr l k<=65025*k
 | 0=>⟨vM _,by show(0:Int)<=_;omega⟩
 | k+1=>by
  have h1:=Hv l k;have h2:=oW (aI l k).aJ
  grind [mr]
theorem adl {w:World} {v:Value} {l:List aX} (h:gD w v l):∃ao n c,v=.slice ao n c:=by
 obtain⟨ao,cap,h,_⟩:=h
 grind
theorem Hu (l:List ek) (ao:Option Addr) (cap:Nat) (w:World) (h:CO w ao l) (hf:Kf l) (hn:l.length<=1000000) :
  Calls prog 213 #[.slice ao l.length cap] w λe w'=>e=.returned (I (fu l))/\Below w.heap.size w w':=by
 have HF:=ai hf;have HH:=ai h;have Pw:=ai (Hv l);have Tu:Hid (∀k,mr l (k+1)=mr l k+bf (aI l k).aJ):=λk=>rfl
 clear h hf;go_enter func213,ntmps213;go_wp2;go_loopw [3,8] (λsv iv wr=>∃k:Nat,k<=l.length/\iv=I (k:Int)/\sv=I (mr l k)/\Below w.heap.size w wr) (λ_ iv _=>l.length-(intOf iv).toNat)
 case atStart=>exact⟨0,ω,rfl,rfl,aN _ _⟩
 case round =>
  obtain⟨k,hk,rfl,rfl,hb⟩:=hrel;have HB:=ai hb;have Lg:=Pw.o k;by_cases hlt:k<l.length
  . obtain⟨b,off,F,J,di⟩:=(HH.o.below hb) ω;subst F;obtain⟨va,ap,cp,c0,c1,c2,c3,c4,c5⟩:=di k hlt;have Qf:=HF.o.2 k hlt;have q:=Tu.o k;have G:=oW (aI l k).aJ;obtain⟨aa,na,ca,rfl⟩:=adl c3;have HT:Hid (∀W,Below wr.heap.size wr W->Calls prog 70 #[.slice aa na ca] W λe w'=>e=.returned (I (bf (aI l k).aJ))/\Below W.heap.size W w'):=λW hW=>rW _ _ _ (c3.below hW) Qf.aJ
    obtain⟨lv,A⟩:=ex ((aI l k).live);obtain⟨T,hT⟩:=ex (bf (aI l k).aJ);obtain⟨R,hR⟩:=ex (mr l k);generalize (aI l k).aD.length=n at c2 c5;rw[<- A] at c0;rw[<- hT] at HT q G;rw[<- hR] at q Lg ⊢;have B:=ai q;clear A hT hR c3 c4 c5 Qf di hb q;have iQ:=ai (HB.o.alloc HB.o.size (.cells #[.bool lv,.slice aa na ca,.slice ap n cp] 142));go_wp2_with (go_at_call 70;refine(HT.o _ ((aN _ _).alloc (aK _) _)).mono ?_;rintro e w1 ⟨rfl,y⟩;have cD:=ai (bq iQ.o y);clear y);go_roundw
    case rel=>exact⟨k+1,ω,by go_num,by rw[B.o],cD.o⟩
    case measure=>simp[intOf];omega
  obtain rfl:k=l.length:=by omega
  clear hb;go_wp2;go_ret;exact⟨rfl,HB.o⟩
theorem gq {a b:Bool} (h:a=b):Ending.returned (.bool a)=.returned (.bool b):=by rw[h]
theorem SJ {a a':Option Addr} {n n' m m':Nat} (h1:a=a') (h2:n=n') (h3:m=m'):Value.slice a n m=.slice a' n' m':=by rw[h1,h2,h3]
theorem W7 (hs:List dK) (lv:Bool) (va:Value) (ao:Option Addr) (cap:Nat) (w:World) (ha:gD w va l) (hc:bj l=0) (h:rU w ao hs) (hz:∀k,k<hs.length->bD (bo hs k).data.size) (hn:hs.length<=140737488351232) (hcap:hs.length<=cap) :
  Calls prog 228 #[.agg #[.bool lv,va,.slice ao hs.length cap]] w λe w'=>e=.returned (.bool (qG l hs))/\Below w.heap.size w w':=by
 obtain⟨b,off,N⟩:∃b off,0<hs.length->ao=some (Ad b off)/\b<w.heap.size/\PY w b off hs:=by
  by_cases h0:0<hs.length
  . obtain⟨b,off,h1,h2,h3⟩:=h h0;exact⟨b,off,λ_=>⟨h1,h2,h3⟩⟩
  exact⟨0,0,λg=>(h0 g).elim⟩
 have R:=ai N;have HC:=ai hc;have HZ:=ai hz;clear hz;have Y:=jF l hc;obtain⟨aa,ca,rfl,U⟩:=ha;have QW:Hid (0<l.length->∃b off,aa=some (Ad b off)/\Ae w b off l):=λg=>by
  rcases U with rfl | ⟨b,off,e,hl⟩
  . exact(Nat.lt_irrefl 0 g).elim
  exact⟨b,off,e,hl⟩
 clear N hc h U;have HB:=ai ((aN w.heap.size w).alloc (aK _) (.cells #[.bool lv,.slice aa l.length ca,.slice ao hs.length cap] 142));go_enter func228,ntmps228;go_wp2;go_loopw [12,3] (λix v wr=>∃(i c:Nat) (Fl:Option Addr),i<=l.length/\ix=I i/\v=.slice Fl (hs.length-c) (cap-c)/\c<=hs.length/\(c<hs.length->Fl=some (Ad b (off+c*2)))/\bX (hs.take c)=iV l i/\pR (hs.take c)=true/\Below w.heap.size w wr) (λix _ _=>l.length-(intOf ix).toNat)
 case atStart=>exact⟨0,0,ao,ω,rfl,rfl,ω,λg=>by rw[(R.o g).1,NC,lB],rfl,rfl,HB.o⟩
 case round =>
  obtain⟨i,c,Fl,hi,rfl,rfl,K,B,G,A,hb⟩:=hrel;have F:=ai A;clear A;have J:=ai B;have q:=ai G;have wQ:=ai hb;clear B G;by_cases hlt:i<l.length
  . obtain⟨ba,a0,y,hl⟩:=QW.o ω;subst y;obtain⟨c0,c1,c2,c3⟩:=(hl.below hb) i hlt;have O:=ig l i (gP l HC.o i hlt);have Ir:Hid (∀n,n<(bw l i).aD.toNat->∃t,cI l=(iV l i++jT (bw l i).page n)++((bw l i).page+(n:Int))::t):=λn hn=>W9 l i hlt n hn
    have zB:Hid (iV l (i+1)=iV l i++jT (bw l i).page (bw l i).aD.toNat):=xL l i hlt;obtain⟨a,y⟩:=ex (bw l i);rw[<- y] at c0 c1 c2 c3 O Ir zB;clear y hb;obtain⟨P,hP⟩:∃P:Nat,a.aD=(P:Int):=⟨a.aD.toNat,ω⟩;rw[hP] at c1 O Ir zB;rw[jW] at Ir zB;have iQ:=ai (wQ.o.alloc wQ.o.size (.cells #[I a.page,I (P:Int),I a.jP,.bool a.zero] 139));have BA:=ai (bH wr #[I a.page,I (P:Int),I a.jP,.bool a.zero] 139);go_wp2;go_loopw [18,3] (λnx v wi=>∃(n c:Nat) (Fl:Option Addr),n<=P/\nx=I n/\v=.slice Fl (hs.length-c) (cap-c)/\c<=hs.length/\(c<hs.length->Fl=some (Ad b (off+c*2)))/\bX (hs.take c)=iV l i++jT a.page n/\pR (hs.take c)=true/\Below w.heap.size w wi/\wi.heap[wr.heap.size]?=some (.cells #[I a.page,I (P:Int),I a.jP,.bool a.zero] 139 (0,0))) (λnx _ _=>P-(intOf nx).toNat)
    case atStart=>exact⟨0,c,Fl,ω,rfl,rfl,K,J.o,by rw[q.o];simp[jT],F.o,iQ.o,BA.o⟩
    case round =>
     obtain⟨n,c,Fl,Z,rfl,rfl,K,B,G,A,hb,M⟩:=hrel;have F:=ai A;clear A;have J:=ai B;have q:=ai G;have Tw:=ai hb;have Q:=ai M;have x0:=aA M 0 rfl;clear B G M;by_cases hlp:n<P
     . obtain⟨t,ht⟩:=Ir.o n hlp;have HT:=ai ht;clear ht;by_cases hce:c=hs.length
       . have HX:Hid (qG l hs=false):=Zw (by have h:=q.o;rw[hce] at h;exact h) HT.o;have T:hs.length-c=0:=by omega
         rw[T];clear T hce;go_wp2
         go_quiet (fail)
         go_wp2;go_ret;exact⟨gq HX.o.symm,xq Tw.o _⟩
       have S8:c<hs.length:=by omega
       have a5:(((hs.length-c:Nat):Int)==0)=false:=by simp;omega
       have a4:0<hs.length-c:=by omega
       obtain⟨-,g2,g3⟩:=R.o ω;obtain⟨d0,d1⟩:=(ajO (hb.mono (NA rfl)) g2 g3) c S8;have y:=J.o S8;subst y;have a3:(1:Int)<=((hs.length-c:Nat):Int):=by omega
       have L:=HZ.o c S8;unfold bD at L;by_cases Gt:(bo hs c).page=a.page+(n:Int)
       . rw[Gt] at d0;by_cases Xw:(bo hs c).data.size=16
         . have HX:Hid (bX (hs.take (c+1))=iV l i++jT a.page (n+1)):=by
            show _=_;rw[Iy hs c S8,q.o,Gt,vE,uH]
           have IK:=ai (Zq hs c S8 F.o Xw);generalize (bo hs c).data=dd at d1 Xw L;have W:((dd.size:Int)==16)=true:=by rw[Gi];omega
           clear Gt hb hce Xw;by_cases hc1:cap-c=1
           . go_wp2
             go_quiet (fail)
             go_wp2;go_roundw
             case rel=>exact⟨n+1,c+1,_,ω,by go_num,SJ rfl ω ω,ω,λg=>ω,HX.o,IK.o,xq Tw.o _,Q.o⟩
             case measure=>simp[intOf];omega
           go_wp2
           go_quiet (fail)
           go_wp2;go_roundw
           case rel=>exact⟨n+1,c+1,_,ω,by go_num,SJ rfl ω ω,ω,λg=>by simp[uG,Cg],HX.o,IK.o,xq Tw.o _,Q.o⟩
           case measure=>simp[intOf];omega
         have HX:Hid (qG l hs=false):=adn S8 Xw;generalize (bo hs c).data=dd at d1 Xw L;have W:((dd.size:Int)==16)=false:=by rw[gT];omega
         clear Gt hb hce Xw;go_wp2
         go_quiet (fail)
         go_wp2;go_ret;exact⟨gq HX.o.symm,xq Tw.o _⟩
       have HX:Hid (qG l hs=false):=Zx S8 q.o HT.o Gt;generalize (bo hs c).page=pq at d0 Gt;have a1:IntKind.i64.wrap (a.page+(n:Int))=a.page+(n:Int):=sJ _ ω;have X:(pq==a.page+(n:Int))=false:=by rw[gT];exact Gt
       have a2:(pq != a.page+(n:Int))=true:=by rw[bne,X];rfl
       clear Gt d1 hb hce L;go_wp2
       go_quiet (fail)
       go_wp2;go_ret;exact⟨gq HX.o.symm,xq Tw.o _⟩
     obtain rfl:n=P:=by omega
     go_wp2;go_roundw
     case rel=>exact⟨i+1,c,Fl,ω,by go_num,rfl,K,J.o,by rw[zB.o];exact q.o,F.o,Tw.o⟩
     case measure=>simp[intOf];omega
  obtain rfl:i=l.length:=by omega
  have HX:=ai (ado K q.o F.o);go_wp2;go_ret;refine⟨gq ?_,wQ.o⟩;rw[HX.o];rw[TU];simp;omega
theorem PU (s:ek) (va:Value) (ap:Option Addr) (cp:Nat) (w:World) (ha:gD w va s.aJ) (hp:rU w ap s.aD) (hf:UB s) (hcap:s.aD.length<=cp) :
  Calls prog 212 #[.agg #[.bool s.live,va,.slice ap s.aD.length cp]] w λe w'=>e=.returned (.bool (bW s))/\Below w.heap.size w w':=by
 obtain⟨A,hA⟩:=ex (bW s);rw[<- hA];rw[Zp] at hA;have HA:=ai hA;have ym:=ai (λV (hV:Below w.heap.size w V)=>CR s.aJ va V (ha.below hV) hf.aJ);have b:Hid (bj s.aJ=0->∀V,Below w.heap.size w V->Calls prog 228 #[.agg #[.bool s.live,va,.slice ap s.aD.length cp]] V λe w'=>e=.returned (.bool (qG s.aJ s.aD))/\Below V.heap.size V w'):=λhc V hV=>W7 s.aJ s.aD s.live va ap cp V (ha.below hV) hc (hp.below hV) (λk hk=>(hf.page k hk).2) hf.aD hcap
 have F:Hid (∃ao ca,va=.slice ao s.aJ.length ca):=by
  obtain⟨ao,cap,h,_⟩:=ha;exact⟨ao,cap,h⟩
 obtain⟨aa,ca,Ie⟩:=F.o;subst Ie;have L:=hf.aJ.2;have M:s.aD.length<=140737488351232:=hf.aD;clear ha hp hf hA F hcap;obtain⟨np,C0⟩:=ex s.aD.length;obtain⟨C,hC⟩:=ex (bj s.aJ);obtain⟨E,hE⟩:=ex (qG s.aJ s.aD);obtain⟨lv,y⟩:=ex s.live;generalize s.aJ.length=na at HA ym b L ⊢;rw[<- C0] at HA b M ⊢;rw[<- hC] at HA ym b;rw[<- hE] at HA b;rw[<- y] at HA b ⊢;clear C0 hC hE y;have HB:=ai ((aN w.heap.size w).alloc (aK _) (.cells #[.bool lv,.slice aa na ca,.slice ap np cp] 142));have X0:=ai (bH w #[.bool lv,.slice aa na ca,.slice ap np cp] 142);cases lv with
 | false =>
  have qO:Hid (A=(decide (na=0)&&decide (np=0))):=HA;by_cases h0:na=0
  . have J:((na:Int)==0)=true:=by rw[Gi];omega
    by_cases h1:np=0
    . have G:((np:Int)==0)=true:=by rw[Gi];omega
      have CF:Hid (A=true):=by show _=_;rw[qO.o,fD h0,fD h1];rfl
      clear HA qO h0 h1;go_enter func212,ntmps212;go_wp2;go_ret;exact⟨gq CF.o.symm,HB.o⟩
    have G:((np:Int)==0)=false:=by rw[gT];omega
    have CF:Hid (A=false):=by show _=_;rw[qO.o,fE h1,TS]
    clear HA qO h0 h1;go_enter func212,ntmps212;go_wp2;go_ret;exact⟨gq CF.o.symm,HB.o⟩
  have J:((na:Int)==0)=false:=by rw[gT];omega
  have CF:Hid (A=false):=by show _=_;rw[qO.o,fE h0,yw]
  clear HA qO h0;go_enter func212,ntmps212;go_wp2;go_ret;exact⟨gq CF.o.symm,HB.o⟩
 | true =>
  have qO:Hid (A=(decide (C=0)&&E)):=HA;by_cases hC:C=0
  . subst hC;have CF:Hid (A=E):=by show _=_;rw[qO.o,fD rfl,tE]
    have K:=ai (b.o rfl);clear HA qO b;go_enter func212,ntmps212;go_wp2_with (first
     | (go_at_call 117;refine(ym.o _ HB.o).mono ?_;rintro e w1 ⟨rfl,q⟩;have cD:=ai (bq HB.o q);have X1:=ai (aU X0.o q (aQ X0.o));clear q;obtain⟨x0,x1,x2⟩:=zn X1.o)
     | (go_at_call 228;refine(K.o _ cD.o).mono ?_;rintro e w2 ⟨rfl,B⟩;have iJ:=ai (bq cD.o B);clear B))
    go_ret;exact⟨gq CF.o.symm,iJ.o⟩
  have N:(C==0)=false:=by rw[gT];exact hC
  have CF:Hid (A=false):=by show _=_;rw[qO.o,fE hC,yw]
  clear HA qO b;go_enter func212,ntmps212;go_wp2_with (go_at_call 117;refine(ym.o _ HB.o).mono ?_;rintro e w1 ⟨rfl,q⟩;have cD:=ai (bq HB.o q);clear q);go_ret;exact⟨gq CF.o.symm,cD.o⟩
theorem Zn (sl:Int) (az ar ao:Option Addr) (ns nr no cs cr co:Nat) (w:World) :
  Calls prog 179 #[.agg #[I sl,.slice az ns cs,.slice ar nr cr,.slice ao no co]] w λe w'=>e=.returned (.bool (decide (1<=ns/\ns<=4)&&(decide (nr=ns)&&(decide (0<=sl/\sl<=512)&&decide (no<=2000)))))/\Below w.heap.size w w':=by
 obtain⟨A,hA⟩:=ex ((decide (1<=ns/\ns<=4)&&(decide (nr=ns)&&(decide (0<=sl/\sl<=512)&&decide (no<=2000)))));rw[<- hA];have HA:=ai hA;clear hA;by_cases h0:1<=(ns:Int)
 . by_cases h1:(ns:Int)<=4
   . by_cases h2:(nr:Int)=ns
     . have b:((nr:Int)==(ns:Int))=true:=by rw[Gi];exact h2
       by_cases h3:0<=sl
       . by_cases h4:sl<=512
         . by_cases h5:(no:Int)<=2000
           . have qO:Hid (A=true):=by
              show _=_;rw[HA.o];simp;omega
             clear HA;go_enter func179,ntmps179;go_wp2;go_ret;exact⟨gq qO.o.symm,(aN _ _).alloc (aK _) _⟩
           have qO:Hid (A=false):=by
            show _=_;rw[HA.o];simp;omega
           clear HA;go_enter func179,ntmps179;go_wp2;go_ret;exact⟨gq qO.o.symm,(aN _ _).alloc (aK _) _⟩
         have qO:Hid (A=false):=by
          show _=_;rw[HA.o];simp;omega
         clear HA;go_enter func179,ntmps179;go_wp2;go_ret;exact⟨gq qO.o.symm,(aN _ _).alloc (aK _) _⟩
       have qO:Hid (A=false):=by
        show _=_;rw[HA.o];simp;omega
       clear HA;go_enter func179,ntmps179;go_wp2;go_ret;exact⟨gq qO.o.symm,(aN _ _).alloc (aK _) _⟩
     have b:((nr:Int)==(ns:Int))=false:=by rw[gT];exact h2
     have qO:Hid (A=false):=by
      show _=_;rw[HA.o];simp;omega
     clear HA;go_enter func179,ntmps179;go_wp2;go_ret;exact⟨gq qO.o.symm,(aN _ _).alloc (aK _) _⟩
   have qO:Hid (A=false):=by
    show _=_;rw[HA.o];simp;omega
   clear HA;go_enter func179,ntmps179;go_wp2;go_ret;exact⟨gq qO.o.symm,(aN _ _).alloc (aK _) _⟩
 have qO:Hid (A=false):=by
  show _=_;rw[HA.o];simp;omega
 clear HA;go_enter func179,ntmps179;go_wp2;go_ret;exact⟨gq qO.o.symm,(aN _ _).alloc (aK _) _⟩
theorem Nj (l:List ek) (sl:Int) (az ar ao:Option Addr) (nr no cs cr co:Nat) (w:World) (h:CO w az l) (hf:Kf l) (hn:l.length<=1000000) :
  Calls prog 180 #[.agg #[I sl,.slice az l.length cs,.slice ar nr cr,.slice ao no co]] w λe w'=>e=.returned (.bool (l.all bW&&decide (fu l<=sl)))/\Below w.heap.size w w':=by
 have HF:=ai hf;have HH:=ai h;have Y:=ai (λV (hV:Below w.heap.size w V)=>Hu l az cs V (h.below hV) hf hn);have fU:=ai ((aN w.heap.size w).alloc (aK _) (.cells #[I sl,.slice az l.length cs,.slice ar nr cr,.slice ao no co] 62));have X0:=ai (bH w #[I sl,.slice az l.length cs,.slice ar nr cr,.slice ao no co] 62);have sk:Hid (∀k,k<l.length->bW (aI l k)=false->(l.all bW&&decide (fu l<=sl))=false):=λk hk e=>by
  have:l.all bW=false:=by
   rw[aaM];refine⟨aI l k,?_,by rw[e];simp⟩;unfold aI;rw[cB,fF hk];exact Gk hk
  rw[this,yw]
 have N:Hid ((∀k,k<l.length->bW (aI l k)=true)->(l.all bW&&decide (fu l<=sl))=decide (fu l<=sl)):=λe=>by
  have:l.all bW=true:=by
   rw[nB];intro s hs;obtain⟨k,hk⟩:=aoj hs;have F:k<l.length:=by
    rcases Nz k l.length with g | g
    . exact g
    rw[Gr g] at hk;cases hk
   have:=e k F;unfold aI at this;rw[cB,hk] at this;exact this
  rw[this,tE]
 generalize (l.all bW&&decide (fu l<=sl))=A at sk N ⊢;clear h hf;go_enter func180,ntmps180;go_wp2;go_loopw [8] (λiv wr=>∃k:Nat,k<=l.length/\iv=I (k:Int)/\(∀j,j<k->bW (aI l j)=true)/\wr.heap[w.heap.size]?=some (.cells #[I sl,.slice az l.length cs,.slice ar nr cr,.slice ao no co] 62 (0,0))/\Below w.heap.size w wr) (λiv _=>l.length-(intOf iv).toNat)
 case atStart=>exact⟨0,ω,rfl,λj hj=>ω,X0.o,fU.o⟩
 case round =>
  obtain⟨k,hk,rfl,K,hx,hb⟩:=hrel;have HB:=ai hb;have HX:=ai hx;have QW:=ai K;clear K hx;by_cases F:k<l.length
  . obtain⟨b,off,Z,a2,di⟩:=(HH.o.below hb) ω;subst Z;obtain⟨va,ap,cp,c0,c1,c2,c3,c4,c5⟩:=di k F;have Qf:=HF.o.2 k F;obtain⟨aa,na,ca,rfl⟩:=adl c3;have HT:Hid (∀W,Below wr.heap.size wr W->Calls prog 212 #[.agg #[.bool (aI l k).live,.slice aa na ca,.slice ap (aI l k).aD.length cp]] W λe w'=>e=.returned (.bool (bW (aI l k)))/\Below W.heap.size W w'):=λW hW=>PU _ _ _ _ _ (c3.below hW) (c4.below hW) Qf c5
    have DZ:=ai (sk.o k F);obtain⟨n,Q⟩:=ex ((aI l k).aD.length);obtain⟨lv,X⟩:=ex ((aI l k).live);have J:Hid (bW (aI l k)=true->∀j,j<k+1->bW (aI l j)=true):=λe j hj=>by
     by_cases q:j=k
     . rw[q];exact e
     exact QW.o j ω
    rw[<- Q] at c2 HT;rw[<- X] at c0 HT;generalize bW (aI l k)=T at HT DZ J;clear Q X c3 c4 c5 Qf di hb QW;have iQ:=ai (HB.o.alloc HB.o.size (.cells #[.bool lv,.slice aa na ca,.slice ap n cp] 142));have XA:=ai (bu HX.o (.cells #[.bool lv,.slice aa na ca,.slice ap n cp] 142));cases T with
    | true =>
     have G:=ai (J.o rfl);clear J DZ;go_wp2_with (go_at_call 212;refine(HT.o _ ((aN _ _).alloc (aK _) _)).mono ?_;rintro e w1 ⟨rfl,B⟩;have cD:=ai (bq iQ.o B);have X1:=ai (aU XA.o B (aQ XA.o));clear B);go_roundw
     case rel=>exact⟨k+1,ω,by go_num,G.o,X1.o,cD.o⟩
     case measure=>simp[intOf];omega
    | false =>
     have a0:=ai (DZ.o rfl);clear J DZ;go_wp2_with (go_at_call 212;refine(HT.o _ ((aN _ _).alloc (aK _) _)).mono ?_;rintro e w1 ⟨rfl,B⟩;have cD:=ai (bq iQ.o B);clear B);go_ret;exact⟨gq a0.o.symm,cD.o⟩
  obtain rfl:k=l.length:=by omega
  have G:=ai (N.o QW.o);clear hb N sk QW;go_wp2_with fail;have Fs:=kf wr;have M:=@fJ wr;have O:=aQ HX.o;have x0:wr.cell? (Ad w.heap.size 0)=some (I sl):=aA HX.o 0 rfl;have x1:wr.cell? (Ad w.heap.size 1)=some (.slice az l.length cs):=aA HX.o 1 rfl;have c0:∀x:ed wr.heap.size wr,x.world.cell? (Ad w.heap.size 0)=some (I sl):=λx=>by rw[M x _ _ O];exact x0
  have c1:∀x:ed wr.heap.size wr,x.world.cell? (Ad w.heap.size 1)=some (.slice az l.length cs):=λx=>by rw[M x _ _ O];exact x1
  clear M x0 x1;have L:Hid (∀x:ed wr.heap.size wr,Calls prog 213 #[.slice az l.length cs] x.world λe w'=>e=.returned (I (fu l))/\∃y:ed wr.heap.size wr,w'=y.world):=λx=>(Y.o x.world (bq HB.o x.keeps)).mono λe w'' ⟨he,hb⟩=>⟨he,⟨w'',x.keeps.trans (hb.mono x.keeps.size)⟩,rfl⟩
  generalize fu l=R at L G;refine eT κ κ ?_
  repeat (first | go_big_quiet_step ((go_at_call 213;exact L.o _)) | quiet_step ((go_at_call 213;exact L.o _)))
  refine mM ?_;intro _ a1;obtain⟨x,U⟩:=a1;subst U;go_wp2;go_ret;exact⟨gq G.o.symm,bq HB.o x.keeps⟩
end Go.Proofs.YtlgoihmkgaaemaaGreat
