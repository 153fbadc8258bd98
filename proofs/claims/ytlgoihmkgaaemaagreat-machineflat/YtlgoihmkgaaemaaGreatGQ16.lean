import Derived.Test.YtlgoihmkgaaemaaGreatGQ15
set_option maxHeartbeats 20000000
set_option linter.unusedVariables false
set_option maxRecDepth 100000
set_option linter.unusedSimpArgs false
namespace Go.Proofs.YtlgoihmkgaaemaaGreat
open Go.RowKit Tryz
def cZ (xs ys:List bC):Prop:=ys.map eZ=xs.map eZ
def aY (k:aT) (hs:List bC):aT:=⟨hs,k.frames,k.slots,k.aj,k.hand⟩
variable {xs ys:List bC} {l:List aX} {D:Nat->Prop} {w w':World} {base:Nat} {e:TypeId} {size cap:Nat} {P:Program} (k:aT) (hs:List bC) (j:Nat)
theorem cZ.trans {zs:List bC} (h:cZ xs ys) (g:cZ ys zs):cZ xs zs:=Eq.trans g h
theorem cZ.len (h:cZ xs ys):ys.length=xs.length:=by
 have:=dC List.length h
 grind
theorem Es {a b:bC} (h:eZ a=eZ b):a.page=b.page/\a.data=b.data/\a.dR=b.dR:=by
 injection h with h1 h2 h3
 grind
theorem cZ.at (h:cZ xs ys) (i:Nat):eZ (bk ys i)=eZ (bk xs i):=by
 unfold cZ at h;unfold bk;have h1:(ys.map eZ)[i]?=(xs.map eZ)[i]?:=by rw[h]
 grind
theorem YB {a b:bC} (h:eZ a=eZ b):ud a=ud b:=by
 obtain⟨h1,h2,h3⟩:=Es h
 grind [ud]
theorem YA {a b:bC} (h:eZ a=eZ b):cY a=cY b:=by
 grind [Es,cY,pM]
theorem Jq (p:Int):∀(xs ys:List bC),cZ xs ys->(je ys p).map eZ=(je xs p).map eZ
 | [],[],_=>rfl
 | [],b::r,h=>by have:=dC List.length h;grind
 | a::r,[],h=>by have:=dC List.length h;grind
 | a::r,b::t,h=>by
  have h:eZ b::t.map eZ=eZ a::r.map eZ:=h;injection h with h1 h2;have ih:=Jq p r t h2
  grind [Es,je]
theorem Jr (h:cZ xs ys) (p:Int):fG ys p=fG xs p:=by
 grind [Jq,fG,YB]
theorem ab4 (h:cZ xs ys) (p:Int):(je ys p).isSome=(je xs p).isSome:=by
 have:=dC Option.isSome (Jq p xs ys h)
 grind
theorem EU (h:cZ xs ys) (p:Int) (z:Bool):gz ys p z=gz xs p z:=by
 grind [gz,Jr]
theorem ab5 (h:cZ xs ys):iG ys=iG xs:=by
 have:∀n,lC ys n=lC xs n:=λn=>by
  induction n with
  | zero=>rfl
  | succ n ih =>
   grind [lC,YA,uw,Es,cZ.at]
 grind [iG,cZ.len]
theorem aW.CZ {k:aT} (h:aW k) {hs:List bC} (s:cZ k.aR hs):aW (aY k hs):=by
 refine⟨?_,(ab5 s).trans h.lq,h.hand,λx hx=>?_,h.room,λi hi=>?_,h.slt⟩
 . have:=h.c;have e:=s.len;refine fD ?_;show(3<=k.frames.length/\k.frames.length<=64)/\k.slots.length<=512/\(1<=k.aj.length/\k.aj.length<=4)/\hs.length<=255;omega
 . have g:=h.each x hx;exact⟨g.dead,g.aJ,g.lq,g.Qs,λp h1 h2=>(ab4 s p).trans (g.aR p h1 h2)⟩
 have g:=h.EK i hi;exact⟨g.refs,g.zero,g.one,g.size,λd x hx=>(g.fill d x hx).trans (EU s _ _).symm⟩
theorem EZ {k:aT} {hs:List bC} (s:cZ k.aR hs) (j:Nat) (p:Int):b7 (aY k hs) j p=b7 k j p:=by
 unfold b7;show(match bl (ak k.aj j).bh p with
  | some e=>_
  | none=>gz hs p _)=_
 rw[EU s];rfl
theorem Wh (i:Nat):eY (aY k hs) i=aY (eY k i) hs:=by
 grind [eY,Jn,aY,Dw]
theorem JF (held:List Int) (hs:List bC):∀(n:Nat) (k:aT),pC held n (aY k hs)=aY (pC held n k) hs
 | 0,k=>rfl
 | n+1,k=>by
  unfold pC;show(if pO held k=true then pC held n (aY (kr held k) hs) else aY k hs)=_;by_cases c:pO held k=true
  . rw[aC c,aC c];exact JF held hs n _
  grind
theorem Pf (held:List Int):bK (aY k hs) held=((bK k held).1,aY (bK k held).2 hs):=by
 unfold bK;show(match A5 k.frames with
  | some i=>(i,aY k hs)
  | none=>_)=_
 cases A5 k.frames with
 | some i=>rfl
 | none =>
  show(_,_)=(_,_);rw[JF,show(aY (pC held 70 k) hs).hand=(pC held 70 k).hand from rfl,Wh];rfl
theorem Jt (e:bJ):dN (aY k hs) e=aY (dN k e) hs:=by unfold dN;split <;> rfl
theorem E1 (p:Int) (i:Nat) (d:ByteArray) (dy:Bool):fe (aY k hs) j p i d dy=aY (fe k j p i d dy) hs:=by
 unfold fe;show(match bl (ak k.aj j).bh p with
  | none=>_
  | some e=>_)=_
 cases bl (ak k.aj j).bh p with
 | none=>rfl
 | some e=>exact Jt (gK (jw k i d dy) j ⟨p,1,i⟩) hs e
theorem QI {k:aT} (h:aW k) {held:List Int} (hl:held.length<=2) {hs:List bC} (s:cZ k.aR hs) (j:Nat) (p:Int):dI (aY k hs) j p held=((dI k j p held).1,aY (dI k j p held).2 hs):=by
 have b:=(vg h hl).kept.aR;unfold dI;show(match bl (ak k.aj j).bh p with
  | some e=>_
  | none=>_)=_
 rw[Pf];cases bl (ak k.aj j).bh p with
 | none =>
  dsimp only;rw[E1];show(_,aY (fe _ _ _ _ (gz hs p _) _) hs)=_;rw[EU s,b];rfl
 | some e =>
  dsimp only;by_cases c:e.kind=1
  . grind
  rw[aB c,aB c,E1];rfl
theorem Wj (held:List Int) (j:Nat) (p:Int) (a:Nat):mn (aY k hs) j p a held=((mn k j p a held).1,aY (mn k j p a held).2 hs):=by
 grind [mn,Pf,aY,E1]
theorem Wf {k:aT} (h:aW k) {held:List Int} (hl:held.length<=2) {hs:List bC} (s:cZ k.aR hs) (j:Nat) (p way:Int):dO (aY k hs) j p way held=((dO k j p way held).1,aY (dO k j p way held).2 hs):=by
 have e:iZ (aY k hs) j p way held=((iZ k j p way held).1,aY (iZ k j p way held).2 hs):=by
  grind [iZ,QI,Wj]
 unfold dO;rw[e];rfl
theorem yS {k:aT} (h:aW k) {j:Nat} (hj:j<k.aj.length) {a n way:Int} (h1:dM k j (a/16)) {hs:List bC} (s:cZ k.aR hs):bg (aY k hs) j a n way=((bg k j a n way).1,aY (bg k j a n way).2 hs):=by
 grind [tS,fT,Wf,mN,bg,gv.kept,gp.aR,gv.right]
theorem E0 (k:aT) (hs:List bC) (ids:List Nat) (s:ByteArray):∀n,mY (aY k hs) ids s n=aY (mY k ids s n) hs
 | 0=>rfl
 | n+1=>by
  unfold mY;rw[E0 k hs ids s n];rfl
theorem Jo {k:aT} (h:aW k) {j:Nat} (hj:j<k.aj.length) {a:Int} {d:ByteArray} (h1:dM k j (a/16)) {hs:List bC} (s:cZ k.aR hs):nX (aY k hs) j a d=aY (nX k j a d) hs:=by
 unfold nX;rw[yS h hj h1 s];exact E0 _ _ _ _ _
theorem Pk (k:aT) (hs:List bC) (es:List bJ) (p:bJ->Bool):∀n,dx (aY k hs) es p n=aY (dx k es p n) hs
 | 0=>rfl
 | n+1=>by
  unfold dx;rw[Pk k hs es p n]
  grind [Jt]
theorem xG (p:bJ->Bool):df (aY k hs) j p=aY (df k j p) hs:=by
 grind [df,lD,aY,Pk]
theorem JG (l:List aX):iN (aY k hs) j l=aY (iN k j l) hs:=by
 unfold iN;rw[xG];rfl
theorem Ma:mE (aY k hs) j=aY (mE k j) hs:=by
 unfold mE;rw[xG];rfl
theorem JC (e:bJ) (d:Int):lG (aY k hs) e d=aY (lG k e d) hs:=by unfold lG;split <;> rfl
theorem Jp (k:aT) (hs:List bC) (es:List bJ):∀n,fM (aY k hs) es n=aY (fM k es n) hs
 | 0=>rfl
 | n+1=>by
  unfold fM;rw[Jp k hs es n,JC]
theorem L8:jq (aY k hs) j=aY (jq k j) hs:=by
 grind [jq,aY,Jp]
theorem Jm {r:List aX} (hl:bj l=0) (hr:bj r=0) (h:∀x:Int,(aV r x).2=true->(aV l x).2=true):bf r<=bf l:=by
 rw[oX hl,oX hr];have:=oK (cI l) (cI r) (Bz.sorted (nZ hr)) (Bz.sorted (nZ hl)) (λx hx=>(qd hl x).1 (h x ((qd hr x).2 hx)));omega
theorem LY (F G:Int->Bool) (a b:Int):∀(n:Nat) (p:Int),(∀x,p<=x->x<p+n->(a<=x/\x<b->F x=true/\G x=false)/\(¬(a<=x/\x<b)->F x=G x))->((jT p n).filter F).length=(((jT p n).filter G).length:Int)+max 0 (min (p+n) b-max p a)
 | 0,p,_=>by
  show(0:Int)=0+_;omega
 | n+1,p,h=>by
  have ih:=LY F G a b n (p+1) (λx h1 h2=>h x ω ω)
  grind [jT]
theorem Im (hl:bj l=0):bf l=(((jT 1 255).filter (λx=>(aV l x).2)).length:Int):=by
 rw[oX hl];have s1:=Bz.sorted (nZ hl);have s2:((jT 1 255).filter (λx=>(aV l x).2)).Pairwise (·<·):=(xk 255 1).sublist List.filter_sublist;have a1:=oK _ _ s1 s2 (λx hx=>by
  grind [qd,ll,sF])
 have a2:=oK _ _ s2 s1 (λx hx=>by
  grind [qd])
 omega
theorem ab0 {p n q:Int} (h:(dZ l p n q).2=0) (hl:bj l=0):bf (dZ l p n q).1=bf l+n:=by
 obtain⟨h1,h2⟩:=CQ l p n q h;obtain⟨_,Rj,_⟩:=zY _ _ _ _ _ h;rw[Im h1,Im hl];have:=LY (λx=>(aV (dZ l p n q).1 x).2) (λx=>(aV l x).2) p (p+n) 255 1 (λx hx1 hx2=>by
  obtain⟨m,rfl⟩:∃m:Nat,x=(m:Int):=⟨x.toNat,ω⟩
  grind)
 rw[this];have hb:1<=p/\1<=n/\p+n<=256:=by
  grind [gW]
 omega
theorem VW {p n:Int} (h:(cU l p n).2=0) (hl:bj l=0):bf (cU l p n).1<=bf l:=by
 obtain⟨h1,h2⟩:=Bu h;obtain⟨_,k2⟩:=zo l p n h;refine Jm hl h1 λx hx=>?_
 have hb:=ll hx;obtain⟨m,rfl⟩:∃m:Nat,x=(m:Int):=⟨x.toNat,ω⟩
 grind
theorem QG {p n q:Int} (h:(cu l p n q).2=0) (hl:bj l=0):bf (cu l p n q).1=bf l:=by
 obtain⟨h1,h2⟩:=wI l p n q h;have e:∀x:Int,1<=x->x<=255->(aV (cu l p n q).1 x).2=(aV l x).2:=λx g1 g2=>by
  obtain⟨m,rfl⟩:∃m:Nat,x=(m:Int):=⟨x.toNat,ω⟩
  grind
 have a1:=Jm hl h1 (λx hx=>by grind [ll]);have a2:=Jm h1 hl (λx hx=>by grind [ll]);omega
open Go.RowKit
structure aH (D:Nat->Prop) (w w':World):Prop where
 os:w'.os=w.os
 tape:w'.tape=w.tape
 output:w'.output=w.output
 size:w.heap.size<=w'.heap.size
 block:∀b,b<w.heap.size->¬D b->w'.heap[b]?=w.heap[b]?
theorem aH.refl (D:Nat->Prop) (w:World):aH D w w:=⟨rfl,rfl,rfl,aK _,λ_ _ _=>rfl⟩
theorem aH.trans {D1:Nat->Prop} {w1 w2:World} (h:aH D w w1) (g:aH D1 w1 w2) (hd:∀b,b<w.heap.size->D1 b->D b):aH D w w2 :=
 ⟨g.os.trans h.os,g.tape.trans h.tape,g.output.trans h.output,eJ h.size g.size,λb hb hn=>(g.block b (dV hb h.size) (λk=>hn (hd b hb k))).trans (h.block b hb hn)⟩
theorem aH.mono {D1:Nat->Prop} (h:aH D w w') (hd:∀b,b<w.heap.size->D b->D1 b):aH D1 w w':=⟨h.os,h.tape,h.output,h.size,λb hb hn=>h.block b hb (λk=>hn (hd b hb k))⟩
theorem aH.bQ (h:Below w.heap.size w w'):aH D w w':=⟨h.os,h.tape,h.output,h.size,λb hb _=>h.block b hb⟩
theorem aH.below {N:Nat} {w0:World} (h:Below N w0 w) (g:aH D w w') (hN:N<=w.heap.size) (hd:∀b,D b->N<=b):Below N w0 w' :=
 h.trans ⟨g.os,g.tape,g.output,g.size,λb hb=>g.block b (dV hb hN) (λk=>Γ)⟩
theorem aH.alloc (D:Nat->Prop) (w:World) (o:Obj):aH D w (w.alloc o):=aH.bQ ((aN _ _).alloc (aK _) o)
theorem aH.drew (D:Nat->Prop) (w:World):aH D w w.drew:=aH.bQ (aN _ _).drew
theorem aH.set (D:Nat->Prop) (w:World) (a:Addr) (v:Value) (h:D a.block):aH D w (w.setCell a v):=by
 have hb:=(aN 0 w).setCell (p:=a) (yt _) v;exact⟨hb.os,hb.tape,hb.output,hb.size,λb _ hn=>Below.heap_setCell w a v b (λe=>hn (e ▸ h))⟩
theorem aH.grown {row:Option Nat} (h:w.grownBy w' row) (hd:∀k,row=some k->D k):aH D w w' :=
 ⟨h.os,h.tape,h.output,h.size,λb hb hn=>h.block b hb (λe=>hn (hd b e.symm))⟩
theorem aH.keep {b:Nat} {o:Obj} (h:aH D w w') (hb:w.heap[b]?=some o) (hn:¬D b):w'.heap[b]?=some o:=(h.block b (aQ hb) hn).trans hb
theorem aH.cell {p:Addr} {v:Value} (h:aH D w w') (hp:w.cell? p=some v) (hn:¬D p.block):w'.cell? p=some v :=
 (KH (h.block p.block (jL w p hp) hn)).trans hp
theorem aH.row {v:Value} {n:Nat} {xs:List Value} (h:aH D w w') (hr:w.ownsRow base e size v n xs) (hn:∀g,v.ownBlock=some g->¬D g):w'.ownsRow base e size v n xs:=by
 refine⟨hr.1,?_⟩;rcases hr.2 with h0 | ⟨g,cap,b,hv,hb,hg,h1,h2,h3,h4⟩
 . grind
 exact .inr ⟨g,cap,b,hv,hb,h.keep hg (hn g (by rw[hv];rfl)),h1,h2,h3,h4⟩
theorem dJ {g n:Nat} {xs:List Value} (hr:w.ownsRow base e size (.slice (some (Ad g 0)) n cap) n xs) (j:Nat) (u:Value) :
  (w.setCell (Ad g j) u).ownsRow base e size (.slice (some (Ad g 0)) n cap) n (xs.set j u):=by
 refine⟨by rw[dE];exact hr.1,?_⟩;rcases hr.2 with⟨h0,_⟩ | ⟨g',q,b,hv,hb,hg,h1,h2,h3,h4⟩
 . cases h0
 injection hv with e1 e2 e3;injection e1 with e1;injection e1 with e1 _ _;subst e1 e3;refine .inr ⟨g,cap,b.setIfInBounds j u,rfl,hb,gH hg j u,h1,h2,Γ,?_⟩;rw[Array.toList_setIfInBounds,<- h4];exact List.take_set.symm ▸ rfl
theorem ie {g n:Nat} {xs:List Value} (hr:w.ownsRow base e size (.slice (some (Ad g 0)) n cap) n xs) (j:Nat):w.frozen? (Ad g j)=false:=by
 rcases hr.2 with⟨h0,_⟩ | ⟨g',b,q,hv,hb,hg,h1,h2,h3,h4⟩
 . cases h0
 grind [bG]
theorem PM (w:World) (t ty:TypeId) (base:Nat) (e:TypeId) (i:TypeInfo) (z:Value) (size bytes:Nat) (ht:P.underlying t=some (.slice e)) (hi:P.info? e=some i) (hz:i.zero=some z)
  (hsize:i.size=size) (hby:i.bytes=bytes) (hzs:z.cells.size=size) (hsz:0<size)
  (v:Value) (n:Nat) (xs:List Value) (hown:w.ownsRow base e size v n xs)
  (ao:Option Addr) (m c:Nat) (news:List Value) (hl:news.length=m*size) (hnews:0<m->∃ad,ao=some ad/\∀j u,news[j]?=some u->w.cell? (ad.add j)=some u) (h1:∀u∈news,u.oneCell'=true)
  (h63:n+m<=maxLen) (hbytes:(n+m)*bytes<=140737488355328) (hbase:base<=w.heap.size) :
  ∃v' w',(Builtin.append_ #[t,t] ty #[v,.slice ao m c]).run P w=.ok v' w' /\
   w'.ownsRow base e size v' (n+m) (xs++news)/\w.grownBy w' v.ownBlock/\(v'.ownBlock=v.ownBlock\/v'.ownBlock=some w.heap.size):=by
 by_cases h0:0<m
 . obtain⟨ad,rfl,hc⟩:=hnews h0;obtain⟨g,cap,w',hr,h2,h3,h4,h5⟩:=run_append_lies (P:=P) w t ty base e i z size bytes ht hi hz hsize hby hzs hsz v n xs hown ad m c news hl hc h1 h0 h63 hbytes hbase _ rfl;refine⟨_,w',hr,h2,h3,?_⟩;rcases h4 with h4 | h4
   . exact .inl h4.symm
   exact .inr (by rw[h4];rfl)
 obtain rfl:m=0:=by omega
 have hn:news=[]:=o9 ω;subst hn;have y:Src P i.size t (.slice ao 0 c) 0 [] w:=⟨.inl ⟨_,ht⟩,λw'=>ρ,by cases ao <;> simp[Builtin.firstCells,loadCells,loadCellsFrom],by cases ao <;> simp[Builtin.firstCells,loadCells,loadCellsFrom],ξ,ξ⟩;have q:∃b cap,v=.slice b n cap/\n<=cap:=by
  rcases hown.2 with⟨h0,h1⟩ | ⟨g',A,B,hv,hb,hg,h1,h2,h3,h4⟩
  . grind
  grind
 grind [run_append_nothing,World.grownBy.refl]
theorem s8 {o:Oper} {a:Act} {K:Act->World->Prop} {Q:Exit->Act->World->Prop} (s x:Operand) (t:TypeId)
  (ho:o.op=.call { callee:=.builtin .append,args:=#[s,x],argTypes:=#[t,t] })
  (base:Nat) (e:TypeId) (i:TypeInfo) (z:Value) (size bytes:Nat) (ht:P.underlying t=some (.slice e)) (hi:P.info? e=some i) (hz:i.zero=some z)
  (hsize:i.size=size) (hby:i.bytes=bytes) (hzs:z.cells.size=size) (hsz:0<size)
  (v:Value) (n:Nat) (xs:List Value) (hs:a.eval s=v) (hown:w.ownsRow base e size v n xs)
  (ao:Option Addr) (m c:Nat) (news:List Value) (hx:a.eval x=.slice ao m c) (hl:news.length=m*size) (hnews:0<m->∃ad,ao=some ad/\∀j u,news[j]?=some u->w.cell? (ad.add j)=some u) (h1:∀u∈news,u.oneCell'=true)
  (h63:n+m<=maxLen) (hbytes:(n+m)*bytes<=140737488355328) (hbase:base<=w.heap.size)
  (h:∀v' w',w'.ownsRow base e size v' (n+m) (xs++news)->w.grownBy w' v.ownBlock->(v'.ownBlock=v.ownBlock\/v'.ownBlock=some w.heap.size)->K (a.put o.dst v') w'):o.wp P a w K Q:=by
 obtain⟨v',w',hr,h2,h3,h4⟩:=PM (P:=P) w t o.type base e i z size bytes ht hi hz hsize hby hzs hsz v n xs hown ao m c news hl hnews h1 h63 hbytes hbase;unfold Oper.wp execOp;simp only[ho,resolve,invoke,builtin,Sem.run_bind,Sem.run_pure,aaN,List.map_toArray,Cf,List.map_nil,hs,hx,hr];exact h v' w' h2 h3 h4
theorem m8 {ops:Array Oper} {rest:List Oper} {o:Oper} {a:Act} {Q:Exit->Act->World->Prop} (hgd:o.guard=none) (s x:Operand) (t:TypeId)
  (ho:o.op=.call { callee:=.builtin .append,args:=#[s,x],argTypes:=#[t,t] })
  (base:Nat) (e:TypeId) (i:TypeInfo) (z:Value) (size bytes:Nat) (ht:P.underlying t=some (.slice e)) (hi:P.info? e=some i) (hz:i.zero=some z)
  (hsize:i.size=size) (hby:i.bytes=bytes) (hzs:z.cells.size=size) (hsz:0<size)
  (v:Value) (n:Nat) (xs:List Value) (hs:a.eval s=v) (hown:w.ownsRow base e size v n xs)
  (ao:Option Addr) (m c:Nat) (news:List Value) (hx:a.eval x=.slice ao m c) (hl:news.length=m*size) (hnews:0<m->∃ad,ao=some ad/\∀j u,news[j]?=some u->w.cell? (ad.add j)=some u) (h1:∀u∈news,u.oneCell'=true)
  (h63:n+m<=maxLen) (hbytes:(n+m)*bytes<=140737488355328) (hbase:base<=w.heap.size)
  (h:∀v' w',w'.ownsRow base e size v' (n+m) (xs++news)->w.grownBy w' v.ownBlock->(v'.ownBlock=v.ownBlock\/v'.ownBlock=some w.heap.size)->wpList P ops Q rest (a.put o.dst v') w'):wpList P ops Q (o::rest) a w :=
 wpList_plain hgd λ_ hK=>s8 s x t ho base e i z size bytes ht hi hz hsize hby hzs hsz v n xs hs hown ao m c news hx hl hnews h1 h63 hbytes hbase λv' w' h2 h3 h4=>hK _ _ (h v' w' h2 h3 h4)
theorem tX {ops:Array Oper} {o:Oper} {a:Act} {K:Act->World->Prop} {Q:Exit->Act->World->Prop} {E:Prop} (hgd:o.guard=none) (s x:Operand) (t:TypeId)
  (ho:o.op=.call { callee:=.builtin .append,args:=#[s,x],argTypes:=#[t,t] })
  (base:Nat) (e:TypeId) (i:TypeInfo) (z:Value) (size bytes:Nat) (ht:P.underlying t=some (.slice e)) (hi:P.info? e=some i) (hz:i.zero=some z)
  (hsize:i.size=size) (hby:i.bytes=bytes) (hzs:z.cells.size=size) (hsz:0<size)
  (v:Value) (n:Nat) (xs:List Value) (hs:a.eval s=v) (hown:w.ownsRow base e size v n xs)
  (ao:Option Addr) (m c:Nat) (news:List Value) (hx:a.eval x=.slice ao m c) (hl:news.length=m*size) (hnews:0<m->∃ad,ao=some ad/\∀j u,news[j]?=some u->w.cell? (ad.add j)=some u) (h1:∀u∈news,u.oneCell'=true)
  (h63:n+m<=maxLen) (hbytes:(n+m)*bytes<=140737488355328) (hbase:base<=w.heap.size)
  (h:∀v' w',w'.ownsRow base e size v' (n+m) (xs++news)->w.grownBy w' v.ownBlock->(v'.ownBlock=v.ownBlock\/v'.ownBlock=some w.heap.size)->K (a.put o.dst v') w') :
  if Region.wanted o (yielded ops a.tmps)=true then Oper.wp P o a w K Q else E:=by
 have hw:Region.wanted o (yielded ops a.tmps)=true:=by simp[Region.wanted,hgd]
 rw[aC hw];exact s8 s x t ho base e i z size bytes ht hi hz hsize hby hzs hsz v n xs hs hown ao m c news hx hl hnews h1 h63 hbytes hbase h
theorem fp {α:Type} (f:α->List Value) (k:Nat) (hf:∀x,(f x).length=k):∀l:List α,(l.flatMap f).length=l.length*k
 | []=>by simp
 | a::r=>by rw[o8,ft,hf,fp f k hf r,tG,TP,TN]
theorem Bh {α:Type} (f:α->List Value) (k:Nat) (hf:∀x,(f x).length=k) (d:α):∀(l:List α) (i j:Nat),i<l.length->j<k->(l.flatMap f)[i*k+j]?=(f (l.getD i d))[j]?
 | [],i,j,hi,hj=>by grind
 | a::r,0,j,hi,hj=>by
  grind
 | a::r,i+1,j,hi,hj=>by
  rw[o8,yx Γ,hf,show(i+1)*k+j-k=i*k+j by grind];exact Bh f k hf d r i j Γ hj
theorem jf {α:Type} (f:α->List Value) (k:Nat) (hf:∀x,(f x).length=k) (d:α) (x:α) (j:Nat) (v:Value) (hj:j<k):∀(l:List α) (i:Nat),i<l.length->f x=(f (l.getD i d)).set j v->(l.set i x).flatMap f=(l.flatMap f).set (i*k+j) v
 | [],i,hi,_=>by rfl
 | a::r,0,hi,e=>by
  grind
 | a::r,i+1,hi,e=>by
  rw[q9,o8,o8,Ea _ _ Γ,hf,show(i+1)*k+j-k=i*k+j by grind,jf f k hf d x j v hj r i Γ e]
theorem gw {α:Type} {k g:Nat} (f:α->List Value) (hf:∀x,(f x).length=k) (d:α) {l:List α} (hr:w.ownsRow base e k (.slice (some (Ad g 0)) l.length cap) l.length (l.flatMap f)) (i j:Nat) (hi:i<l.length) (hj:j<k):w.cell? (Ad g (i*k+j))=(f (l.getD i d))[j]?:=by
 have:i*k+j<l.length*k:=by
  have:=aaW k (show i+1<=l.length from hi)
  grind
 exact(hr.cellAt _ this).trans (Bh f k hf d l i j hi hj)
theorem aZ {v:Value} {n:Nat} {xs:List Value} (h:w.ownsRow base e size v n xs):∃ao cap,v=.slice ao n cap/\n<=cap/\(0<n->∃g,ao=some (Ad g 0)/\base<=g/\g<w.heap.size):=by
 rcases h.2 with⟨h0,h1⟩ | ⟨g',b,q,hv,hb,hg,h1,h2,h3,h4⟩
 . grind
 grind
theorem m9 {base':Nat} {v:Value} {n:Nat} {xs:List Value} (h:w.ownsRow base e size v n xs) (hb:∀g,v.ownBlock=some g->base'<=g):w.ownsRow base' e size v n xs:=by
 refine⟨h.1,?_⟩;rcases h.2 with h0 | ⟨g,cap,b,hv,_,hg,h1,h2,h3,h4⟩
 . grind
 exact .inr ⟨g,cap,b,hv,hb g (by rw[hv];rfl),hg,h1,h2,h3,h4⟩
theorem dH (w:World) (g j b o:Nat) (v:Value) (h:b≠g):(w.setCell (Ad g j) v).cell? (Ad b o)=w.cell? (Ad b o):=KH (Below.heap_setCell w (Ad g j) v b h)
theorem xS (w:World) (g:Nat) (j0 j1 j2:Nat) (v0 v1 v2:Value) (h:D g):aH D w (((w.setCell (Ad g j0) v0).setCell (Ad g j1) v1).setCell (Ad g j2) v2) :=
 ((aH.set D w (Ad g j0) v0 h).trans (aH.set D _ (Ad g j1) v1 h) (λ_ _ k=>k)).trans (aH.set D _ (Ad g j2) v2 h) (λ_ _ k=>k)
def qK (w:World) (ao:Option Addr) (m:Nat) (news:List Value):Prop:=0<m->∃ad,ao=some ad/\∀j u,news[j]?=some u->w.cell? (ad.add j)=some u
theorem qK.below {ao:Option Addr} {m:Nat} {news:List Value} (h:qK w ao m news) (hb:Below w.heap.size w w'):qK w' ao m news:=λhm=>by
 obtain⟨ad,e,hc⟩:=h hm
 grind [World.block_lt_of_cell?,Below.cell]
theorem alh:(prog.info? 139).map (λi=>(i.zero,i.size,i.bytes))=some (some (.agg #[I 0,I 0,I 0,.bool false]),4,32):=by rfl
theorem aax:(prog.info? 174).map (λi=>(i.zero,i.size,i.bytes))=some (some (.agg #[I 0,I 0,I 0]),3,24):=by rfl
theorem alg:(prog.info? 169).map (λi=>(i.zero,i.size,i.bytes))=some (some (.agg #[.string ⟨#[]⟩,I 0,.bool false,.bool false]),4,32):=by rfl
theorem ald:(prog.info? 171).map (λi=>(i.zero,i.size,i.bytes))=some (some (.agg #[.string ⟨#[]⟩,I 0]),2,24):=by rfl
theorem ale:(prog.info? 145).map (λi=>(i.zero,i.size,i.bytes))=some (some (.agg #[I 0,.string ⟨#[]⟩,Nl]),3,48):=by rfl
theorem alf:(prog.info? 226).map (λi=>(i.zero,i.size,i.bytes))=some (some (.agg #[I 0,.string ⟨#[]⟩]),2,24):=by rfl
theorem QY:(prog.info? 3).map (λi=>(i.zero,i.size,i.bytes))=some (some (I 0),1,8):=by rfl
theorem QX:(prog.info? 148).map (λi=>(i.zero,i.size,i.bytes))=some (some (.agg #[I 0,.string ⟨#[]⟩]),2,24):=by rfl
theorem aaw:(prog.info? 77).map (λi=>(i.zero,i.size,i.bytes))=some (some (.agg #[I 0,I 0,I 0,I 0,I 0,I 0,I 0,I 0,I 0,I 0,I 0,I 0,I 0]),13,104):=by rfl
theorem aau:(prog.info? 91).map (λi=>(i.zero,i.size,i.bytes))=some (some (.agg #[I 0,I 0]),2,16):=by rfl
theorem oI (F T E K B:Nat) {Z:Value} (hF:(F,T,E,K,B)∈[(71,22,139,4,32),(188,97,174,3,24),(132,26,169,4,32),(133,27,171,2,24),(131,23,145,3,48),(134,143,226,2,24),(294,48,3,1,8),(214,140,148,2,24),(94,31,77,13,104),(95,32,91,2,16)]) (hI:(prog.info? E).map (λi=>(i.zero,i.size,i.bytes))=some (some Z,K,B)) (hZ:Z.cells.size=K) (ao:Option Addr) (n c:Nat) (xs:List Value) (w:World) (hl:xs.length=n*K) (h:qK w ao n xs) (h1:∀u∈xs,u.oneCell'=true) (hn:n<=1000000) :
  Calls prog F #[.slice ao n c] w λe w'=>∃v,e=.returned v/\w'.ownsRow w.heap.size E K v n xs/\Below w.heap.size w w':=by
 obtain⟨i0,G,J,y,L⟩:=kI hI;have HH:=ai h;have HL:=ai hl;have H1:=ai h1;have Mk:=ai G;have Tn:=ai J;have Nr:=ai y;have DY:=ai L;have hu:prog.underlying T=some (TypeDesc.slice E):=by
  simp only[qZ,Prod.mk.injEq,Ci,Kv] at hF;rcases hF with⟨_,rfl,rfl,_⟩ | ⟨_,rfl,rfl,_⟩ | ⟨_,rfl,rfl,_⟩ | ⟨_,rfl,rfl,_⟩ | ⟨_,rfl,rfl,_⟩ | ⟨_,rfl,rfl,_⟩ | ⟨_,rfl,rfl,_⟩ | ⟨_,rfl,rfl,_⟩ | ⟨_,rfl,rfl,_⟩ | ⟨_,rfl,rfl,_⟩ <;> first | exact underlying22 | exact underlying97 | exact underlying26 | exact underlying27 | exact underlying23 | exact underlying143 | exact underlying48 | exact underlying140 | exact underlying31 | exact underlying32
 have q:=ai λ(w:World) (a:Option Addr) (n c n' c':Nat)=>Lib.run_eql_slice_nil (P:=prog) w T E a n c n' c' hu
 have HU:=ai hu;have hN:ao=none->n=0/\xs=[]:=λe=>by
  have h0:n=0:=by
   by_cases g:0<n
   . obtain⟨ad,e',_⟩:=h g;rw[e] at e';cases e'
   omega
  exact⟨h0,o9 (by rw[hl,h0,NC])⟩
 clear h hl h1 hI G J y L hu;simp only[qZ,Prod.mk.injEq,Ci,Kv] at hF;rcases hF with⟨rfl,rfl,rfl,rfl,rfl⟩ | ⟨rfl,rfl,rfl,rfl,rfl⟩ | ⟨rfl,rfl,rfl,rfl,rfl⟩ | ⟨rfl,rfl,rfl,rfl,rfl⟩ | ⟨rfl,rfl,rfl,rfl,rfl⟩ | ⟨rfl,rfl,rfl,rfl,rfl⟩ | ⟨rfl,rfl,rfl,rfl,rfl⟩ | ⟨rfl,rfl,rfl,rfl,rfl⟩ | ⟨rfl,rfl,rfl,rfl,rfl⟩ | ⟨rfl,rfl,rfl,rfl,rfl⟩
 all_goals
  have q:=q.out;cases ao with
  | none =>
   obtain⟨rfl,rfl⟩:=hN rfl;clear HH HL H1 Mk Tn Nr DY hN
   (first | go_enter func71,ntmps71 | go_enter func188,ntmps188 | go_enter func132,ntmps132 | go_enter func133,ntmps133 | go_enter func131,ntmps131 | go_enter func134,ntmps134 | go_enter func294,ntmps294 | go_enter func214,ntmps214 | go_enter func94,ntmps94 | go_enter func95,ntmps95)
   go_wp2;go_ret;exact⟨_,rfl,pT _ _ _ _,aN _ _⟩
  | some ad =>
   clear hN
   (first | go_enter func71,ntmps71 | go_enter func188,ntmps188 | go_enter func132,ntmps132 | go_enter func133,ntmps133 | go_enter func131,ntmps131 | go_enter func134,ntmps134 | go_enter func294,ntmps294 | go_enter func214,ntmps214 | go_enter func94,ntmps94 | go_enter func95,ntmps95)
   go_wp2_with (at_builtin;refine m8 (P:=prog) rfl _ _ _ rfl w.heap.size _ i0 Z _ _ HU.o Mk.o Tn.o Nr.o DY.o hZ Δ (.slice (some (Ad w.heap.size 0)) 0 0) 0 [] ρ (World.ownsRow_made w #[] 0 (aK _) ω ξ) (some ad) n c xs ρ HL.o ((HH.o.below ((aN _ _).alloc (aK _) _))) H1.o (by grind [maxLen]) ω ξ ?_;intro v' w' b M N;have A:=ai b;have O:=ai M;clear b M N)
   go_ret;have b:=A.o;rw[nj] at b;exact⟨_,rfl,b,((aN _ _).alloc (aK _) _).grown O.o ξ (λk hk=>by grind [Value.ownBlock])⟩
abbrev WO:=@oI 71 22 139 4 32 _ ξ alh rfl
abbrev aiz:=@oI 188 97 174 3 24 _ ξ aax rfl
abbrev aiy:=@oI 132 26 169 4 32 _ ξ alg rfl
abbrev ais:=@oI 133 27 171 2 24 _ ξ ald rfl
abbrev ait:=@oI 131 23 145 3 48 _ ξ ale rfl
abbrev aix:=@oI 134 143 226 2 24 _ ξ alf rfl
abbrev aiw:=@oI 294 48 3 1 8 _ ξ QY rfl
abbrev aiv:=@oI 214 140 148 2 24 _ ξ QX rfl
abbrev aiu:=@oI 94 31 77 13 104 _ ξ aaw rfl
abbrev air:=@oI 95 32 91 2 16 _ ξ aau rfl
def jI (f:nA):List Value:=[.string f.data,I f.refs,.bool f.kE,.bool f.seen]
def jH (f:qh):List Value:=[.string f.data,I f.refs]
def bZ (e:bJ):List Value:=[I e.page,I e.kind,I e.loc]
def ajB {α:Type} (f:α->List Value) (k:Nat) (d:α) (w:World) (b off:Nat) (l:List α):Prop:=∀i,i<l.length->∀j,j<k->w.cell? (Ad b (off+i*k+j))=(f (l.getD i d))[j]?
def eX {α:Type} (f:α->List Value) (k:Nat) (d:α) (w:World) (ao:Option Addr) (l:List α):Prop:=dG (ajB f k d) w ao l
theorem eX.below {α:Type} {f:α->List Value} {k:Nat} {d:α} {ao:Option Addr} {l:List α} (h:eX f k d w ao l) (hb:Below w.heap.size w w'):eX f k d w' ao l :=
 dG.below (lie:=ajB f k d) (λhb hlt h i hi j hj=>(cJ hb hlt).trans (h i hi j hj)) h hb
def OV (w:World) (b off:Nat) (l:List dA):Prop:=∀i,i<l.length->∃va ap cp,w.cell? (Ad b (off+i*3))=some (.bool (ak l i).live)/\w.cell? (Ad b (off+i*3+1))=some va/\w.cell? (Ad b (off+i*3+2))=some (.slice ap (ak l i).bh.length cp)/\gD w va (ak l i).aJ/\eX bZ 3 iD w ap (ak l i).bh/\(ak l i).bh.length<=cp
theorem amE {b off:Nat} {l:List dA} (hb:Below w.heap.size w w') (hlt:b<w.heap.size) (h:OV w b off l):OV w' b off l:=λi hi=>by
 obtain⟨va,ap,cp,c0,c1,c2,c3,c4,c5⟩:=h i hi;exact⟨va,ap,cp,(cJ hb hlt).trans c0,(cJ hb hlt).trans c1,(cJ hb hlt).trans c2,c3.below hb,c4.below hb,c5⟩
def Dl (w:World) (ao:Option Addr) (l:List dA):Prop:=dG OV w ao l
theorem Dl.below {ao:Option Addr} {l:List dA} (h:Dl w ao l) (hb:Below w.heap.size w w'):Dl w' ao l:=dG.below (lie:=OV) (λhb hlt h=>amE hb hlt h) h hb
structure jC where
 aS:Option Addr
 cS:Nat
 aF:Option Addr
 cF:Nat
 aL:Option Addr
 cL:Nat
 aP:Option Addr
 cP:Nat
structure ju (w:World) (a:jC) (k:aT):Prop where
 aR:kq w a.aS k.aR
 frames:eX jI 4 fN w a.aF k.frames
 slots:eX jH 2 jm w a.aL k.slots
 aj:Dl w a.aP k.aj
theorem ju.below {a:jC} {k:aT} (h:ju w a k) (hb:Below w.heap.size w w'):ju w' a k:=⟨h.aR.below hb,h.frames.below hb,h.slots.below hb,h.aj.below hb⟩
def br (a:jC) (k:aT):Array Value:=#[.slice a.aS k.aR.length a.cS,.slice a.aF k.frames.length a.cF,.slice a.aL k.slots.length a.cL,.slice a.aP k.aj.length a.cP,I k.hand]
structure VU (s:dA):Prop where
 aJ:dQ s.aJ
 bh:bD s.bh.length
 Qs:∀i,i<s.bh.length->cH (bc s.bh i).page/\cH (bc s.bh i).kind/\cH (bc s.bh i).loc
structure pY (k:aT):Prop where
 aR:uh k.aR
 nf:bD k.frames.length
 fr:∀i,i<k.frames.length->bD (aM k.frames i).data.size/\cH (aM k.frames i).refs
 ns:bD k.slots.length
 sl:∀i,i<k.slots.length->bD (bI k.slots i).data.size/\cH (bI k.slots i).refs
 np:bD k.aj.length
 sp:∀i,i<k.aj.length->VU (ak k.aj i)
 hand:cH k.hand
theorem LU (vS vF vL vP:Option Addr) (nS cS nF cF nL cL nP cP:Nat) (hd:Value) (w:World) :
  Calls prog 139 #[.agg #[.slice vS nS cS,.slice vF nF cF,.slice vL nL cL,.slice vP nP cP,hd]] w λe w'=>e=.returned (.bool (decide ((3<=nF/\nF<=64)/\nL<=512/\(1<=nP/\nP<=4)/\nS<=255)))/\Below w.heap.size w w':=by
 obtain⟨A,hA⟩:=ex (decide ((3<=nF/\nF<=64)/\nL<=512/\(1<=nP/\nP<=4)/\nS<=255));rw[<- hA];have HA:=ai hA;clear hA;rcases(show ¬(3:Int)<=nF\/((3:Int)<=nF/\¬(nF:Int)<=64)\/((3:Int)<=nF/\(nF:Int)<=64/\¬(nL:Int)<=512)\/((3:Int)<=nF/\(nF:Int)<=64/\(nL:Int)<=512/\¬(1:Int)<=nP)\/((3:Int)<=nF/\(nF:Int)<=64/\(nL:Int)<=512/\(1:Int)<=nP/\¬(nP:Int)<=4)\/((3:Int)<=nF/\(nF:Int)<=64/\(nL:Int)<=512/\(1:Int)<=nP/\(nP:Int)<=4/\¬(nS:Int)<=255)\/((3:Int)<=nF/\(nF:Int)<=64/\(nL:Int)<=512/\(1:Int)<=nP/\(nP:Int)<=4/\(nS:Int)<=255) by omega) with g | ⟨g,g1⟩ | ⟨g,g1,g2⟩ | ⟨g,g1,g2,g3⟩ | ⟨g,g1,g2,g3,g4⟩ | ⟨g,g1,g2,g3,g4,g5⟩ | ⟨g,g1,g2,g3,g4,g5⟩
 all_goals
  go_enter func139,ntmps139;go_wp2;go_ret;exact⟨dC (λb=>Ending.returned (.bool b)) (by grind [Hid.o]),(aN _ _).alloc (aK _) _⟩
def tQ (G:Nat->ByteArray):Nat->List Value
 | 0=>[]
 | n+1=>tQ G n++[.string (G n)]
def xD (G:Nat->ByteArray) (n:Nat) (d:ByteArray):Nat->ByteArray:=λk=>if k=n then d else G k
theorem sW (G:Nat->ByteArray):∀n,(tQ G n).length=n
 | 0=>rfl
 | n+1=>by rw[tQ,ft,sW G n];rfl
theorem Jh (G:Nat->ByteArray) (n:Nat):∀m,n<m->(tQ G m)[n]?=some (.string (G n))
 | 0,h=>by omega
 | m+1,h=>by
  rw[tQ];by_cases c:n<m
  . rw[Eb (by grind [sW]),Jh G n m c]
  grind [sW]
theorem LR (F G:Nat->ByteArray):∀m,(∀k,k<m->F k=G k)->tQ F m=tQ G m
 | 0,_=>rfl
 | m+1,h=>by rw[tQ,tQ,LR F G m (λk hk=>h k ω),h m ω]
theorem R4 (G:Nat->ByteArray) (n:Nat) (d:ByteArray):∀m,n<m->(tQ G m).set n (.string d)=tQ (xD G n d) m
 | 0,h=>by omega
 | m+1,h=>by
  rw[tQ,tQ];by_cases c:n<m
  . rw[NL _ _ (by grind [sW]),R4 G n d m c]
    grind [xD]
  obtain rfl:n=m:=by omega
  rw[Ea _ _ (by grind [sW]),sW,D4,LR (xD G n d) G n (λk hk=>by grind [xD])]
  grind [xD]
def oo (a b c d e:Value) (G:Nat->ByteArray):Array Value:=([a,b,c,d,e]++tQ G 256).toArray
theorem VR (a b c d e:Value) (G:Nat->ByteArray) (n:Nat) (h:n<256):(oo a b c d e G)[5+n]?=some (.string (G n)):=by
 grind [oo,Jh]
theorem aeI (a b c d e:Value) (G:Nat->ByteArray) (n:Nat) (x:ByteArray) (h:n<256):(oo a b c d e G).setIfInBounds (5+n) (.string x)=oo a b c d e (xD G n x):=by
 grind [oo,R4]
def uZ:Nat->ByteArray:=λ_=>⟨#[]⟩
def nI (hs:List bC):Nat->Nat->ByteArray
 | 0=>uZ
 | k+1=>xD (nI hs k) (bk hs k).page.toNat (ud (bk hs k))
theorem Jj (hr:iG hs=true) (n:Nat):nI hs hs.length n=fG hs n:=by
 have b:=I2 hs hr;have A:∀i,i<hs.length->1<=(bk hs i).page:=λi hi=>by
  have:=(tN hs hs.length hr i hi).1
  grind [cY,pM]
 have B:∀k,k<=hs.length->(∀i,i<k->(bk hs i).page≠(n:Int))->nI hs k n=⟨#[]⟩:=λk=>by
  induction k with
  | zero=>intro _ _;rfl
  | succ k ih =>
   intro hk h;show xD (nI hs k) _ _ n=_
   grind [xD]
 have q:∀k,k<=hs.length->∀j,j<k->(bk hs j).page=(n:Int)->nI hs k n=ud (bk hs j):=λk=>by
  induction k with
  | zero=>omega
  | succ k ih =>
   intro hk j hj e;show xD (nI hs k) _ _ n=_;unfold xD;by_cases c:j=k
   . grind
   have y:(bk hs j).page<(bk hs k).page:=by
    have:=(aja.1 b) j k Γ Γ ω
    grind [bk]
   grind
 unfold fG;cases g:je hs n with
 | none =>
  have h:=List.find?_eq_none.1 g
  grind [bk]
 | some s =>
  have hm:=aaZ g;have hp:=List.find?_some g;obtain⟨j,hj,rfl⟩:=mZ GD hm;exact q _ (aK _) j hj (jY hp)
theorem abX {s:bC} (h:cY s=true):jE s=(ud s,0):=by grind [jE]
theorem aeL {s:bC} (h:cY s=false):jE s=(⟨#[]⟩,1):=by grind [jE]
theorem OT (aS:Option Addr) (cS mb:Nat) (b c d e:Value) (w0 w:World) (h:kq w0 aS hs) (hf:uh hs) (hw:Below w0.heap.size w0 w) (hmb:w0.heap.size<=mb) (hm:w.heap[mb]?=some (.cells (oo (.slice aS hs.length cS) b c d e uZ) 158 (0,0))) (hl:hs.length<=255) :
  Calls prog 140 #[.pointer (some (Ad mb 0))] w λx w'=>x=.returned (.bool (iG hs))/\aH (λb=>b=mb) w w'/\∃G,w'.heap[mb]?=some (.cells (oo (.slice aS hs.length cS) b c d e G) 158 (0,0))/\(iG hs=true->G=nI hs hs.length):=by
 have HH:=ai h;have HF:=ai hf;have HW:=ai hw;have a2:=aQ hm;have m0:w.cell? (Ad mb 0)=some (.slice aS hs.length cS):=aA hm 0 rfl;have HM:=ai hm;have Pw:Hid (∀k,k<hs.length->(cY (bk hs k)=false\/(bk hs k).page<=(if k=0 then 0 else (bk hs (k-1)).page))->iG hs=false):=λk hk g=>ael hs k hk (by
  grind [uw,cY,pM])
 have y:Hid (∀k,k<hs.length->lC hs k=true->cY (bk hs k)=true->(if k=0 then 0 else (bk hs (k-1)).page)<(bk hs k).page->lC hs (k+1)=true):=λk hk h1 h2 h3=>by
  grind [lC,uw]
 clear h hf hw hm;go_enter func140,ntmps140;go_wp2;go_loopw [3,14] (λlv iv wr=>∃k:Nat,k<=hs.length/\iv=I (k:Int)/\lv=I (if k=0 then 0 else (bk hs (k-1)).page)/\lC hs k=true/\aH (λb=>b=mb) w wr/\wr.heap[mb]?=some (.cells (oo (.slice aS hs.length cS) b c d e (nI hs k)) 158 (0,0))) (λ_ iv _=>hs.length-(intOf iv).toNat)
 case atStart=>exact⟨0,ω,rfl,rfl,rfl,aH.refl _ _,HM.o⟩
 case round =>
  obtain⟨k,hk,rfl,rfl,hr,yz,R⟩:=hrel;have O:=ai yz;have N:=ai R;have HR:=ai hr;clear hr;obtain⟨L,hL⟩:∃L:Int,L=if k=0 then 0 else (bk hs (k-1)).page:=⟨_,rfl⟩
  rw[<- hL];by_cases IG:k<hs.length
  . have K:=yz.below HW.o ω (λb hb=>ω);have T:=ai K;obtain⟨bb,off,Y,U,di⟩:=HH.o ω;subst Y;obtain⟨d0,d1,d2,d3⟩:=di k IG;have a1:=yz.size;have c0:=(K.cell (p:=(Ad bb (off+k*3))) U).trans d0;have c1:=(K.cell (p:=(Ad bb (off+k*3+1))) U).trans d1;have c2:=(K.cell (p:=(Ad bb (off+k*3+2))) U).trans d2;have Qf:=HF.o.2 k IG;have HC:Hid (∀V,Below w0.heap.size w0 V->Calls prog 72 #[.agg (ux (bk hs k))] V λe w'=>e=.returned (.tuple #[.string (jE (bk hs k)).1,I (jE (bk hs k)).2])/\Below V.heap.size V w'):=λV hV=>Rz _ V (d3.below hV) Qf
    have Pw:=ai (Pw.o k IG);have y:=ai (y.o k IG HR.o);have Gt:=Qf.page;have A:Hid (nI hs (k+1)=xD (nI hs k) (bk hs k).page.toNat (ud (bk hs k))):=rfl;have F:Hid (cY (bk hs k)=true->1<=(bk hs k).page/\(bk hs k).page<=255):=λg=>by
     unfold cY pM at g;simp only[cK,fX] at g;omega
    have Y5:=ai (@abX (bk hs k));have J:=ai (@aeL (bk hs k));have M:Hid ((if k+1=0 then 0 else (bk hs (k+1-1)).page)=(bk hs k).page):=by
     show _=_;rw[aB ω,T5]
    unfold ux at HC;rw[<- hL] at Pw y;generalize bk hs k=S at c0 c1 c2 HC Pw y Gt A F Y5 J M;obtain⟨pg,dt,fx,fo,fc⟩:=S;simp only at c0 c1 c2 HC Pw y Gt A F Y5 J M;generalize fx.length=nx at c2 HC;clear hL d0 d1 d2 d3 di Qf K yz R;cases Bl:cY ⟨pg,dt,fx,fo,fc⟩ with
    | false =>
     have K5:=ai (Pw.o (.inl Bl));have B:=ai (J.o Bl);rw[B.o] at HC;clear Y5 J B Bl Pw y A F M;have iQ:=ai (T.o.alloc ω (.cells #[I pg,.string dt,.slice fo nx fc] 145));have KA:=ai ((O.o.trans (aH.alloc (λb=>b=mb) wr (.cells #[I pg,.string dt,.slice fo nx fc] 145)) (λ_ _ g=>g)));have MA:=ai (bu N.o (.cells #[I pg,.string dt,.slice fo nx fc] 145));have SA:=ai (bH wr #[I pg,.string dt,.slice fo nx fc] 145);clear HM m0 HH HF;go_wp2_with (go_at_call 72;refine(HC.o _ iQ.o).mono ?_;rintro e w1 ⟨rfl,q⟩;have cD:=ai q;have S1:=ai (aU SA.o q ξ);clear q);go_ret;have hM:=aU MA.o cD.o (by simp;omega);exact⟨dC (λb=>Ending.returned (.bool b)) K5.o.symm,KA.o.trans (aH.bQ cD.o) (λ_ _ g=>g),_,hM,λg=>by rw[K5.o] at g;cases g⟩
    | true =>
     have B:=ai (Y5.o Bl);rw[B.o] at HC;have a0:=F.o Bl;by_cases hlp:pg<=L
     . have K5:=ai (Pw.o (.inr hlp));clear Y5 J B Bl Pw y A F M;have iQ:=ai (T.o.alloc ω (.cells #[I pg,.string dt,.slice fo nx fc] 145));have KA:=ai ((O.o.trans (aH.alloc (λb=>b=mb) wr (.cells #[I pg,.string dt,.slice fo nx fc] 145)) (λ_ _ g=>g)));have MA:=ai (bu N.o (.cells #[I pg,.string dt,.slice fo nx fc] 145));have SA:=ai (bH wr #[I pg,.string dt,.slice fo nx fc] 145);clear HM m0 HH HF;go_wp2_with (go_at_call 72;refine(HC.o _ iQ.o).mono ?_;rintro e w1 ⟨rfl,q⟩;have cD:=ai q;have S1:=ai (aU SA.o q ξ);have s0:w1.cell? (Ad wr.heap.size 0)=some (I pg):=aA S1.out 0 rfl;clear q);go_ret;have hM:=aU MA.o cD.o (by simp;omega);exact⟨dC (λb=>Ending.returned (.bool b)) K5.o.symm,KA.o.trans (aH.bQ cD.o) (λ_ _ g=>g),_,hM,λg=>by rw[K5.o] at g;cases g⟩
     have Xy:=ai (y.o Bl ω);clear Y5 J B Bl Pw y F;have Z:¬mb=wr.heap.size:=by omega
     have iQ:=ai (T.o.alloc ω (.cells #[I pg,.string dt,.slice fo nx fc] 145));have KA:=ai ((O.o.trans (aH.alloc (λb=>b=mb) wr (.cells #[I pg,.string dt,.slice fo nx fc] 145)) (λ_ _ g=>g)));have MA:=ai (bu N.o (.cells #[I pg,.string dt,.slice fo nx fc] 145));have SA:=ai (bH wr #[I pg,.string dt,.slice fo nx fc] 145);clear HM m0 HH HF;go_wp2_with (go_at_call 72;refine(HC.o _ iQ.o).mono ?_;rintro e w1 ⟨rfl,q⟩;have cD:=ai q;have S1:=ai (aU SA.o q ξ);have s0:w1.cell? (Ad wr.heap.size 0)=some (I pg):=aA S1.out 0 rfl;clear q);obtain⟨n,rfl⟩:∃n:Nat,pg=(n:Int):=⟨pg.toNat,ω⟩;have hM:=aU MA.o cD.o (by simp;omega);have W:=ai hM;have K1:=ai (KA.o.trans (aH.bQ cD.o) (λ_ _ g=>g));have q5:w1.cell? (Ad mb (5+n))=some (.string (nI hs k n)):=aA hM (5+n) (VR _ _ _ _ _ _ n ω);have qf:w1.frozen? (Ad mb (5+n))=false:=bG hM (5+n);have n0:(0:Int)<=(n:Int):=by omega
     have n1:(n:Int)<256:=by omega
     rw[jW] at A;generalize ud { page:=(n:Int),data:=dt,dR:=fx,ao:=fo,cap:=fc }=FD at A ⊢;clear hM HC c0 c1 c2;go_region;have XE:=ai ((gH W.o (5+n) (.string FD)).trans (by rw[aeI _ _ _ _ _ _ n FD ω,<- A.o]));have K2:=ai (K1.o.trans ((aH.set (λb=>b=mb) w1 (Ad mb (5+n)) (.string FD) rfl).trans (aH.drew _ _) (λ_ _ g=>g)) (λ_ _ g=>g));have s2:(w1.setCell (Ad mb (5+n)) (.string FD)).drew.cell? (Ad wr.heap.size 0)=some (I (n:Int)):=(dH w1 mb (5+n) wr.heap.size 0 (.string FD) (λe=>Z e.symm)).trans s0;obtain⟨W2,Q⟩:=ex ((w1.setCell (Ad mb (5+n)) (.string FD)).drew);have X:Hid (W2.heap[mb]?=some (.cells (oo (.slice (some (Ad bb off)) hs.length cS) b c d e (nI hs (k+1))) 158 (0,0))):=by rw[Q];exact XE.o
     rw[<- Q] at K2 s2 ⊢;clear Q XE W K1 q5 qf s0;go_wp2;go_roundw
     case rel=>exact⟨k+1,ω,by go_num,by rw[aB ω,T5,<- M.o,aB ω,T5],Xy.o,K2.o,X.o⟩
     case measure=>simp[intOf];omega
  obtain rfl:k=hs.length:=by omega
  clear yz R hL;go_wp2;go_ret;exact⟨dC (λb=>Ending.returned (.bool b)) HR.o.symm,O.o,_,N.o,λ_=>rfl⟩
end Go.Proofs.YtlgoihmkgaaemaaGreat
