import Derived.Test.YtpgifpeohlllfaaGreatGR14
set_option maxHeartbeats 20000000
set_option linter.unusedVariables false
set_option maxRecDepth 100000
set_option linter.unusedSimpArgs false
namespace Go.Proofs.YtpgifpeohlllfaaGreat
open Go.RowKit
theorem GG (s:ByteArray) (q:Nat) (t:ByteArray) (h:q+t.size<=s.size):(gF s q t).size=s.size:=by
 have h1:(gF s q t).size=(gF s q t).data.toList.length:=by simp
 have h2:s.size=s.data.toList.length:=by simp
 have h3:t.size=t.data.toList.length:=by simp
 grind [gF]
theorem Cu (s:ByteArray) (a b:Nat) (h:b<=s.size) (hab:a<=b):(s.extract a b).size=b-a:=by
 simp_all
theorem Ii {a n:Int} (h1:1<=n) (h8:n<=8):(cD a n=a/16/\a%16+n<=16)∨(cD a n=a/16+1/\16<a%16+n):=by
 grind [cD]
structure CA (f:Int->ByteArray) (a n:Int):Prop where
 one:(f (a/16)).size=16
 two:(f (cD a n)).size=16
theorem vT {f:Int->ByteArray} {a n:Int} (h:CA f a n) (h1:1<=n) (h8:n<=8):((qT f a n).size:Int)=if cD a n=a/16 then 16 else 32:=by
 grind [qT,CA.one,CA.two]
theorem Cr {f:Int->ByteArray} {a n:Int} (h:CA f a n) (h1:1<=n) (h8:n<=8):(a%16).toNat+n.toNat<=(qT f a n).size:=by
 grind [vT,Ii]
theorem Rf {f:Int->ByteArray} {a:Int} {d:ByteArray} (h:CA f a d.size) (h1:1<=(d.size:Int)) (h8:(d.size:Int)<=8):((Cq f a d).size:Int)=if cD a d.size=a/16 then 16 else 32:=by
 unfold Cq;rw[GG _ _ _ (by have:=Cr h h1 h8;omega)]
 grind [vT]
structure Ik (k:aN) (j:Nat) (a:Int) (d:ByteArray) (r:aN):Prop where
 right:bc r
 aD:r.aD=k.aD
 nf:r.frames.length=k.frames.length
 ns:r.slots.length=k.slots.length
 np:r.aj.length=k.aj.length
 live:∀m,m<k.aj.length->(ak r.aj m).live=(ak k.aj m).live
 bk:∀m,m<k.aj.length->(ak r.aj m).bk=(ak k.aj m).bk
 Vt:∀m,m<k.aj.length->∀p,dO r m p=if m=j then Ie (dO k j) a d p else dO k m p
theorem Q4 {k:aN} (h:bc k) {j:Nat} (hj:j<k.aj.length) (a:Int) (d:ByteArray) (hd1:1<=(d.size:Int)) (hd8:(d.size:Int)<=8) (h1:dx k j (a/16)) (h2:dx k j (cD a d.size)):Ik k j a d (rT k j a d):=by
 have R:=nz h hj a d.size 1 h1 h2;have A:=L9 h hj a d.size h1 h2;have hP:CA (dO k j) a d.size:=⟨qu h hj h1,qu h hj h2⟩;have hL:=Rf hP hd1 hd8;have Vf:=Ii (a:=a) hd1 hd8;unfold rT;rw[yz h hj a d.size 1 h1 h2];obtain⟨s,hs⟩:=ex (Cq (dO k j) a d);have hs':gF (qT (dO k j) a d.size) (a%16).toNat d=s:=hs.symm;rw[hs'];rw[<- hs] at hL;obtain⟨K,hK⟩:=ex ((aW k j a d.size 1).2);have hr:=R.right;have Bo:=R.kept;rw[<- hK] at hr Bo A ⊢;have hjK:j<K.aj.length:=by grind [fp.np]
 by_cases c:cD a d.size=a/16
 · have e:(aW k j a d.size 1).1=[(eH k j a 1).1]:=by grind [aW]
   rw[e];show Ik k j a d (sQ K (eH k j a 1).1 (s.extract (0*16) (0*16+16)));rw[aR c] at hL;have hz:(s.extract (0*16) (0*16+16)).size=16:=Cu _ _ _ (by omega) (by omega);refine⟨yC hr hjK A.1 hz,Bo.aD,by show(List.set _ _ _).length=_;grind [fp.nf],Bo.ns,Bo.np,Bo.live,Bo.bk,fun m hm p=>?_⟩
   grind [Ab,Ie,fp.np,fp.Vt]
 · have e:(aW k j a d.size 1).1=[(eH k j a 1).1,(ir k j a d.size 1).1]:=by grind [aW]
   rw[e];show Ik k j a d (sQ (sQ K (eH k j a 1).1 (s.extract (0*16) (0*16+16))) (ir k j a d.size 1).1 (s.extract (1*16) (1*16+16)));rw[bf c] at hL;have hz:(s.extract (0*16) (0*16+16)).size=16:=Cu _ _ _ (by omega) (by omega);have hy:(s.extract (1*16) (1*16+16)).size=16:=Cu _ _ _ (by omega) (by omega);have A2:=A.2 c;have hne:=rC hr hjK hjK A.1.here A2.here c;have r1:=yC hr hjK A.1 hz;have B:pX (sQ K (eH k j a 1).1 (s.extract (0*16) (0*16+16))) j (cD a d.size) (ir k j a d.size 1).1:=by
    have at_:au (sQ K (eH k j a 1).1 (s.extract (0*16) (0*16+16))).frames (ir k j a d.size 1).1=au K.frames (ir k j a d.size 1).1:=by
     show au (List.set _ _ _) _=_
     grind [iD,pX.lt]
    exact⟨A2.here,by show _<(List.set _ _ _).length;rw[iG];exact A2.lt,by grind [pX.refs],by grind [pX.eX]⟩
   refine⟨yC r1 hjK B hy,Bo.aD,by show(List.set (List.set _ _ _) _ _).length=_;grind [fp.nf],Bo.ns,Bo.np,Bo.live,Bo.bk,fun m hm p=>?_⟩;have hmK:m<K.aj.length:=by grind [fp.np]
   rw[Ab r1 hjK B _ (m:=m) hmK,Ab hr hjK A.1 _ hmK]
   grind [Ie,fp.Vt]
open Go.RowKit
def aaO (l:List Qh) (s:ByteArray):Option Nat:=l.findIdx? (fun y=>decide (y.name=s))
def acN (o:jt) (s:ByteArray):Option Int:=match aaO o.i.syms s with
 | none=>none
 | some k=>some (uF o (Qg o.i.syms k).pos)
def Tx (l:List jt) (s:ByteArray):Nat->Option Int
 | 0=>none
 | k+1=>match Tx l s k with
  | some t=>some t
  | none=>acN (dA l k) s
def Qo (l:List jt) (o:jt) (s:ByteArray):Option Int:=if s=⟨#[]⟩ then some (uF o 0) else Tx l s l.length
theorem FP {i:tu} (hc:kY i=0):C8 i=true:=by
 grind [kY]
theorem FI:∀{l:List nO} {a:Int} {s:nO},qh l a=some s->(∃k,k<l.length/\dX l k=s)/\pI s a=true
 | [],a,s,h=>by cases h
 | x::r,a,s,h=>by
  simp only[qh] at h;split at h
  · rename_i hi
    injection h with h;subst h;exact⟨⟨0,by simp,rfl⟩,hi⟩
  · obtain⟨⟨k,hk,e⟩,hi⟩:=FI h;exact⟨⟨k+1,by grind,by grind [dX]⟩,hi⟩
theorem tF {i:tu} (hc:kY i=0) {a:Int} (h:gW i.iV a=true):0<=a/\a<4080:=by
 unfold gW at h;obtain⟨s,hs⟩:=Option.isSome_iff_exists.1 h;obtain⟨⟨k,hk,e⟩,hi⟩:=FI hs;have hb:=ue hc k hk
 grind [pI]
theorem FN (i:tu):∀n,Fq i n=true->∀k,k<n->KG i k=true
 | 0,_,k,hk=>by omega
 | n+1,h,k,hk=>by
  simp only[Fq,cR] at h;by_cases e:k=n
  · grind
  · exact FN i n h.1 k (by omega)
theorem Y9 {i:tu} (hc:kY i=0) (k:Nat) (hk:k<i.n7.length):KG i k=true:=by
 have h:=FP hc
 grind [C8,FN]
theorem Nq {i:tu} (hc:kY i=0) (k:Nat) (hk:k<i.n7.length):0<=(rG i.n7 k).pos/\(rG i.n7 k).pos+7<4080:=by
 have h:=Y9 hc k hk;unfold KG Tj at h;simp only[cR] at h;have h0:=tF hc h.2.1;have h7:=tF hc h.2.2.2.2.2.2.2.2;omega
theorem JL {i:tu} (hc:kY i=0):0<=i.entry/\i.entry<4080:=by
 have h:=FP hc;unfold C8 at h;simp only[cR] at h;have he:=h.2.2;unfold yV at he;refine tF hc ?_
 grind [gW]
def acO (o:jt) (r:Nh) (t:Int):nj:=⟨uF o r.pos,⟨(Lib.leBytes 8 (uV (t+r.add))).toArray⟩⟩
def qN (l:List jt) (o:jt):Nat->Option (List nj)
 | 0=>some []
 | k+1=>match qN l o k with
  | none=>none
  | some ps=>match Qo l o (rG o.i.n7 k).name with
   | none=>none
   | some t=>some (ps++[acO o (rG o.i.n7 k) t])
def r9 (l:List jt) (o:jt):Option (List nj):=qN l o o.i.n7.length
theorem FQ {l:List jt} {o:jt}:∀{k:Nat} {ps:List nj},qN l o k=some ps->ps.length=k
 | 0,ps,h=>by grind [qN]
 | k+1,ps,h=>by
  simp only[qN] at h;cases e:qN l o k with
  | none=>grind
  | some qs =>
   rw[e] at h;simp only at h;cases g:Qo l o (rG o.i.n7 k).name with
   | none=>grind
   | some t =>
    rw[g] at h;simp only at h;injection h with h;subst h;rw[fk,FQ e];rfl
open Go.RowKit
structure Bz where
 page:Int
 data:ByteArray
 cM:List kW
def dB (s:bR):Bz:=⟨s.page,s.data,s.cM⟩
def VP (o:jt) (ps:List nj) (s:nO) (m:Nat):Bz:=⟨o.base+s.page+(m:Int),su s m,jI (o.base+s.page+(m:Int)) ps⟩
def wJ (o:jt) (ps:List nj) (s:nO) (n:Nat):List Bz:=(List.range n).map (VP o ps s)
def uE (o:jt) (ps:List nj):Nat->List Bz
 | 0=>[]
 | k+1=>uE o ps k++wJ o ps (dX o.i.iV k) (dX o.i.iV k).bC.toNat
def qO (l:List jt):Nat->Option (List Bz)
 | 0=>some []
 | k+1=>match qO l k with
  | none=>none
  | some E=>match r9 l (dA l k) with
   | none=>none
   | some ps=>some (E++uE (dA l k) ps (dA l k).i.iV.length)
def pP (l:List jt):Option (List Bz):=qO l l.length
theorem Ns (o:jt) (ps:List nj) (s:nO) (n:Nat):wJ o ps s (n+1)=wJ o ps s n++[VP o ps s n]:=by
 grind [wJ,List.range_succ]
theorem DA {l:List jt} {k:Nat} (h:qO l k=none):∀n,k<=n->qO l n=none
 | 0,hn=>by grind
 | n+1,hn=>by
  by_cases e:k=n+1
  · grind
  · simp only[qO];rw[DA h n (by omega)]
theorem Ll {l:List jt} {o:jt} (hc:kY o.i=0) (h0:1<=o.base) (h1:o.base<=2000):∀(k:Nat) (ps:List nj),k<=o.i.n7.length->qN l o k=some ps->∀j,j<ps.length->Qx (ug ps j)
 | 0,ps,_,h,j,hj=>by grind [qN]
 | k+1,ps,hk,h,j,hj=>by
  simp only[qN] at h;cases e:qN l o k with
  | none=>grind
  | some qs =>
   rw[e] at h;simp only at h;cases g:Qo l o (rG o.i.n7 k).name with
   | none=>grind
   | some t =>
    rw[g] at h;simp only at h;injection h with h;subst h;rw[fk] at hj;by_cases hjq:j<qs.length
    · have:=Ll hc h0 h1 k qs (by omega) e j hjq
      grind [ug]
    · have hje:j=qs.length:=by grind
      subst hje;unfold ug;rw[lU,E8 (aI _),Nat.sub_self];have hb:=Nq hc k (by omega);refine⟨?_,?_,?_⟩
      · show 0<=o.base*16+(rG o.i.n7 k).pos;omega
      · show o.base*16+(rG o.i.n7 k).pos<=1000000;omega
      rfl
def pd (rb:Option Nat) (w:World) (ao:Option Addr) (l:List kW):Prop:=0<l.length->∃b off,ao=some (Ad b off)/\b<w.heap.size/\some b≠rb/\zN w b off l
theorem pd.has {rb:Option Nat} {w:World} {ao:Option Addr} {l:List kW} (h:pd rb w ao l):kQ w ao l:=fun hl=>by
 obtain⟨b,off,h1,h2,_,h3⟩:=h hl
 grind
theorem pd.below {rb:Option Nat} {w w':World} {ao:Option Addr} {l:List kW} (h:pd rb w ao l) (hb:Below w.heap.size w w'):pd rb w' ao l:=fun hl=>by
 obtain⟨b,off,h1,h2,h3,h4⟩:=h hl
 grind [Nat.lt_of_lt_of_le,Ym,Below.size]
theorem Nt {w w':World} {b off:Nat} {l:List kW} (h:zN w b off l) (hb:w'.heap[b]?=w.heap[b]?):zN w' b off l:=fun i hi=>by
 obtain⟨c0,c1⟩:=h i hi
 grind [World.cell?_of_block]
theorem pd.grown {rb:Option Nat} {w w':World} {ao:Option Addr} {l:List kW} {g:Nat} (h:pd rb w ao l) (hg:w.grownBy w' rb) (hs:w.heap.size<=w'.heap.size) (hat:rb=some g∨g=w.heap.size):pd (some g) w' ao l:=fun hl=>by
 obtain⟨b,off,h1,h2,h3,h4⟩:=h hl
 grind [Nt,World.grownBy.block]
def Yo (rb:Option Nat) (w:World) (hs:List bR):Prop:=∀k,k<hs.length->pd rb w (aV hs k).ao (aV hs k).cM
def Bw (s:bR):List Value:=[I s.page,.string s.data,.slice s.ao s.cM.length s.cap]
theorem Qq (l:List bR) (x:bR) (k:Nat) (h:k<l.length):aV (l++[x]) k=aV l k:=by
 grind [aV]
theorem Qr (l:List bR) (x:bR):aV (l++[x]) l.length=x:=by
 grind [aV]
open Go.RowKit
def cW (xs ys:List bR):Prop:=ys.map dB=xs.map dB
def bN (k:aN) (hs:List bR):aN:=⟨hs,k.frames,k.slots,k.aj,k.hand⟩
theorem cW.len {xs ys:List bR} (h:cW xs ys):ys.length=xs.length:=by
 have:=dQ List.length h
 grind
theorem pU {a b:bR} (h:dB a=dB b):a.page=b.page/\a.data=b.data/\a.cM=b.cM:=by
 injection h with h1 h2 h3
 grind
theorem cW.at {xs ys:List bR} (h:cW xs ys) (i:Nat):dB (aV ys i)=dB (aV xs i):=by
 unfold cW at h;unfold aV;have h1:(ys.map dB)[i]?=(xs.map dB)[i]?:=by rw[h]
 grind
theorem NV {a b:bR} (h:dB a=dB b):mI a=mI b:=by
 obtain⟨h1,h2,h3⟩:=pU h
 grind [mI]
theorem NU {a b:bR} (h:dB a=dB b):cu a=cu b:=by
 grind [pU,cu,jY]
theorem Ck (p:Int):∀(xs ys:List bR),cW xs ys->(cY ys p).map dB=(cY xs p).map dB
 | [],[],_=>rfl
 | [],b::r,h=>by have:=dQ List.length h;grind
 | a::r,[],h=>by have:=dQ List.length h;grind
 | a::r,b::t,h=>by
  have h:dB b::t.map dB=dB a::r.map dB:=h;injection h with h1 h2;have ih:=Ck p r t h2
  grind [pU,cY]
theorem Cl {xs ys:List bR} (h:cW xs ys) (p:Int):eO ys p=eO xs p:=by
 grind [Ck,eO,NV]
theorem Q8 {xs ys:List bR} (h:cW xs ys) (p:Int):(cY ys p).isSome=(cY xs p).isSome:=by
 have:=dQ Option.isSome (Ck p xs ys h)
 grind
theorem DN {xs ys:List bR} (h:cW xs ys) (p:Int) (z:Bool):dY ys p z=dY xs p z:=by
 grind [dY,Cl]
theorem GC {xs ys:List bR} (h:cW xs ys):ed ys=ed xs:=by
 have:∀n,gX ys n=gX xs n:=fun n=>by
  induction n with
  | zero=>rfl
  | succ n ih =>
   grind [gX,NU,kZ,pU,cW.at]
 grind [ed,cW.len]
theorem bc.Du {k:aN} (h:bc k) {hs:List bR} (s:cW k.aD hs):bc (bN k hs):=by
 refine⟨?_,(GC s).trans h.kP,h.hand,fun x hx=>?_,h.room,fun i hi=>?_,h.slt⟩
 · have:=h.c;have e:=s.len;refine dI ?_;show(3<=k.frames.length/\k.frames.length<=64)/\k.slots.length<=512/\(1<=k.aj.length/\k.aj.length<=4)/\hs.length<=255;omega
 · have g:=h.each x hx;exact⟨g.dead,g.bk,g.kP,g.Hf,fun p h1 h2=>(Q8 s p).trans (g.aD p h1 h2)⟩
 · have g:=h.yS i hi;exact⟨g.refs,g.zero,g.one,g.size,fun d x hx=>(g.fill d x hx).trans (DN s _ _).symm⟩
theorem Mi (k:aN) (hs:List bR) (i:Nat):dh (bN k hs) i=bN (dh k i) hs:=by
 grind [dh,Ci,bN,uK]
theorem Cy (held:List Int) (hs:List bR):∀(n:Nat) (k:aN),lY held n (bN k hs)=bN (lY held n k) hs
 | 0,k=>rfl
 | n+1,k=>by
  unfold lY;show(if ju held k=true then lY held n (bN (gJ held k) hs) else bN k hs)=_;by_cases c:ju held k=true
  · rw[aR c,aR c];exact Cy held hs n _
  grind
theorem GJ (k:aN) (hs:List bR) (held:List Int):bE (bN k hs) held=((bE k held).1,bN (bE k held).2 hs):=by
 unfold bE;show(match pk k.frames with
  | some i=>(i,bN k hs)
  | none=>_)=_
 cases pk k.frames with
 | some i=>rfl
 | none =>
  show(_,_)=(_,_);rw[Cy,show(bN (lY held 70 k) hs).hand=(lY held 70 k).hand from rfl,Mi];rfl
theorem Me (k:aN) (hs:List bR) (e:bG):cK (bN k hs) e=bN (cK k e) hs:=by unfold cK;split <;> rfl
theorem yB (k:aN) (hs:List bR) (j:Nat) (p:Int) (i:Nat) (d:ByteArray) (dy:Bool):dR (bN k hs) j p i d dy=bN (dR k j p i d dy) hs:=by
 unfold dR;show(match bD (ak k.aj j).aU p with
  | none=>_
  | some e=>_)=_
 cases bD (ak k.aj j).aU p with
 | none=>rfl
 | some e=>exact Me (df (ez k i d dy) j ⟨p,1,i⟩) hs e
theorem Ih {k:aN} (h:bc k) {held:List Int} (hl:held.length<=2) {hs:List bR} (s:cW k.aD hs) (j:Nat) (p:Int):cI (bN k hs) j p held=((cI k j p held).1,bN (cI k j p held).2 hs):=by
 have hsh:=(ll h hl).kept.aD;unfold cI;show(match bD (ak k.aj j).aU p with
  | some e=>_
  | none=>_)=_
 rw[GJ];cases bD (ak k.aj j).aU p with
 | none =>
  dsimp only;rw[yB];show(_,bN (dR _ _ _ _ (dY hs p _) _) hs)=_;rw[DN s,hsh];rfl
 | some e =>
  dsimp only;by_cases c:e.kind=1
  · grind
  · rw[bf c,bf c,yB];rfl
theorem Mj (k:aN) (hs:List bR) (held:List Int) (j:Nat) (p:Int) (a:Nat):iB (bN k hs) j p a held=((iB k j p a held).1,bN (iB k j p a held).2 hs):=by
 grind [iB,GJ,bN,yB]
theorem xg {k:aN} (h:bc k) {held:List Int} (hl:held.length<=2) {hs:List bR} (s:cW k.aD hs) (j:Nat) (p way:Int):cQ (bN k hs) j p way held=((cQ k j p way held).1,bN (cQ k j p way held).2 hs):=by
 have e:fQ (bN k hs) j p way held=((fQ k j p way held).1,bN (fQ k j p way held).2 hs):=by
  grind [fQ,Ih,Mj]
 unfold cQ;rw[e];rfl
theorem wU {k:aN} (h:bc k) {j:Nat} (hj:j<k.aj.length) {a n way:Int} (h1:dx k j (a/16)) {hs:List bR} (s:cW k.aD hs):aW (bN k hs) j a n way=((aW k j a n way).1,bN (aW k j a n way).2 hs):=by
 grind [mj,eH,xg,ir,aW,ft.kept,fp.aD,ft.right]
theorem DR (k:aN) (hs:List bR) (ids:List Nat) (s:ByteArray):∀n,j3 (bN k hs) ids s n=bN (j3 k ids s n) hs
 | 0=>rfl
 | n+1=>by
  unfold j3;rw[DR k hs ids s n];rfl
theorem Mh (k:aN) (hs:List bR) (e:bG) (d:Int):jr (bN k hs) e d=bN (jr k e d) hs:=by unfold jr;split <;> rfl
open Go.RowKit
variable {lo mb:Nat} {tt:TypeId} {X:List Value} {w:World} {S:dE} {k:aN}
theorem Ud {w:World} {mb:Nat} {hand:Int} (hm:w.heap[mb]?=some (.cells #[Nl,Nl,Nl,Nl,I hand] 27 (0,0))):bu mb mb 27 [] w ⟨fun b=>if b=mb then .head else .no,Nl,Nl,Nl,Nl,[]⟩ ⟨[],[],[],[],hand⟩ :=
 ⟨⟨fun b hb=>by
   grind,
  jz _ _ _ _,fun i hi=>absurd hi (gN _),jz _ _ _ _,jz _ _ _ _,jz _ _ _ _,rfl,fun i hi=>absurd hi (gN _),(fun b hb=>by cases hb),fun i hi=>absurd hi (gN _),(fun b hb=>by cases hb),(fun b hb=>by cases hb),(fun b hb=>by cases hb),fun i hi=>absurd hi (gN _),fun i hi=>absurd hi (gN _)⟩,hm,aR rfl⟩
theorem Gv (L:List bR) (l:bR) (i:Nat) (hi:i<L.length+1):aV (L++[l]) i=if i<L.length then aV L i else l:=by
 grind [aV]
def zX (S:dE) (v:Value) (n:Nat) (x:Value):Nat->jO:=fun b=>if v.ownBlock=some b then .aD else if x.ownBlock=some b then .cM n else S.lab b
theorem bu.ag1 {w2 w4:World} {v':Value} {s:bR} {O:Obj} (h:bu lo mb tt X w S k) (hlo:lo<=w.heap.size) (hb2:Below w.heap.size w w2)
  (Vv:w2.ownsRow w.heap.size 52 2 (vd s) s.cM.length (s.cM.flatMap gZ)) (hgr:(w2.alloc O).grownBy w4 S.vS.ownBlock) (hown:w4.ownsRow lo 50 3 v' (k.aD.length+1) (k.aD.flatMap fN++fN s))
  (hat:v'.ownBlock=S.vS.ownBlock∨v'.ownBlock=some (w2.alloc O).heap.size) :
  bu lo mb tt X (w4.setCell (Ad mb 0) v') ⟨zX S v' k.aD.length (vd s),v',S.vF,S.vL,S.vP,S.L⟩ { k with aD:=k.aD++[s] }/\aM (fun b=>S.lab b≠.no) w (w4.setCell (Ad mb 0) v'):=by
 have s1:=hb2.size;have s2:=hgr.size;have hz:(w2.alloc O).heap.size=w2.heap.size+1:=ig _ _;rw[hz] at s2 hat
 have kA:aM (bQ S.vS) w w2:=aM.cH hb2;have kB:aM (bQ S.vS) w2 (w2.alloc O):=aM.alloc _ w2 O;have kC:aM (bQ S.vS) (w2.alloc O) w4:=aM.grown hgr (fun _ e=>e);have kD:=kA.trans (kB.trans kC (fun _ _ g=>g)) (fun _ _ g=>g);have pN:aM (fun b=>b=mb) w4 (w4.setCell (Ad mb 0) v'):=aM.set _ _ _ _ rfl;have eA:∀b,bQ (vd s) b->w.heap.size<=b/\b<w2.heap.size:=fun b hb=>Vv.lt b hb
 have hvb:∀b,bQ S.vS b->b<w.heap.size:=fun b hb=>(h.aD.lt b hb).2
 have hv4:∀b,bQ v' b->bQ S.vS b∨b=w2.heap.size+1:=fun b hb=>by
  grind [bQ]
 have hmb:=aT h.head;have old:∀b c,S.lab b=c->c≠.no->c≠.aD->zX S v' k.aD.length (vd s) b=c:=fun b c e h1 h2=>by
  have hb:=(h.rV b (by grind)).2;unfold zX;rw[bf,bf,e]
  · intro x;have:=eA b x;omega
  · intro x;rcases hv4 b x with g | g
    · exact h2 (by rw[<- e];exact h.lS b g)
    · omega
 have zD:∀{b:Nat} {c:jO},S.lab b=c->c≠.aD->¬bQ S.vS b:=fun e hc x=>hc (by rw[<- e];exact h.lS _ x)
 have zH:∀{b:Nat} {c:jO},S.lab b=c->c≠.head->¬b=mb:=fun e hc x=>hc (by rw[<- e,x];exact h.lH)
 have row:∀{e:TypeId} {n m:Nat} {v:Value} {xs:List Value},w.ownsRow lo e n v m xs->(∀b,bQ v b->¬bQ S.vS b/\¬b=mb)->(w4.setCell (Ad mb 0) v').ownsRow lo e n v m xs:=fun hr hq=>pN.row (kD.row hr (fun b hb=>(hq b hb).1)) (fun b hb=>(hq b hb).2)
 refine⟨⟨⟨fun b hb=>?_,?_,fun i hi=>?_,row h.frames (fun b hb=>⟨zD (h.lF b hb) (by simp),zH (h.lF b hb) (by simp)⟩),row h.slots (fun b hb=>⟨zD (h.lL b hb) (by simp),zH (h.lL b hb) (by simp)⟩),row h.aj (fun b hb=>⟨zD (h.lP b hb) (by simp),zH (h.lP b hb) (by simp)⟩),h.len,fun i hi=>?_,fun b hb=>aR hb,fun i hi b hb=>?_,fun b hb=>old b _ (h.lF b hb) (by simp) (by simp),fun b hb=>old b _ (h.lL b hb) (by simp) (by simp),fun b hb=>old b _ (h.lP b hb) (by simp) (by simp),fun i hi b hb=>old b _ (h.lA i hi b hb) (by simp) (by simp),fun i hi b hb=>old b _ (h.lE i hi b hb) (by simp) (by simp)⟩,?_,old mb _ h.lH (by simp) (by simp)⟩,?_⟩
 · have hb:zX S v' k.aD.length (vd s) b≠.no:=hb;have hs4:(w4.setCell (Ad mb 0) v').heap.size=w4.heap.size:=by simp
   rw[hs4];unfold zX at hb;by_cases c:v'.ownBlock=some b
   · exact hown.lt b c
   · rw[bf c] at hb;by_cases d:(vd s).ownBlock=some b
     · have:=eA b d;omega
     · rw[bf d] at hb;have:=h.rV b hb;omega
 · show World.ownsRow _ lo _ 3 v' (k.aD++[s]).length ((k.aD++[s]).flatMap fN);rw[fk,vt,qg];have:w4.ownsRow lo 50 3 v' (k.aD.length+1) (k.aD.flatMap fN++[s].flatMap fN):=by grind
   exact pN.row this (fun b hb e=>by
    rcases hv4 b hb with g | g
    · grind
    · omega)
 · have hi:i<(k.aD++[s]).length:=hi;rw[fk,vt] at hi;show World.ownsRow _ lo _ 2 (vd (aV (k.aD++[s]) i)) (aV (k.aD++[s]) i).cM.length ((aV (k.aD++[s]) i).cM.flatMap gZ);rw[Gv _ _ _ hi];by_cases c:i<k.aD.length
   · rw[aR c];exact row (h.cM i c) (fun b hb=>⟨zD (h.lX i c b hb) (by simp),zH (h.lX i c b hb) (by simp)⟩)
   · rw[bf c];refine pN.row ((kB.trans kC (fun _ _ g=>g)).row (mr Vv (fun g hg=>by have:=eA g hg;omega)) (fun b hb g=>?_)) (fun b hb e=>?_)
     · have:=hvb b g;have:=eA b hb;omega
     · have:=eA b hb;omega
 · exact((h.each i hi).kp kD (fun b hb=>zD (h.lA i hi b hb) (by simp)) (fun b hb=>zD (h.lE i hi b hb) (by simp))).kp pN (fun b hb=>zH (h.lA i hi b hb) (by simp)) (fun b hb=>zH (h.lE i hi b hb) (by simp))
 · have hi:i<(k.aD++[s]).length:=hi;rw[fk,vt] at hi;have hb:bQ (vd (aV (k.aD++[s]) i)) b:=hb;rw[Gv _ _ _ hi] at hb;by_cases c:i<k.aD.length
   · rw[aR c] at hb;exact old b _ (h.lX i c b hb) (by simp) (by simp)
   · have e:i=k.aD.length:=by omega
     rw[bf c] at hb;have hx:=eA b hb;show zX S v' k.aD.length (vd s) b=.cM i;unfold zX;rw[bf,aR (show(vd s).ownBlock=some b from hb),e];intro x;rcases hv4 b x with g | g
     · grind
     · omega
 · have:w4.heap[mb]?=some (.cells ([S.vS,S.vF,S.vL,S.vP,I k.hand]++X).toArray tt (0,0)):=kD.keep h.head (fun x=>by grind);rw[dD this 0 v'];simp
 · exact(kD.mono (fun b _ g=>by grind)).trans pN (fun b _ e=>by grind)
def Gx (S:dE) (v:Value):Nat->jO:=fun b=>if v.ownBlock=some b then .frames else S.lab b
theorem bu.ak6 {w4:World} {v':Value} {fs:List jm} (h:bu lo mb tt X w S k) (hgr:w.grownBy w4 S.vF.ownBlock) (hown:w4.ownsRow lo 40 4 v' fs.length (fs.flatMap fB)) (hat:v'.ownBlock=S.vF.ownBlock∨v'.ownBlock=some w.heap.size) :
  bu lo mb tt X (w4.setCell (Ad mb 1) v') ⟨Gx S v',S.vS,v',S.vL,S.vP,S.L⟩ { k with frames:=fs }/\aM (fun b=>S.lab b≠.no) w (w4.setCell (Ad mb 1) v'):=by
 have s2:=hgr.size;have kD:aM (bQ S.vF) w w4:=aM.grown hgr (fun _ e=>e);have pN:aM (fun b=>b=mb) w4 (w4.setCell (Ad mb 1) v'):=aM.set _ _ _ _ rfl;have hv4:∀b,bQ v' b->bQ S.vF b∨b=w.heap.size:=fun b hb=>by
  grind [bQ]
 have hmb:=aT h.head;have old:∀b c,S.lab b=c->c≠.no->c≠.frames->Gx S v' b=c:=fun b c e h1 h2=>by
  have hb:=(h.rV b (by grind)).2;unfold Gx;rw[bf,e];intro x;rcases hv4 b x with g | g
  · exact h2 (by rw[<- e];exact h.lF b g)
  · omega
 have zD:∀{b:Nat} {c:jO},S.lab b=c->c≠.frames->¬bQ S.vF b:=fun e hc x=>hc (by rw[<- e];exact h.lF _ x)
 have zH:∀{b:Nat} {c:jO},S.lab b=c->c≠.head->¬b=mb:=fun e hc x=>hc (by grind [lH])
 have row:∀{e:TypeId} {n m:Nat} {v:Value} {xs:List Value},w.ownsRow lo e n v m xs->(∀b,bQ v b->¬bQ S.vF b/\¬b=mb)->(w4.setCell (Ad mb 1) v').ownsRow lo e n v m xs:=fun hr hq=>pN.row (kD.row hr (fun b hb=>(hq b hb).1)) (fun b hb=>(hq b hb).2)
 refine⟨⟨⟨fun b hb=>?_,row h.aD (fun b hb=>⟨zD (h.lS b hb) (by simp),zH (h.lS b hb) (by simp)⟩),fun i hi=>row (h.cM i hi) (fun b hb=>⟨zD (h.lX i hi b hb) (by simp),zH (h.lX i hi b hb) (by simp)⟩),?_,row h.slots (fun b hb=>⟨zD (h.lL b hb) (by simp),zH (h.lL b hb) (by simp)⟩),row h.aj (fun b hb=>⟨zD (h.lP b hb) (by simp),zH (h.lP b hb) (by simp)⟩),h.len,fun i hi=>?_,fun b hb=>old b _ (h.lS b hb) (by simp) (by simp),fun i hi b hb=>old b _ (h.lX i hi b hb) (by simp) (by simp),fun b hb=>aR hb,fun b hb=>old b _ (h.lL b hb) (by simp) (by simp),fun b hb=>old b _ (h.lP b hb) (by simp) (by simp),fun i hi b hb=>old b _ (h.lA i hi b hb) (by simp) (by simp),fun i hi b hb=>old b _ (h.lE i hi b hb) (by simp) (by simp)⟩,?_,old mb _ h.lH (by simp) (by simp)⟩,?_⟩
 · have hb:Gx S v' b≠.no:=hb;have hs4:(w4.setCell (Ad mb 1) v').heap.size=w4.heap.size:=by simp
   rw[hs4];unfold Gx at hb;by_cases c:v'.ownBlock=some b
   · exact hown.lt b c
   · rw[bf c] at hb;have:=h.rV b hb;omega
 · exact pN.row hown (fun b hb e=>by
    rcases hv4 b hb with g | g
    · grind
    · omega)
 · exact((h.each i hi).kp kD (fun b hb=>zD (h.lA i hi b hb) (by simp)) (fun b hb=>zD (h.lE i hi b hb) (by simp))).kp pN (fun b hb=>zH (h.lA i hi b hb) (by simp)) (fun b hb=>zH (h.lE i hi b hb) (by simp))
 · have:w4.heap[mb]?=some (.cells ([S.vS,S.vF,S.vL,S.vP,I k.hand]++X).toArray tt (0,0)):=kD.keep h.head (fun x=>by grind);rw[dD this 1 v'];simp
 · exact(kD.mono (fun b _ g=>by grind)).trans pN (fun b _ e=>by grind)
def Gw (S:dE) (v:Value):Nat->jO:=fun b=>if v.ownBlock=some b then .slots else S.lab b
theorem bu.ak5 {w4:World} {v':Value} {fs:List lD} (h:bu lo mb tt X w S k) (hgr:w.grownBy w4 S.vL.ownBlock) (hown:w4.ownsRow lo 86 2 v' fs.length (fs.flatMap fA)) (hat:v'.ownBlock=S.vL.ownBlock∨v'.ownBlock=some w.heap.size) :
  bu lo mb tt X (w4.setCell (Ad mb 2) v') ⟨Gw S v',S.vS,S.vF,v',S.vP,S.L⟩ { k with slots:=fs }/\aM (fun b=>S.lab b≠.no) w (w4.setCell (Ad mb 2) v'):=by
 have s2:=hgr.size;have kD:aM (bQ S.vL) w w4:=aM.grown hgr (fun _ e=>e);have pN:aM (fun b=>b=mb) w4 (w4.setCell (Ad mb 2) v'):=aM.set _ _ _ _ rfl;have hv4:∀b,bQ v' b->bQ S.vL b∨b=w.heap.size:=fun b hb=>by
  grind [bQ]
 have hmb:=aT h.head;have old:∀b c,S.lab b=c->c≠.no->c≠.slots->Gw S v' b=c:=fun b c e h1 h2=>by
  have hb:=(h.rV b (by grind)).2;unfold Gw;rw[bf,e];intro x;rcases hv4 b x with g | g
  · exact h2 (by rw[<- e];exact h.lL b g)
  · omega
 have zD:∀{b:Nat} {c:jO},S.lab b=c->c≠.slots->¬bQ S.vL b:=fun e hc x=>hc (by rw[<- e];exact h.lL _ x)
 have zH:∀{b:Nat} {c:jO},S.lab b=c->c≠.head->¬b=mb:=fun e hc x=>hc (by grind [lH])
 have row:∀{e:TypeId} {n m:Nat} {v:Value} {xs:List Value},w.ownsRow lo e n v m xs->(∀b,bQ v b->¬bQ S.vL b/\¬b=mb)->(w4.setCell (Ad mb 2) v').ownsRow lo e n v m xs:=fun hr hq=>pN.row (kD.row hr (fun b hb=>(hq b hb).1)) (fun b hb=>(hq b hb).2)
 refine⟨⟨⟨fun b hb=>?_,row h.aD (fun b hb=>⟨zD (h.lS b hb) (by simp),zH (h.lS b hb) (by simp)⟩),fun i hi=>row (h.cM i hi) (fun b hb=>⟨zD (h.lX i hi b hb) (by simp),zH (h.lX i hi b hb) (by simp)⟩),row h.frames (fun b hb=>⟨zD (h.lF b hb) (by simp),zH (h.lF b hb) (by simp)⟩),?_,row h.aj (fun b hb=>⟨zD (h.lP b hb) (by simp),zH (h.lP b hb) (by simp)⟩),h.len,fun i hi=>?_,fun b hb=>old b _ (h.lS b hb) (by simp) (by simp),fun i hi b hb=>old b _ (h.lX i hi b hb) (by simp) (by simp),fun b hb=>old b _ (h.lF b hb) (by simp) (by simp),fun b hb=>aR hb,fun b hb=>old b _ (h.lP b hb) (by simp) (by simp),fun i hi b hb=>old b _ (h.lA i hi b hb) (by simp) (by simp),fun i hi b hb=>old b _ (h.lE i hi b hb) (by simp) (by simp)⟩,?_,old mb _ h.lH (by simp) (by simp)⟩,?_⟩
 · have hb:Gw S v' b≠.no:=hb;have hs4:(w4.setCell (Ad mb 2) v').heap.size=w4.heap.size:=by simp
   rw[hs4];unfold Gw at hb;by_cases c:v'.ownBlock=some b
   · exact hown.lt b c
   · rw[bf c] at hb;have:=h.rV b hb;omega
 · exact pN.row hown (fun b hb e=>by
    rcases hv4 b hb with g | g
    · grind
    · omega)
 · exact((h.each i hi).kp kD (fun b hb=>zD (h.lA i hi b hb) (by simp)) (fun b hb=>zD (h.lE i hi b hb) (by simp))).kp pN (fun b hb=>zH (h.lA i hi b hb) (by simp)) (fun b hb=>zH (h.lE i hi b hb) (by simp))
 · have:w4.heap[mb]?=some (.cells ([S.vS,S.vF,S.vL,S.vP,I k.hand]++X).toArray tt (0,0)):=kD.keep h.head (fun x=>by grind);rw[dD this 2 v'];simp
 · exact(kD.mono (fun b _ g=>by grind)).trans pN (fun b _ e=>by grind)
open Go.RowKit
structure zg (k:aN):Prop where
 aD:k.aD.length<=1000000
 cM:∀i,i<k.aD.length->(aV k.aD i).cM.length<=1000000
 frames:k.frames.length<=1000000
 slots:k.slots.length<=1000000
 aj:k.aj.length<=1000000
 bk:∀i,i<k.aj.length->(ak k.aj i).bk.length<=1000000
 aU:∀i,i<k.aj.length->(ak k.aj i).aU.length<=1000000
def oW (w:World) (k:aN) (e:Ending) (w':World):Prop:=∃S hs,cW k.aD hs/\e=.returned (.agg #[S.vS,S.vF,S.vL,S.vP,I k.hand])/\Kr w.heap.size w' S (bN k hs)/\Below w.heap.size w w'
open Go.RowKit
section
variable {P:Program} {ops:Array Oper} {Q:Exit->Act->World->Prop} {md:Region.Mode} {S:World->Prop} {z:Nat}
def tQ (P:Program) (md:Region.Mode) (ops:Array Oper) (Q:Exit->Act->World->Prop) (S:World->Prop) (z:Nat):Nat->Array Bool->Act->World->Prop
 | 0,l,a,w=>Region.ready md ops l=[]/\Q .normal a w
 | n+1,l,a,w=>(Region.ready md ops l=[]->Q .normal a w)/\∀i∈Region.ready md ops l,wpOp P ops Q i (fun a' w'=>(i≠z->S w')/\tQ P md ops Q S z n (l.setIfInBounds i true) a' w') a w
theorem Px:∀(n:Nat) (l:Array Bool) (a:Act) (w:World),tQ P md ops Q S z n l a w->wpAny P md ops Q n l a w
 | 0,_,_,_,h=>h
 | n+1,_,_,_,h=>⟨h.1,fun i hi=>wpOp_mono (fun a' w' g=>Px n _ a' w' g.2) (h.2 i hi)⟩
theorem UN {l:Array Bool} {i:Nat} (h:l.getD i true=false):l.getD i false=false:=by
 grind
theorem abC {i:Nat} {oi:Oper} {v:Value} (hi:ops[i]?=some oi) (ahb:∀(j:Nat) (o:Oper) cs b,ops[j]?=some o->o.op≠.select cs b)
  (hQ:∀c a w,Q (.panic c) (a.put oi.dst v) w->Q (.panic c) a w) (hz:∀oz,ops[z]?=some oz->∃e∈oz.after,Region.binds md e=true/\e.on=i) :
  ∀(n:Nat) (l:Array Bool) (a:Act) (w:World),(∀j oj,ops[j]?=some oj->j≠i->l.getD j true=false->(∀e∈oj.after,Region.binds md e=true->e.on≠i)->oi.apart ops oj=true) ->
   i∈Region.ready md ops l->YieldsIf P ops S oi v a->S w->tQ P md ops Q S z n (l.setIfInBounds i true) (a.put oi.dst v) w->tQ P md ops Q S z (n+1) l a w:=by
 intro n;induction n with
 | zero =>
  intro l a w _ hr hy hS H;refine⟨fun g=>absurd hr (by grind),fun j hj=>?_⟩;by_cases c:j=i
  · subst c;exact hy.wpOp hi hS ⟨fun _=>hS,H⟩
  · have g:=ready_mono hj c;rw[H.1] at g;exact absurd g Kk
 | succ n ih =>
  intro l a w hf hr hy hS H;refine⟨fun g=>absurd hr (by grind),fun j hj=>?_⟩;by_cases c:j=i
  · subst c;exact hy.wpOp hi hS ⟨fun _=>hS,H⟩
  · obtain⟨hu,oj,hoj,hall⟩:=mem_ready.1 hj;have hiu:=UN (mem_ready.1 hr).1;have hno:∀e∈oj.after,Region.binds md e=true->e.on≠i:=fun e he hb g=>by
     grind
    have hjz:j≠z:=fun g=>by
     grind
    have h2:=wpOp_putIf hoj (hf j oj hoj c hu hno) (fun cs b=>ahb i oi cs b hi) (fun cs b=>ahb j oj cs b hoj) hQ hy (H.2 j (ready_mono hj c));refine wpOp_mono (fun a' w' g=>⟨g.2.1,ih (l.setIfInBounds j true) a' w' (fun k ok hk JC hun hn=>hf k ok hk JC ?_ hn) (ready_mono hr (Ne.symm c)) g.1 (g.2.1 hjz) ?_⟩) h2
    · by_cases d:j=k
      · grind
      · rw[getD_set_ne true d] at hun;exact hun
    · rw[Array.setIfInBounds_comm _ _ c];exact g.2.2
def GV (md:Region.Mode) (ops:Array Oper) (z i:Nat):Bool:=match ops[z]? with
 | none=>false
 | some o=>o.after.any (fun e=>Region.binds md e&&e.on==i)
theorem Oo {i:Nat} (h:GV md ops z i=true):∀oz,ops[z]?=some oz->∃e∈oz.after,Region.binds md e=true/\e.on=i:=fun oz ho=>by
 grind [GV]
theorem adz {i:Nat} {oi:Oper} {v:Value} {n:Nat} {l:Array Bool} {a:Act} {w:World} (hi:ops[i]?=some oi)
  (hs:Region.noSelect ops=true) (hf:Region.free md ops l i=true) (hr:(Region.ready md ops l).contains i=true) (hw:GV md ops z i=true)
  (hQ:∀c a w,Q (.panic c) (a.put oi.dst v) w->Q (.panic c) a w) (hy:YieldsIf P ops S oi v a) (hS:S w)
  (h:tQ P md ops Q S z n (l.setIfInBounds i true) (a.put oi.dst v) w):tQ P md ops Q S z (n+1) l a w :=
 abC hi (Region.noSelect_spec hs) hQ (Oo hw) n l a w (Region.free_spec hi hf) (by grind) hy hS h
theorem cN (i:Nat) {oi:Oper} {n:Nat} {l:Array Bool} {a:Act} {w:World} (hS:S w) (v:Value) (hy:∀V,S V->(execOp a.eval oi).run P V=.ok (.value v) V)
  (h:tQ P md ops Q S z n (l.setIfInBounds i true) (a.put oi.dst v) w) (hi:ops[i]?=some oi:=by rfl) (hs:Region.noSelect ops=true:=by kernel_rfl) (hf:Region.free md ops l i=true:=by kernel_rfl) (hr:(Region.ready md ops l).contains i=true:=by kernel_rfl) (hw:GV md ops z i=true:=by kernel_rfl)
  (hwt:Region.wanted oi (yielded ops a.tmps)=true:=by rfl) (hQ:∀c a w,Q (.panic c) (a.put oi.dst v) w->Q (.panic c) a w:=by exact fun _ _ _ h=>h):tQ P md ops Q S z (n+1) l a w :=
 adz hi hs hf hr hw hQ (Or.inl ⟨hwt,hy⟩) hS h
theorem mP (i:Nat) {oi:Oper} {n:Nat} {l:Array Bool} {a:Act} {w:World} (hS:S w) (v:Value) (hy:∀V,S V->(execOp a.eval oi).run P V=.ok (.value v) V)
  (h:wpAnyH P md ops Q S n (l.setIfInBounds i true) (a.put oi.dst v) w) (hi:ops[i]?=some oi:=by rfl) (hs:Region.noSelect ops=true:=by kernel_rfl) (hf:Region.free md ops l i=true:=by kernel_rfl) (hr:(Region.ready md ops l).contains i=true:=by kernel_rfl)
  (hwt:Region.wanted oi (yielded ops a.tmps)=true:=by rfl) (hQ:∀c a w,Q (.panic c) (a.put oi.dst v) w->Q (.panic c) a w:=by exact fun _ _ _ h=>h):wpAnyH P md ops Q S (n+1) l a w :=
 wpAnyH_take hi hs hf hr hQ (Or.inl ⟨hwt,hy⟩) hS h
def aJ (P:Program) (md:Region.Mode) (ops:Array Oper) (Q:Exit->Act->World->Prop) (S:World->Prop) (z n:Nat) (l:Array Bool) (a:Act) (w:World) (rs:List Nat):Prop:=∀i∈rs,wpOp P ops Q i (fun a' w'=>(i≠z->S w')/\tQ P md ops Q S z n (l.setIfInBounds i true) a' w') a w
theorem aJ.nil {n:Nat} {l:Array Bool} {a:Act} {w:World}:aJ P md ops Q S z n l a w []:=fun _ h=>absurd h Kk
theorem aJ.cons {n:Nat} {l:Array Bool} {a:Act} {w:World} {i:Nat} {o:Oper} {rs:List Nat} (ho:ops[i]?=some o)
  (h:∀K':Act->World->Prop,Shut (∀a w,(i≠z->S w)->tQ P md ops Q S z n (l.setIfInBounds i true) a w->K' a w)->if Region.wanted o (yielded ops a.tmps)=true then Oper.wp P o a w K' Q else K' (a.put o.dst undef) w)
  (hs:aJ P md ops Q S z n l a w rs):aJ P md ops Q S z n l a w (i::rs):=fun j hj=>by
 rcases xB.1 hj with g | g
 · subst g;exact wpOp_step ho (fun K' hK=>h K' (fun a w h1 h2=>hK a w ⟨h1,h2⟩))
 · exact hs j g
theorem bW {rs:List Nat} {n:Nat} {l:Array Bool} {a:Act} {w:World} (hr:Region.ready md ops l=rs) (hne:rs≠[]) (h:aJ P md ops Q S z n l a w rs):tQ P md ops Q S z (n+1) l a w:=⟨fun g=>absurd (hr ▸ g) hne,hr ▸ h⟩
theorem ij {l:Array Bool} {a:Act} {w:World} (hr:Region.ready md ops l=[]) (h:Q .normal a w):∀n,tQ P md ops Q S z n l a w
 | 0=>⟨hr,h⟩
 | _+1=>⟨fun _=>h,by rw[hr];exact fun _ g=>absurd g Kk⟩
theorem m7 {id:Nat} {a:Act} {w:World} (hm:P.follows .mixedOrders=true) (h:tQ P .any ops Q S z ops.size (Array.replicate ops.size false) a w.drew):(Code.region id ops true).wp P Q a w:=wp_region_any hm (Px _ _ _ _ h)
end
end Go.Proofs.YtpgifpeohlllfaaGreat
