import Derived.Test.YtlgoihmkgaaemaaGreatGQ24
set_option maxHeartbeats 20000000
set_option linter.unusedVariables false
set_option maxRecDepth 100000
set_option linter.unusedSimpArgs false
namespace Go.Proofs.YtlgoihmkgaaemaaGreat
open Go.RowKit Tryz
structure m7 where
 slots:Int
 aj:List ek
def pG (ps:List dK) (p:Int):ByteArray:=(cR p ps).getD ⟨#[]⟩
def eG (a n:Int):Int:=(a+n-1)/16
def iw (ps:List dK) (a n:Int):ByteArray:=if eG a n=a/16 then pG ps (a/16) else pG ps (a/16)++pG ps (eG a n)
def y9 (ps:List dK) (a n:Int):ByteArray:=(iw ps a n).extract (a%16).toNat ((a%16).toNat+n.toNat)
def pQ (p:Int) (d:ByteArray) (ps:List dK):List dK:=ps.map (λg=>if g.page=p then ⟨p,d⟩ else g)
def nY (ps:List dK) (a:Int) (s:ByteArray):List dK :=
 if eG a s.size=a/16 then pQ (a/16) ((gB (iw ps a s.size) (a%16).toNat s).extract 0 16) ps
 else pQ (eG a s.size) ((gB (iw ps a s.size) (a%16).toNat s).extract 16 32) (pQ (a/16) ((gB (iw ps a s.size) (a%16).toNat s).extract 0 16) ps)
def zU:ByteArray:=⟨#[0,0,0,0,0,0,0,0,0,0,0,0,0,0,0,0]⟩
def mo (p:Int) (n:Nat):List dK:=(jT p n).map (λx=>⟨x,zU⟩)
def rO (ps:List dK) (p:Int):Nat:=(ps.takeWhile (λg=>decide (g.page<p))).length
def kN (ps:List dK) (p:Int) (n:Nat):List dK:=ps.take (rO ps p)++(mo p n++ps.drop (rO ps p))
def jy (ps:List dK) (p n:Int):List dK:=ps.filter (λg=>!(decide (p<=g.page/\g.page<p+n)))
def kv (m:m7) (k:Nat) (s:ek):m7:={ m with aj:=m.aj.set k s }
def gF (m:m7) (k:Nat) (a n way:Int):(ByteArray×(Int×Int))×m7 :=
 if (bB (aI m.aj k).aJ a n way).1=0 then ((y9 (aI m.aj k).aD a n,(0,0)),m) else ((⟨#[]⟩,bB (aI m.aj k).aJ a n way),m)
def mq (m:m7) (k:Nat) (a:Int) (d:ByteArray):(Int×Int)×m7 :=
 if (bB (aI m.aj k).aJ a d.size 1).1=0 then ((0,0),kv m k { aI m.aj k with aD:=nY (aI m.aj k).aD a d }) else (bB (aI m.aj k).aJ a d.size 1,m)
def wC (m:m7) (k:Nat) (p n q:Int):Int×m7 :=
 if ¬(dZ (aI m.aj k).aJ p n q).2=0 then ((dZ (aI m.aj k).aJ p n q).2,m)
 else if m.slots<fu m.aj+n then (8,m)
 else (0,kv m k { aI m.aj k with aJ:=(dZ (aI m.aj k).aJ p n q).1,aD:=kN (aI m.aj k).aD p n.toNat })
def qp (m:m7) (k:Nat) (p n:Int):Int×m7 :=
 if ¬(cU (aI m.aj k).aJ p n).2=0 then ((cU (aI m.aj k).aJ p n).2,m)
 else (0,kv m k { aI m.aj k with aJ:=(cU (aI m.aj k).aJ p n).1,aD:=jy (aI m.aj k).aD p n })
def m6 (m:m7) (k:Nat) (p n q:Int):Int×m7 :=
 if ¬(cu (aI m.aj k).aJ p n q).2=0 then ((cu (aI m.aj k).aJ p n q).2,m)
 else (0,kv m k { aI m.aj k with aJ:=(cu (aI m.aj k).aJ p n q).1 })
def rP (m:m7) (k:Nat):Int×m7 :=
 if 4<=m.aj.length then (2,m) else if m.slots<fu m.aj+bf (aI m.aj k).aJ then (8,m)
 else (0,{ m with aj:=m.aj++[aI m.aj k] })
def PJ (m:m7) (k:Nat):m7:=kv m k Kh
def nR:lK m7:=⟨gF,mq,wC,qp,m6,rP,PJ⟩
structure kY (m:m7) (fl:List Bool):Prop where
 flags:fl=m.aj.map (·.live)
 each:∀k,k<m.aj.length->bW (aI m.aj k)=true
 room:fu m.aj<=m.slots
 slots:0<=m.slots/\m.slots<=512
 few:1<=m.aj.length/\m.aj.length<=4
theorem Bf (l:List ek) (k j:Nat) (s:ek) (hk:k<l.length):aI (l.set k s) j=if j=k then s else aI l j:=by
 unfold aI;rw[cB,cB,xt];by_cases h:j=k
 . rw[aC h,aC h.symm];subst h;rw[aC hk];rfl
 rw[aB h,aB (λg=>h g.symm)]
theorem kY.live {m:m7} {fl:List Bool} (h:kY m fl) {k:Nat} (hk:fl.getD k false=true):k<m.aj.length/\(aI m.aj k).live=true:=by
 rw[h.flags,cB,vQ] at hk;by_cases c:k<m.aj.length
 . rw[fF c] at hk;refine⟨c,?_⟩;unfold aI;rw[cB,fF c];exact hk
 rw[Gr ω] at hk;cases hk
structure oU (s:ek):Prop where
 check:bj s.aJ=0
 nums:bX s.aD=cI s.aJ
 size:∀k,k<s.aD.length->(bo s.aD k).data.size=16
theorem lJ {s:ek} (h:bW s=true) (hl:s.live=true):oU s:=by
 unfold bW at h;rw[aC hl] at h;simp only[cK,fX] at h;refine⟨h.1,h.2.1,λk hk=>?_⟩;have:=h.2.2;unfold pR at this;exact jY (nB.1 this _ (vH hk))
theorem Bg {s:ek} (h:oU s) (hl:s.live=true):bW s=true:=by
 unfold bW;rw[aC hl,fD h.check,fD h.nums];have:pR s.aD=true:=by
  unfold pR;rw[nB];intro p hp;obtain⟨k,hk,rfl⟩:=vI hp;exact fD (h.size k hk)
 rw[this];rfl
theorem oU.lq {s:ek} (h:oU s):AA s.aD:=Ms (by rw[h.nums];exact(nZ h.check).sorted)
theorem afZ:∀(l:List ek) (k:Nat) (s:ek),k<l.length->fu (l.set k s)=fu l-bf (aI l k).aJ+bf s.aJ:=λl k s hk=>by
 have key:∀n,n<=l.length->mr (l.set k s) n=mr l n+(if k<n then bf s.aJ-bf (aI l k).aJ else 0):=λn=>by
  induction n with
  | zero=>intro _;rw[aB ω];rfl
  | succ n ih =>
   intro hn;show mr (l.set k s) n+bf (aI (l.set k s) n).aJ=mr l n+bf (aI l n).aJ+_;rw[ih ω,Bf l k n s hk];by_cases c:n=k
   . subst c;rw[aC rfl,aB ω,aC ω];omega
   rw[aB c];by_cases d:k<n
   . rw[aC d,aC ω];omega
   rw[aB d,aB ω];omega
 unfold fu;rw[dE,key _ (aK _),aC hk];omega
theorem PF (l:List ek) (s:ek):fu (l++[s])=fu l+bf s.aJ:=by
 have b:∀n,n<=l.length->mr (l++[s]) n=mr l n:=λn=>by
  induction n with
  | zero=>intro _;rfl
  | succ n ih =>
   intro hn;show mr (l++[s]) n+bf (aI (l++[s]) n).aJ=mr l n+bf (aI l n).aJ;rw[ih ω];congr 3;unfold aI;rw[cB,cB,Eb ω]
 unfold fu;rw[ft,D9];show mr (l++[s]) l.length+bf (aI (l++[s]) l.length).aJ=_;rw[b _ (aK _)];congr 3;unfold aI;rw[cB,yx (aK _),D4];rfl
theorem E8 {a b:List Int} (ha:a.Pairwise (·<·)) (hb:b.Pairwise (·<·)) (h:∀x,x∈a↔x∈b):a=b :=
 Hy b a ha hb (λx hx=>(h x).1 hx) (Nat.le_antisymm (oK b a ha hb (λx hx=>(h x).1 hx)) (oK a b hb ha (λx hx=>(h x).2 hx)))
theorem fP {l:List aX} (hc:bj l=0) {x:Int}:x∈cI l↔(aV l x).2=true:=(qd hc x).symm
theorem E9 {l:List aX} (hc:bj l=0) {x:Int} (h:x∈cI l):1<=x/\x<256:=by
 have:=jB hc (fP hc |>.1 h);omega
theorem CH {l:List aX} {p n q:Int} (hc:bj l=0) (h:(dZ l p n q).2=0):bj (dZ l p n q).1=0/\(1<=p/\1<=n/\p+n<=256)/\(∀x,x∈cI (dZ l p n q).1↔(x∈cI l\/(p<=x/\x<p+n)))/\(∀x,p<=x->x<p+n->x∉cI l):=by
 obtain⟨h1,h2⟩:=CQ l p n q h;obtain⟨_,Rj,_,_,_⟩:=zY _ _ _ _ _ h;have b:=(sH p n).1 Rj;refine⟨h1,ω,λx=>?_,λx g1 g2 hx=>?_⟩
 . rw[fP h1,fP hc];by_cases c:1<=x/\x<=255
   . obtain⟨m,rfl⟩:∃m:Nat,x=(m:Int):=⟨x.toNat,ω⟩;obtain⟨k1,k2⟩:=h2 m ω ω;by_cases d:p<=(m:Int)/\(m:Int)<p+n
     . exact⟨λ_=>.inr d,λ_=>(k1 d).2.1⟩
     rw[(k2 d).1];exact⟨λg=>.inl g,λg=>by rcases g with g | g;exact g;exact(d g).elim⟩
   constructor
   . intro g;have:=jB h1 g;omega
   rintro(g | g)
   . have:=jB hc g;omega
   omega
 obtain⟨m,rfl⟩:∃m:Nat,x=(m:Int):=⟨x.toNat,ω⟩;have:=(h2 m ω ω).1 ⟨g1,g2⟩;rw[fP hc,this.1] at hx;cases hx
theorem DA {l:List aX} {p n:Int} (hc:bj l=0) (h:(cU l p n).2=0):bj (cU l p n).1=0/\(1<=p/\1<=n/\p+n<=256)/\(∀x,x∈cI (cU l p n).1↔(x∈cI l/\¬(p<=x/\x<p+n))):=by
 obtain⟨h1,h2⟩:=zo l p n h;obtain⟨_,Rj,_,_,_⟩:=zY _ _ _ _ _ h;have b:=(sH p n).1 Rj;refine⟨h1,ω,λx=>?_⟩;rw[fP h1,fP hc];by_cases c:1<=x/\x<=255
 . obtain⟨m,rfl⟩:∃m:Nat,x=(m:Int):=⟨x.toNat,ω⟩;obtain⟨k1,k2⟩:=h2 m ω ω;by_cases d:p<=(m:Int)/\(m:Int)<p+n
   . rw[k1 d];exact⟨(λg=>by cases g),λg=>(g.2 d).elim⟩
   rw[(k2 d).1];exact⟨λg=>⟨g,d⟩,λg=>g.1⟩
 constructor
 . intro g;have:=jB h1 g;omega
 rintro⟨g,_⟩;have:=jB hc g;omega
theorem FW {l:List aX} {p n q:Int} (hc:bj l=0) (h:(cu l p n q).2=0):bj (cu l p n q).1=0/\cI (cu l p n q).1=cI l:=by
 obtain⟨h1,h2⟩:=wI l p n q h;refine⟨h1,E8 (nZ h1).sorted (nZ hc).sorted (λx=>?_)⟩;rw[fP h1,fP hc];by_cases c:1<=x/\x<=255
 . obtain⟨m,rfl⟩:∃m:Nat,x=(m:Int):=⟨x.toNat,ω⟩;rw[(h2 m ω ω).1.1]
 constructor
 . intro g;have:=jB h1 g;omega
 intro g;have:=jB hc g;omega
open Go.RowKit
theorem CI {l:List aX} {a way:Int}:∀{k:Nat},(cE l a way k).1=0->∀j,j<k->lU l (a+j) way=(0,0)
 | 0,_,j,hj=>by omega
 | k+1,h,j,hj=>by
  have h0:(cE l a way k).1=0:=by
   by_cases c:(cE l a way k).1=0
   . exact c
   rw[cE,aB c] at h;exact(c h).elim
  by_cases e:j=k
  . subst e;rw[cE,aC h0] at h;exact(rV h).1
  exact CI h0 j ω
theorem JZ {l:List aX} {a n way:Int} (h:(bB l a n way).1=0):bB l a n way=(0,0)/\(cE l a way n.toNat).1=0:=by
 unfold bB at h ⊢;by_cases c:way=2/\¬a%8=0
 . rw[aC c] at h;cases h
 rw[aB c] at h ⊢;refine⟨?_,h⟩;cases hn:n.toNat with
 | zero=>rfl
 | succ m =>
  rw[hn] at h;have:=CI h m ω;rw[cE] at h ⊢;split at h
  . rename_i g
    rw[aC g];exact this
  rename_i g
  exact(g h).elim
structure mH (ps:List dK) (a n:Int) (i:Nat):Prop where
 lt:i<ps.length
 first:(bo ps i).page=a/16
 low:16<=a
 high:a+n<=4096
 last:eG a n=a/16\/eG a n=a/16+1/\i+1<ps.length/\(bo ps (i+1)).page=eG a n
theorem SE {s:ek} (h:oU s) {p:Int} (hp:(aV s.aJ p).2=true):∃i,i<s.aD.length/\(bo s.aD i).page=p:=by
 have hm:=(qd h.check p).1 hp;rw[<- h.nums] at hm;obtain⟨g,hg,e⟩:=tD.1 hm;obtain⟨i,hi,rfl⟩:=vI hg;exact⟨i,hi,e⟩
theorem JW {s:ek} (h:oU s) {a n way:Int} (hn:1<=n) (hn8:n<=16) (hf:(bB s.aJ a n way).1=0):∃i,mH s.aD a n i:=by
 obtain⟨_,hb⟩:=JZ hf;have h0:=rV (by rw[CI hb 0 ω]:(lU s.aJ (a+(0:Nat)) way).1=0);have hl:=rV (by rw[CI hb (n.toNat-1) ω]:(lU s.aJ (a+((n.toNat-1:Nat):Int)) way).1=0);have e0:a+((0:Nat):Int)=a:=by omega
 have el:a+((n.toNat-1:Nat):Int)=a+n-1:=by omega
 rw[e0] at h0;rw[el] at hl;obtain⟨_,B,b,_⟩:=h0;obtain⟨_,F,q,_⟩:=hl;have r0:=jB h.check b;have rl:=jB h.check q;obtain⟨i,hi,ei⟩:=SE h b;refine⟨i,hi,ei,ω,ω,?_⟩;by_cases c:eG a n=a/16
 . exact .inl c
 have c2:eG a n=a/16+1:=by unfold eG at c ⊢;omega
 obtain⟨j,hj,ej⟩:=SE h q;have G:(bo s.aD j).page=a/16+1:=by rw[ej];exact c2
 have hr:=h.lq;have A:i<j:=by
  rcases Nat.lt_trichotomy i j with g | g | g
  . exact g
  . subst g;omega
  have:=hr j i g hi;omega
 have y:j=i+1:=by
  by_cases g:j=i+1
  . exact g
  have g1:=hr i (i+1) ω ω;have g2:=hr (i+1) j ω hj;omega
 subst y;exact .inr ⟨c2,hj,ej⟩
theorem FV {ps:List dK} (hr:AA ps) {i:Nat} (hi:i<ps.length) {p:Int} (hp:(bo ps i).page=p):pG ps p=(bo ps i).data:=by
 unfold pG;rw[Nk ps p i hi (λj hj e=>by have:=hr j i hj hi;omega) hp];rfl
theorem wD {s:ek} (h:oU s) {a n:Int} {i:Nat} (hr:mH s.aD a n i):((iw s.aD a n).size=16/\eG a n=a/16)\/((iw s.aD a n).size=32/\eG a n=a/16+1):=by
 unfold iw;rcases hr.last with c | ⟨c,hl,e⟩
 . rw[aC c,FV h.lq hr.lt hr.first];exact .inl ⟨h.size i hr.lt,c⟩
 rw[aB ω,FV h.lq hr.lt hr.first,FV h.lq hl e,Uc,h.size i hr.lt,h.size _ hl];exact .inr ⟨rfl,c⟩
theorem acW {s:ek} (h:oU s) {a n:Int} (hn:1<=n) {i:Nat} (hr:mH s.aD a n i):((y9 s.aD a n).size:Int)=n:=by
 unfold y9;rw[Uh];have h1:=hr.low;have h2:=hr.high;rcases wD h hr with⟨e1,e2⟩ | ⟨e1,e2⟩
 . unfold eG at e2;rw[e1];omega
 unfold eG at e2;rw[e1];omega
theorem JV (p:Int) (d:ByteArray) (ps:List dK):bX (pQ p d ps)=bX ps:=by
 unfold bX pQ;rw[TQ];apply aaY;intro g _;show(if g.page=p then (⟨p,d⟩:dK) else g).page=g.page;split
 . rename_i e;exact e.symm
 rfl
theorem aio (p:Int) (d:ByteArray) (ps:List dK):(pQ p d ps).length=ps.length:=by unfold pQ;rw[fI]
theorem alb (p:Int) (d:ByteArray) (ps:List dK) (k:Nat) (hk:k<ps.length):bo (pQ p d ps) k=if (bo ps k).page=p then ⟨p,d⟩ else bo ps k:=by
 unfold bo pQ;rw[cB,cB,vQ,fF hk];rfl
theorem JU (p:Int) (d:ByteArray) (hd:d.size=16) (ps:List dK) (h:∀k,k<ps.length->(bo ps k).data.size=16):∀k,k<(pQ p d ps).length->(bo (pQ p d ps) k).data.size=16:=λk hk=>by
 rw[aio] at hk;rw[alb p d ps k hk];split
 . exact hd
 exact h k hk
theorem acV {s:ek} (h:oU s) {a:Int} {d:ByteArray} {i:Nat} (hd:1<=d.size) (hr:mH s.aD a d.size i):oU { s with aD:=nY s.aD a d }:=by
 have h1:=hr.low;have b:(gB (iw s.aD a d.size) (a%16).toNat d).size=(iw s.aD a d.size).size:=by
  apply AJ;rcases wD h hr with⟨e1,e2⟩ | ⟨e1,e2⟩ <;> (unfold eG at e2;rw[e1];omega)
 refine⟨h.check,?_,?_⟩
 . show bX (nY s.aD a d)=_;unfold nY;split
   . rw[JV];exact h.nums
   rw[JV,JV];exact h.nums
 show ∀k,k<(nY s.aD a d).length->(bo (nY s.aD a d) k).data.size=16;unfold nY;rcases wD h hr with⟨e1,e2⟩ | ⟨e1,e2⟩
 . rw[aC e2];exact JU _ _ (by rw[Uh,b,e1];rfl) _ h.size
 rw[aB ω];exact JU _ _ (by rw[Uh,b,e1];rfl) _ (JU _ _ (by rw[Uh,b,e1];rfl) _ h.size)
theorem Tx {ps:List dK} (h:(bX ps).Pairwise (·<·)) (p:Int):∀x,x∈bX (ps.drop (rO ps p))->p<=x:=by
 unfold rO;induction ps with
 | nil=>intro x hx;cases hx
 | cons g r ih =>
  intro x hx;have hp:=Ag.1 (show(g.page::bX r).Pairwise (·<·) from h);by_cases c:g.page<p
  . rw[ai3 (by simpa using c),tG,aaS] at hx;exact ih hp.2 x hx
  rw[ai2 (by simpa using c)] at hx;rcases qZ.1 (show x∈g.page::bX r from hx) with e | e
  . omega
  have:=hp.1 x e;omega
theorem afX (ps:List dK) (p:Int):∀x,x∈bX (ps.take (rO ps p))->x<p:=by
 unfold rO;induction ps with
 | nil=>intro x hx;cases hx
 | cons g r ih =>
  intro x hx;by_cases c:g.page<p
  . rw[ai3 (by simpa using c),tG,aaR] at hx;rcases qZ.1 (show x∈g.page::bX (r.take _) from hx) with e | e
    . omega
    exact ih x e
  rw[ai2 (by simpa using c)] at hx;cases hx
theorem FZ (p:Int) (n:Nat):bX (mo p n)=jT p n:=by
 unfold bX mo;rw[TQ];exact List.map_id _
theorem vD (a b:List dK):bX (a++b)=bX a++bX b:=by unfold bX;rw[tF]
theorem aip {s:ek} (h:oU s) {p n q:Int} (hm:(dZ s.aJ p n q).2=0):oU { s with aJ:=(dZ s.aJ p n q).1,aD:=kN s.aD p n.toNat }:=by
 obtain⟨h1,h2,h3,h4⟩:=CH h.check hm;have hs:(bX s.aD).Pairwise (·<·):=by rw[h.nums];exact(nZ h.check).sorted
 have b:bX s.aD=bX (s.aD.take (rO s.aD p))++bX (s.aD.drop (rO s.aD p)):=by rw[<- vD,NR]
 rw[b] at hs;obtain⟨q1,q2,q3⟩:=KE.1 hs;have hlo:=afX s.aD p;have A:=Tx (ps:=s.aD) (by rw[b];exact hs) p;have UI:∀x,x∈bX (s.aD.drop (rO s.aD p))->p+n<=x:=λx hx=>by
  have g1:=A x hx;by_cases c:x<p+n
  . exfalso;refine h4 x g1 c ?_;rw[<- h.nums,b];exact List.mem_append_right _ hx
  omega
 refine⟨h1,?_,?_⟩
 . show bX (kN s.aD p n.toNat)=_;refine E8 ?_ (nZ h1).sorted (λx=>?_)
   . unfold kN;rw[vD,vD,FZ];refine KE.2 ⟨q1,KE.2 ⟨xk _ _,q2,λx hx y hy=>?_⟩,λx hx y hy=>?_⟩
     . have:=(sF _ _ _).1 hx;have:=UI y hy;omega
     have g1:=hlo x hx;rcases kJ.1 hy with g | g
     . have:=(sF _ _ _).1 g;omega
     have:=A y g;omega
   rw[h3];unfold kN;rw[vD,vD,FZ,kJ,kJ,sF,<- h.nums,b,kJ];constructor
   . rintro(g | g | g)
     . exact .inl (.inl g)
     . exact .inr ω
     exact .inl (.inr g)
   rintro((g | g) | g)
   . exact .inl g
   . exact .inr (.inr g)
   exact .inr (.inl ω)
 intro k hk;have B:=vH hk;have:∀g∈kN s.aD p n.toNat,g.data.size=16:=λg hg=>by
  unfold kN at hg;have old:∀g∈s.aD,g.data.size=16:=λg hg=>by
   obtain⟨k,hk,rfl⟩:=vI hg;exact h.size k hk
  rcases kJ.1 hg with e | e
  . exact old g (KC e)
  rcases kJ.1 e with e | e
  . obtain⟨x,_,rfl⟩:=tD.1 e;rfl
  exact old g (aaV e)
 exact this _ B
theorem acU {s:ek} (h:oU s) {p n:Int} (hm:(cU s.aJ p n).2=0):oU { s with aJ:=(cU s.aJ p n).1,aD:=jy s.aD p n }:=by
 obtain⟨h1,h2,h3⟩:=DA h.check hm;have hs:(bX s.aD).Pairwise (·<·):=by rw[h.nums];exact(nZ h.check).sorted
 refine⟨h1,?_,?_⟩
 . show bX (jy s.aD p n)=_;refine E8 ?_ (nZ h1).sorted (λx=>?_)
   . unfold bX jy;exact aaX ((List.filter_sublist).map _) hs
   rw[h3,<- h.nums];unfold bX jy;simp only[tD,aaF];constructor
   . rintro⟨g,⟨h5,h6⟩,rfl⟩;exact⟨⟨g,h5,rfl⟩,by simp at h6;omega⟩
   rintro⟨⟨g,h5,rfl⟩,h6⟩;exact⟨g,⟨h5,by simp;omega⟩,rfl⟩
 intro k hk;have b:=vH hk;have:∀g∈jy s.aD p n,g.data.size=16:=λg hg=>by
  unfold jy at hg;obtain⟨k,hk,rfl⟩:=vI (aaF.1 hg).1;exact h.size k hk
 exact this _ b
theorem lI {s:ek} (h:oU s):bf s.aJ=(s.aD.length:Int):=by
 rw[oX h.check,<- h.nums];unfold bX;rw[fI]
theorem WK {m:m7} {fl:List Bool} (h:kY m fl) {k:Nat} (hk:k<m.aj.length) {s:ek} (hs:bW s=true) (hr:fu m.aj-bf (aI m.aj k).aJ+bf s.aJ<=m.slots):kY (kv m k s) (fl.set k s.live):=by
 refine⟨?_,λj hj=>?_,?_,h.slots,?_⟩
 . rw[h.flags];show(m.aj.map (·.live)).set k s.live=(m.aj.set k s).map (·.live);rw[Ny]
 . have b:j<m.aj.length:=by
    have:j<(m.aj.set k s).length:=hj;rw[dE] at this;exact this
   show bW (aI (m.aj.set k s) j)=true;rw[Bf _ _ _ _ hk];split
   . exact hs
   exact h.each j b
 . show fu (m.aj.set k s)<=m.slots;rw[afZ _ _ _ hk];exact hr
 show 1<=(m.aj.set k s).length/\(m.aj.set k s).length<=4;rw[dE];exact h.few
theorem afY (fl:List Bool) (k:Nat) (b:Bool) (h:fl.getD k false=b):fl.set k b=fl:=by
 apply Af;intro j;rw[xt];by_cases e:k=j
 . subst e;by_cases c:k<fl.length
   . rw[cB,fF c] at h;rw[aC rfl,aC c,fF c];exact dC some h.symm
   rw[aC rfl,aB c,Gr ω]
 rw[aB e]
theorem CG {m:m7} {fl:List Bool} (h:kY m fl) {k:Nat} (hf:fl.getD k false=true) (hk:k<m.aj.length) {s:ek} (hl:s.live=true) (hs:bW s=true) (hr:fu m.aj-bf (aI m.aj k).aJ+bf s.aJ<=m.slots):kY (kv m k s) fl:=by
 have:=WK h hk hs hr;rw[hl,afY fl k true hf] at this;exact this
theorem acX (l:List aX) (p way:Int):0<=(lU l p way).1/\(lU l p way).1<=4:=by
 unfold lU;split
 . exact⟨by simp[cE,dm],by simp[cE,dm]⟩
 split <;> exact⟨by simp[cE,dm],by simp[cE,dm]⟩
theorem Ml (l:List aX) (a way:Int):∀k,0<=(cE l a way k).1/\(cE l a way k).1<=4
 | 0=>⟨by simp[cE,dm],by simp[cE,dm]⟩
 | k+1=>by
  rw[cE];split
  . exact acX _ _ _
  exact Ml l a way k
theorem Ax (l:List aX) (a n way:Int):0<=(bB l a n way).1/\(bB l a n way).1<=4:=by
 unfold bB;split
 . exact⟨by simp[cE,dm],by simp[cE,dm]⟩
 exact Ml _ _ _ _
theorem alc (ps:List dK) (p:Int):rO ps p<=ps.length:=by
 unfold rO;exact List.Sublist.length_le (List.takeWhile_sublist _)
theorem aiq (ps:List dK) (p:Int) (n:Nat):(kN ps p n).length=ps.length+n:=by
 have:=alc ps p;unfold kN mo;rw[ft,ft,o7,Gn,fI,AE];omega
theorem WN (q:Int) (s:cX):0<=(qW q s).2/\(qW q s).2<=10:=by
 unfold qW;split <;> exact⟨by simp[cE,dm],by simp[cE,dm]⟩
theorem PI (s:cX):0<=(dm s).2/\(dm s).2<=10:=⟨by simp[cE,dm],by simp[cE,dm]⟩
theorem JY (q:Int) (s:cX):0<=(mK q s).2/\(mK q s).2<=10:=by
 unfold mK;split <;> exact⟨by simp[cE,dm],by simp[cE,dm]⟩
theorem aat (F:Nat->cX) (how:cX->cX×Int) (hh:∀s,0<=(how s).2/\(how s).2<=10):∀c n,0<=km F how n c/\km F how n c<=10
 | 0,n=>⟨by show(0:Int)<=0;omega,by show(0:Int)<=10;omega⟩
 | c+1,n=>by
  unfold km;split
  . exact aat F how hh c (n+1)
  exact hh _
theorem af0 (l:List aX):0<=bj l/\bj l<=10:=by
 unfold bj;split
 . exact⟨by simp[cE,dm],by simp[cE,dm]⟩
 split <;> exact⟨by simp[cE,dm],by simp[cE,dm]⟩
theorem s7 (l:List aX) (p n q:Int) (how:cX->cX×Int) (hh:∀s,0<=(how s).2/\(how s).2<=10):0<=(jU l p n q how).2/\(jU l p n q how).2<=10:=by
 unfold jU;split
 . split
   . split
     . exact⟨by simp[cE,dm],by simp[cE,dm]⟩
     exact aat _ _ hh _ _
   exact⟨by simp[cE,dm],by simp[cE,dm]⟩
 exact af0 l
theorem Nf:tj nR kY where
 load:=λs fl k a n way h hk=>by
  show kY (gF s k a n way).2 fl;unfold gF;split <;> exact h
 size:=λs fl k a n way h hk hn hn8 hf=>by
  obtain⟨hlt,hlv⟩:=h.live hk;have hL:=lJ (h.each k hlt) hlv;have hf':(gF s k a n way).1.2.1=0:=hf;show((gF s k a n way).1.1.size:Int)=n;unfold gF at hf' ⊢;by_cases c:(bB (aI s.aj k).aJ a n way).1=0
  . rw[aC c];obtain⟨i,hi⟩:=JW hL hn ω c;exact acW hL hn hi
  rw[aB c] at hf';exact(c hf').elim
 fault:=λs fl k a n way h hk=>by
  show 0<=(gF s k a n way).1.2.1/\(gF s k a n way).1.2.1<=4/\((gF s k a n way).1.2.1=0->(gF s k a n way).1.2=(0,0));unfold gF;have:=Ax (aI s.aj k).aJ a n way;split
  . exact⟨ξ,ξ,λ_=>rfl⟩
  rename_i c
  exact⟨this.1,this.2,λg=>(c g).elim⟩
 none:=λs fl k a n way h hk hf=>by
  have hf':¬(gF s k a n way).1.2.1=0:=hf;show(gF s k a n way).1.1=⟨#[]⟩;unfold gF at hf' ⊢;split
  . rename_i c
    rw[aC c] at hf';exact(hf' rfl).elim
  rfl
 store:=λs fl k a d h hk hd1 hd8=>by
  obtain⟨hlt,hlv⟩:=h.live hk;have hL:=lJ (h.each k hlt) hlv;show kY (mq s k a d).2 fl;unfold mq;split
  . rename_i c
    obtain⟨i,hi⟩:=JW hL ω ω c;have hL2:=acV hL hd1 hi;exact CG h hk hlt hlv (Bg hL2 hlv) (by
      have:=h.room;show fu s.aj-bf (aI s.aj k).aJ+bf (aI s.aj k).aJ<=s.slots;omega)
  exact h
 UN:=λs fl k a d h hk=>by
  show 0<=(mq s k a d).1.1/\(mq s k a d).1.1<=4/\((mq s k a d).1.1=0->(mq s k a d).1=(0,0));unfold mq;have:=Ax (aI s.aj k).aJ a d.size 1;split
  . exact⟨ξ,ξ,λ_=>rfl⟩
  rename_i c
  exact⟨this.1,this.2,λg=>(c g).elim⟩
 map:=λs fl k p n q h hk=>by
  obtain⟨hlt,hlv⟩:=h.live hk;have hL:=lJ (h.each k hlt) hlv;show kY (wC s k p n q).2 fl;unfold wC;split
  . exact h
  rename_i c
  have c':(dZ (aI s.aj k).aJ p n q).2=0:=aaL.1 c;split
  . exact h
  rename_i c2
  have hL2:=aip hL c';exact CG h hk hlt hlv (Bg hL2 hlv) (by
   rw[lI hL,lI hL2];have hlen:=(CH hL.check c').2.1;have:(kN (aI s.aj k).aD p n.toNat).length=(aI s.aj k).aD.length+n.toNat:=aiq _ _ _;show fu s.aj-((aI s.aj k).aD.length:Int)+((kN (aI s.aj k).aD p n.toNat).length:Int)<=s.slots;rw[this];omega)
 qX:=λs fl k p n h hk=>by
  obtain⟨hlt,hlv⟩:=h.live hk;have hL:=lJ (h.each k hlt) hlv;show kY (qp s k p n).2 fl;unfold qp;split
  . exact h
  rename_i c
  have c':(cU (aI s.aj k).aJ p n).2=0:=aaL.1 c;have hL2:=acU hL c';exact CG h hk hlt hlv (Bg hL2 hlv) (by
    rw[lI hL,lI hL2];have:(jy (aI s.aj k).aD p n).length<=(aI s.aj k).aD.length:=List.length_filter_le _ _;show fu s.aj-((aI s.aj k).aD.length:Int)+((jy (aI s.aj k).aD p n).length:Int)<=s.slots;have:=h.room;omega)
 ko:=λs fl k p n q h hk=>by
  obtain⟨hlt,hlv⟩:=h.live hk;have hL:=lJ (h.each k hlt) hlv;show kY (m6 s k p n q).2 fl;unfold m6;split
  . exact h
  rename_i c
  have c':(cu (aI s.aj k).aJ p n q).2=0:=aaL.1 c;obtain⟨g1,g2⟩:=FW hL.check c';have hL2:oU { aI s.aj k with aJ:=(cu (aI s.aj k).aJ p n q).1 }:=⟨g1,by show bX (aI s.aj k).aD=_;rw[hL.nums];exact g2.symm,hL.size⟩;exact CG h hk hlt hlv (Bg hL2 hlv) (by
    have e1:bf (cu (aI s.aj k).aJ p n q).1=((aI s.aj k).aD.length:Int):=lI hL2;have e2:=lI hL;have:=h.room;show fu s.aj-bf (aI s.aj k).aJ+bf (cu (aI s.aj k).aJ p n q).1<=s.slots;omega)
 UM:=λs fl k h hk hf=>by
  have hf':¬(rP s k).1=0:=hf;show kY (rP s k).2 fl;unfold rP at hf' ⊢;split
  . exact h
  split
  . exact h
  rename_i c1 c2
  rw[aB c1,aB c2] at hf';exact(hf' rfl).elim
 NV:=λs fl k h hk hf=>by
  obtain⟨hlt,hlv⟩:=h.live hk;have hf':(rP s k).1=0:=hf;show kY (rP s k).2 (fl++[true]);unfold rP at hf' ⊢;by_cases c1:4<=s.aj.length
  . rw[aC c1] at hf';cases hf'
  rw[aB c1] at hf' ⊢;by_cases c2:s.slots<fu s.aj+bf (aI s.aj k).aJ
  . rw[aC c2] at hf';cases hf'
  rw[aB c2];refine⟨?_,λj hj=>?_,?_,h.slots,?_⟩
  . rw[h.flags];show _=(s.aj++[aI s.aj k]).map (·.live);rw[tF,aaQ,hlv]
  . have hj':j<(s.aj++[aI s.aj k]).length:=hj;rw[ft,D9] at hj';show bW (aI (s.aj++[aI s.aj k]) j)=true;by_cases c:j<s.aj.length
    . have:aI (s.aj++[aI s.aj k]) j=aI s.aj j:=by
       unfold aI;rw[cB,Eb c,<- cB]
      rw[this];exact h.each j c
    have:aI (s.aj++[aI s.aj k]) j=aI s.aj k:=by
     obtain rfl:j=s.aj.length:=by omega
     show(s.aj++[aI s.aj k]).getD s.aj.length Kh=_;rw[cB,yx (aK _),D4];rfl
    rw[this];exact h.each k hlt
  . show fu (s.aj++[aI s.aj k])<=s.slots;rw[PF];omega
  show 1<=(s.aj++[aI s.aj k]).length/\(s.aj++[aI s.aj k]).length<=4;rw[ft,D9];omega
 alP:=λs fl k p n q h hk=>by
  show 0<=(wC s k p n q).1/\(wC s k p n q).1<=10;unfold wC;split
  . exact s7 _ _ _ _ _ (WN q)
  split <;> exact⟨by simp[cE,dm],by simp[cE,dm]⟩
 UD:=λs fl k p n h hk=>by
  show 0<=(qp s k p n).1/\(qp s k p n).1<=10;unfold qp;split
  . exact s7 _ _ _ _ _ PI
  exact⟨by simp[cE,dm],by simp[cE,dm]⟩
 IP:=λs fl k p n q h hk=>by
  show 0<=(m6 s k p n q).1/\(m6 s k p n q).1<=10;unfold m6;split
  . exact s7 _ _ _ _ _ (JY q)
  exact⟨by simp[cE,dm],by simp[cE,dm]⟩
 few:=λs fl h=>by rw[h.flags,fI];exact h.few.2
 drop:=λs fl k h hk=>by
  obtain⟨hlt,hlv⟩:=h.live hk;have hL:=lJ (h.each k hlt) hlv;have:=WK h hlt (s:=Kh) rfl (by
   have h0:bf Kh.aJ=0:=rfl;rw[h0,lI hL];have:=h.room;omega)
  exact this
def dX (k:aT) (j:Nat):List aX:=(ak k.aj j).aJ
def iu (k:aT) (j:Nat) (a n way:Int):(ByteArray×(Int×Int))×aT :=
 if ¬(1<=n/\n<=8) then ((⟨#[]⟩,(0,0)),k) else if (bB (dX k j) a n way).1=0 then ((rG k j a n way,(0,0)),(bg k j a n way).2) else ((⟨#[]⟩,bB (dX k j) a n way),k)
def jJ (k:aT) (j:Nat) (a:Int) (d:ByteArray):(Int×Int)×aT :=
 if (bB (dX k j) a d.size 1).1=0 then ((0,0),nX k j a d) else (bB (dX k j) a d.size 1,k)
def gL (k:aT) (j:Nat) (r:List aX×Int):Int×aT :=
 if ¬r.2=0 then (r.2,k) else if eU k.aj-bf (dX k j)+bf r.1>(k.slots.length:Int) then (8,k) else (0,iN k j r.1)
def gM (k:aT) (j:Nat):Int×aT :=
 if k.aj.length=4 then (2,k) else if eU k.aj+bf (dX k j)>(k.slots.length:Int) then (8,k) else (0,jq k j)
def dY:lK aT:=⟨iu,jJ,λk j p n q=>gL k j (dZ (dX k j) p n q),λk j p n=>gL k j (cU (dX k j) p n),λk j p n q=>gL k j (cu (dX k j) p n q),gM,mE⟩
structure fO (k:aT) (fl:List Bool):Prop where
 right:aW k
 flags:fl=k.aj.map (·.live)
theorem aic {l:List dA} {j:Nat} (h:(l.map (·.live)).getD j false=true):j<l.length/\(ak l j).live=true:=by
 by_cases c:j<l.length
 . refine⟨c,?_⟩;unfold ak
   grind
 grind
theorem acJ {l r:List dA} (hn:r.length=l.length) (h:∀m,m<l.length->(ak r m).live=(ak l m).live):r.map (·.live)=l.map (·.live):=by
 apply TZ (by simp[hn]);intro i h1 h2;have:=h i (by simpa using h2);unfold ak at this
 grind
variable {k:aT} {fl:List Bool} {j:Nat}
theorem fO.at_ (h:fO k fl) (hk:fl.getD j false=true):j<k.aj.length/\(ak k.aj j).live=true:=by
 rw[h.flags] at hk;exact aic hk
theorem nO {a n way:Int} (h1:1<=n) (h8:n<=8) (hf:(bB (dX k j) a n way).1=0):dM k j (a/16)/\dM k j (cN a n)/\(16<=a/\a+n<=4096):=by
 obtain⟨_,q,y,b⟩:=uA h1 h8 hf;refine⟨?_,?_,q,y⟩
 . have:=b 0 ω ω;rw[Gj] at this;exact this
 have:=b (n-1) ω ω;unfold cN;rw[show a+n-1=a+(n-1) by omega];exact this
theorem M9 (h:fO k fl) {k':aT} (hr:aW k') (hn:k'.aj.length=k.aj.length) (hl:∀m,m<k.aj.length->(ak k'.aj m).live=(ak k.aj m).live):fO k' fl:=⟨hr,by rw[h.flags,acJ hn hl]⟩
theorem JP {a n way:Int} (h:¬(1<=n/\n<=8)):iu k j a n way=((⟨#[]⟩,(0,0)),k):=by grind [iu]
theorem vB {a n way:Int} (h1:1<=n) (h8:n<=8) (hf:¬(bB (dX k j) a n way).1=0):iu k j a n way=((⟨#[]⟩,bB (dX k j) a n way),k):=by grind [iu]
theorem tC {a n way:Int} (h1:1<=n) (h8:n<=8) (hf:(bB (dX k j) a n way).1=0):iu k j a n way=((rG k j a n way,(0,0)),(bg k j a n way).2):=by grind [iu]
theorem vw {a:Int} {d:ByteArray} (hf:¬(bB (dX k j) a d.size 1).1=0):jJ k j a d=(bB (dX k j) a d.size 1,k):=by grind [jJ]
theorem tU {a:Int} {d:ByteArray} (hf:(bB (dX k j) a d.size 1).1=0):jJ k j a d=((0,0),nX k j a d):=by grind [jJ]
theorem M8 (h:fO k fl) (hk:fl.getD j false=true) {r:List aX×Int} (hr:r.2=0->bj r.1=0/\zS (dX k j) r.1):fO (gL k j r).2 fl:=by
 obtain⟨hj,hl⟩:=h.at_ hk;unfold gL;by_cases c:r.2=0
 . rw[aB (λx=>x c)];by_cases c2:eU k.aj-bf (dX k j)+bf r.1>(k.slots.length:Int)
   . rw[aC c2];exact h
   rw[aB c2];obtain⟨g1,g2⟩:=hr c;obtain⟨_,_,_,_,hn,hs⟩:=sY k hj r.1;refine M9 h (Wi h.right hj hl g1 g2 (by unfold dX at c2;omega)) hn (λm hm=>?_);have:=hs m hm
   grind
 rw[aC c];exact h
theorem JL {r:List aX×Int} (h:0<=r.2/\r.2<=10):0<=(gL k j r).1/\(gL k j r).1<=10:=by grind [gL]
theorem jr:tj dY fO where
 load:=λs fl k a n way h hk=>by
  show fO (iu s k a n way).2 fl;obtain⟨hj,hl⟩:=h.at_ hk;by_cases c:1<=n/\n<=8
  . by_cases g:(bB (dX s k) a n way).1=0
    . rw[tC c.1 c.2 g];obtain⟨m1,m2,_⟩:=nO c.1 c.2 g;have R:=rD h.right hj a n way m1 m2;exact M9 h R.right R.kept.np R.kept.live
    rw[vB c.1 c.2 g];exact h
  rw[JP c];exact h
 size:=λs fl k a n way h hk h1 h8 hf=>by
  have hf:(iu s k a n way).1.2.1=0:=hf;show((iu s k a n way).1.1.size:Int)=n;obtain⟨hj,hl⟩:=h.at_ hk;by_cases g:(bB (dX s k) a n way).1=0
  . rw[tC h1 h8 g];obtain⟨m1,m2,_⟩:=nO h1 h8 g;show((rG s k a n way).size:Int)=n;rw[zR h.right hj a n way m1 m2,ab7 ⟨wh h.right hj m1,wh h.right hj m2⟩ h1 h8];omega
  rw[vB h1 h8 g] at hf;exact absurd hf g
 fault:=λs fl k a n way h hk=>by
  show 0<=(iu s k a n way).1.2.1/\(iu s k a n way).1.2.1<=4/\((iu s k a n way).1.2.1=0->(iu s k a n way).1.2=(0,0));have:=Ax (dX s k) a n way;by_cases c:1<=n/\n<=8
  . by_cases g:(bB (dX s k) a n way).1=0
    . rw[tC c.1 c.2 g];simp
    rw[vB c.1 c.2 g];exact⟨this.1,this.2,λx=>absurd x g⟩
  rw[JP c];simp
 none:=λs fl k a n way h hk hf=>by
  have hf:¬(iu s k a n way).1.2.1=0:=hf;show(iu s k a n way).1.1=⟨#[]⟩
  grind [iu]
 store:=λs fl k a d h hk h1 h8=>by
  show fO (jJ s k a d).2 fl;obtain⟨hj,hl⟩:=h.at_ hk;by_cases g:(bB (dX s k) a d.size 1).1=0
  . rw[tU g];obtain⟨m1,m2,_⟩:=nO ω ω g;have R:=yQ h.right hj a d ω ω m1 m2;exact M9 h R.right R.np R.live
  rw[vw g];exact h
 UN:=λs fl k a d h hk=>by
  show 0<=(jJ s k a d).1.1/\(jJ s k a d).1.1<=4/\((jJ s k a d).1.1=0->(jJ s k a d).1=(0,0));have:=Ax (dX s k) a d.size 1;by_cases g:(bB (dX s k) a d.size 1).1=0
  . rw[tU g];simp
  rw[vw g];exact⟨this.1,this.2,λx=>absurd x g⟩
 map:=λs fl k p n q h hk=>M8 h hk (λe=>LX e)
 qX:=λs fl k p n h hk=>M8 h hk (λe=>Bu e)
 ko:=λs fl k p n q h hk=>M8 h hk (λe=>En e)
 UM:=λs fl k h hk hf=>by
  have hf:¬(gM s k).1=0:=hf;show fO (gM s k).2 fl;have:(gM s k).2=s:=by grind [gM]
  rw[this];exact h
 NV:=λs fl k h hk hf=>by
  have hf:(gM s k).1=0:=hf;show fO (gM s k).2 (fl++[true]);obtain⟨hj,hl⟩:=h.at_ hk;unfold gM at hf ⊢;by_cases c:s.aj.length=4
  . rw[aC c] at hf;cases hf
  rw[aB c] at hf ⊢;by_cases c2:eU s.aj+bf (dX s k)>(s.slots.length:Int)
  . rw[aC c2] at hf;cases hf
  rw[aB c2];have F:=yl h.right hj;refine⟨YD h.right hj c (by unfold dX at c2;omega),?_⟩;show _=(jq s k).aj.map _;rw[F.aj,tF,h.flags,<- hl];rfl
 alP:=λs fl k p n q h hk=>JL (s7 _ _ _ _ _ (WN q))
 UD:=λs fl k p n h hk=>JL (s7 _ _ _ _ _ PI)
 IP:=λs fl k p n q h hk=>JL (s7 _ _ _ _ _ (JY q))
 few:=λs fl h=>by rw[h.flags,fI];exact h.right.c.2.2.1.2
 drop:=λs fl k h hk=>by
  show fO (mE s k) (fl.set k false);obtain⟨hj,hl⟩:=h.at_ hk;refine⟨YF h.right hj,?_⟩;show _=((df s k (λ_=>true)).aj.set k tR).map _;rw[ij,pS,h.flags,Ny];rfl
def tP (k:aT) (j:Nat) (a n way:Int):Nat->aT
 | 0=>k
 | 1=>(fT k j a way).2
 | _=>(mN k j a n way).2
def sV (k:aT) (j:Nat) (a n way:Int):Nat->List Int
 | 0=>[]
 | 1=>[((fT k j a way).1:Int)]
 | _=>[((fT k j a way).1:Int),((mN k j a n way).1:Int)]
def Bt (l:List Nat):List Int:=l.map λx:Nat=>(x:Int)
def qR (a n:Int):Nat:=if cN a n=a/16 then 1 else 2
theorem RU (k:aT) (j:Nat) (a n way:Int):bg k j a n way=((bg k j a n way).1,tP k j a n way (qR a n))/\Bt (bg k j a n way).1=sV k j a n way (qR a n)/\(bg k j a n way).1.length=qR a n:=by
 unfold bg qR;by_cases c:cN a n=a/16
 . rw[aC c,aC c];exact⟨rfl,rfl,rfl⟩
 rw[aB c,aB c];exact⟨rfl,rfl,rfl⟩
theorem arc (k:aT) (j:Nat) (a n way:Int):tP k j a n way 0=k:=rfl
theorem amC (k:aT) (j:Nat) (a n way:Int):tP k j a n way 1=(dO k j (a/16) way []).2:=by rfl
theorem ara (k:aT) (j:Nat) (a n way:Int):tP k j a n way 2=(dO (dO k j (a/16) way []).2 j (cN a n) way [((dO k j (a/16) way []).1:Int)]).2:=by rfl
theorem arh (k:aT) (j:Nat) (a n way:Int):sV k j a n way 0=[]:=rfl
theorem amD (k:aT) (j:Nat) (a n way:Int):sV k j a n way 1=[((dO k j (a/16) way []).1:Int)]:=by rfl
theorem arf (k:aT) (j:Nat) (a n way:Int):sV k j a n way 2=[((dO k j (a/16) way []).1:Int)]++[((dO (dO k j (a/16) way []).2 j (cN a n) way [((dO k j (a/16) way []).1:Int)]).1:Int)]:=by rfl
theorem apN.local {S S':gJ} {w w2 w3:World} {D:Nat->Prop} (h:cO S w S' w2) (k:aH D w2 w3) (hd:∀b,D b->w.heap.size<=b):cO S w S' w3:=⟨⟨k.os.trans h.kp.os,k.tape.trans h.kp.tape,k.output.trans h.kp.output,eJ h.kp.size k.size,λb hb hn=>(k.block b (dV hb h.kp.size) (λg=>Γ)).trans (h.kp.block b hb hn)⟩,h.no,h.eS,h.eF,h.eL,h.eP⟩
theorem Z5 (k:aT) (j:Nat) (a n way:Int) (m:Nat) (hm:m<=2):(sV k j a n way m).length=m:=by
 rcases(ω:m=0\/m=1\/m=2) with rfl | rfl | rfl <;> rfl
theorem Yl {lo mb:Nat} {tt:TypeId} {X:List Value} (k:aT) (S:gJ) (w:World) (j:Nat) (a n way:Int) (h:bR lo mb tt X w S k) (hR:aW k) (hj:j<k.aj.length) (ha:cH a) (hn:1<=n/\n<=8) (hf:(bB (ak k.aj j).aJ a n way).1=0) (hX:KU X k.aR) :
  Calls prog 272 #[.pointer (some (Ad mb 0)),I (j:Int),I a,I n,I way] w λe w'=>∃av cv S',e=.returned (.tuple #[.slice av (bg k j a n way).1.length cv,.agg #[I 0,I 0]])/\om w' S' av (Bt (bg k j a n way).1)/\bR lo mb tt X w' S' (bg k j a n way).2/\cO S w S' w':=by
 have aw:=hR.c;obtain⟨ae,b1,au,J⟩:=uA hn.1 hn.2 hf;have yr:dM k j (a/16):=by
  have:=J 0 ω ω;rw[Gj] at this;exact this
 have aS:dM k j (cN a n):=by
  have:=J (n-1) ω ω;unfold cN;rw[show a+n-1=a+(n-1) by omega];exact this
 have M:cN a n=a/16+((qR a n:Nat):Int)-1:=by
  unfold qR
  grind [QJ]
 have b5:qR a n=1\/qR a n=2:=by unfold qR;grind
 have A1:=(tS hR hj yr way (held:=[]) ξ).1;obtain⟨a3,b4,aE⟩:=RU k j a n way;have a8:∀m,m<qR a n->aW (tP k j a n way m)/\j<(tP k j a n way m).aj.length/\dM (tP k j a n way m) j (a/16+(m:Int))/\(tP k j a n way m).aR=k.aR/\(dO (tP k j a n way m) j (a/16+(m:Int)) way (sV k j a n way m)).2=tP k j a n way (m+1)/\sV k j a n way (m+1)=sV k j a n way m++[((dO (tP k j a n way m) j (a/16+(m:Int)) way (sV k j a n way m)).1:Int)]:=λm hm=>by
  rcases(ω:m=0\/(m=1/\qR a n=2)) with rfl | ⟨rfl,h2⟩
  . grind [arc,arh,amC,amD]
  grind [amC,amD,ara,arf,gv.right,gv.kept,gp.mapped,gp.aR,gp.np]
 have N:Hid (∀V S' m av nv cv,m<qR a n->nv=m->bR lo mb tt X V S' (tP k j a n way m)->om V S' av (sV k j a n way m)->Calls prog 284 #[.pointer (some (Ad mb 0)),I (j:Int),I (a/16+(m:Int)),I way,.slice av nv cv] V λe w'=>∃i:Nat,e=.returned (I (i:Int))/\sV k j a n way (m+1)=sV k j a n way m++[(i:Int)]/\∃S2,bR lo mb tt X w' S2 (tP k j a n way (m+1))/\cO S' V S2 w'):=λV S' m av nv cv hm hnv hV hh=>by
  obtain⟨q1,q2,q3,q4,q5,q6⟩:=a8 m hm;have y:=Z5 k j a n way m ω;have:=abP (tP k j a n way m) S' V j (a/16+(m:Int)) way (sV k j a n way m) av cv hV q1 q2 q3 Γ ω hh;rw[y] at this;subst hnv;refine this.mono λe w' ⟨g1,S2,g2,g3⟩=>⟨_,g1,q6,S2,q5 ▸ g2,g3⟩
 have fV:Hid (∀V S' av nv cv,nv=qR a n->om V S' av (sV k j a n way (qR a n))->bR lo mb tt X V S' (tP k j a n way (qR a n))->cO S w S' V->(∃av' cv' S'',Ending.returned (.tuple #[.slice av nv cv,.agg #[I 0,I 0]])=.returned (.tuple #[.slice av' (bg k j a n way).1.length cv',.agg #[I 0,I 0]])/\om V S'' av' (Bt (bg k j a n way).1)/\bR lo mb tt X V S'' (bg k j a n way).2/\cO S w S'' V)):=λV S' av nv cv e1 g1 g2 g3=>by
  have e2:(bg k j a n way).2=tP k j a n way (qR a n):=dC Prod.snd a3;exact⟨av,cv,S',Γ,Γ,Γ,g3⟩
 obtain⟨P,hP⟩:∃P:Ending->World->Prop,P=λe w'=>∃av cv S',e=.returned (.tuple #[.slice av (bg k j a n way).1.length cv,.agg #[I 0,I 0]])/\om w' S' av (Bt (bg k j a n way).1)/\bR lo mb tt X w' S' (bg k j a n way).2/\cO S w S' w':=⟨_,rfl⟩
 have Aw:Hid (∀V S' av nv cv,nv=qR a n->om V S' av (sV k j a n way (qR a n))->bR lo mb tt X V S' (tP k j a n way (qR a n))->cO S w S' V->P (.returned (.tuple #[.slice av nv cv,.agg #[I 0,I 0]])) V):=λV S' av nv cv e1 g1 g2 g3=>by grind
 rw[<- hP];obtain⟨pb,cP,A⟩:=h.toKr.sp ω;have c3:=h.c3;rw[A.v] at c3;have a1:=A.x1 j hj;have Y:dQ (ak k.aj j).aJ:=gy _ (hR.sp hj).aJ;have IM:=ai (λV (hb:Below w.heap.size w V)=>Ra _ _ a n way V (gD.below (h.toKr.aJ hj) hb) Y ha ω);rw[ae] at IM;obtain⟨ax,cx,Ie,_,_⟩:=aZ (h.each j hj).aJ;rw[Ie] at IM a1;have aF:(j:Int)<(k.aj.length:Int):=by omega
 have Uk:=h.lt;have az:=A.lt;unfold eI at IM;simp only at IM;have fU:=ai ((aN w.heap.size w).alloc (aK _) (.cells #[I 0,I 0] 75));have R0:=ai (bH w #[I 0,I 0] 75);have d3:=(fU.o.cell (p:=(Ad mb 3)) Uk).trans c3;have d1:=(fU.o.cell (p:=(Ad pb (j*3+1))) az).trans a1;generalize k.aj.length=np at d3 aF;generalize (ak k.aj j).aJ.length=na at d1 IM;have n0:Hid (S.lab w.heap.size=.no):=h.toKr.new (aK _);have Z:=ai h;have O:(a+n-1)/16=a/16+((qR a n:Nat):Int)-1:=M;have ao:=ai (Z5 k j a n way);generalize qR a n=PG at N Aw b5 O;have ad:0<=a:=by omega
 have ap:0<=a+n-1:=by omega
 have bd:IntKind.i64.wrap (a+n)=a+n:=sJ _ ω;have bp:IntKind.i64.wrap (a+n-1)=a+n-1:=sJ _ ω;obtain⟨i0,a5,an,ac,ab⟩:=kI QY;have Mk:=ai a5;have Tn:=ai an;have Nr:=ai ac;have DY:=ai ab;have b0:a/16<=256:=by omega
 have aP:0<=a/16:=by omega
 obtain⟨Q,hQ⟩:=ex (a/16);have HQ:=ai hQ;rw[<- hQ] at N O b0 aP;have ba:a.tdiv 16=Q:=by rw[hQ];exact aa2 ad
 have bm:(a+n-1).tdiv 16=Q+(PG:Int)-1:=by rw[<- O];exact aa2 ap
 clear h hR hj A c3 a1 Y Ie ae aw ha J yr aS M A1 a3 b4 aE a8 fV hP hX hf b1 au ad ap hQ a5 an ac ab O;go_enter func272,ntmps272;go_wp2_with (go_at_call 283;refine(IM.o _ fU.o).mono ?_;rintro e w1 ⟨rfl,a2⟩;have cD:=ai (bq fU.o a2);have R1:=ai (aU R0.o a2 (aQ R0.o));have FX:=ai (bH w1 #[I 0,I 0] 75);obtain⟨y0,y1⟩:=xZ FX.o;clear a2);have iQ:=ai (cD.o.alloc cD.o.size (.cells #[I 0,I 0] 75));have R2:=ai (bu R1.o (.cells #[I 0,I 0] 75));generalize w1.alloc (.cells #[I 0,I 0] 75)=W at iQ R2 y0 y1 ⊢;clear y0 y1 FX R1 cD;go_loopw [13,14] (λfv pv wr=>∃(m:Nat) (S':gJ) (av:Option Addr) (cv:Nat),m<=PG/\pv=I (Q+(m:Int))/\fv=.slice av m cv/\wr.ownsRow W.heap.size 3 1 (.slice av m cv) m ((sV k j a n way m).flatMap jb)/\(∀b,cA (.slice av m cv) b->S'.lab b=.no)/\bR lo mb tt X wr S' (tP k j a n way m)/\cO S W S' wr) (λ_ pv _=>(Q+(PG:Int)-intOf pv).toNat)
 case atStart=>exact⟨0,S,none,0,ω,ξ,rfl,pT _ _ _ _,λb hb=>(by cases hb),Z.o.below iQ.o,cO.refl _ _⟩
 case round =>
  obtain⟨m,S',av,cv,hm,rfl,rfl,B,K,uR,F⟩:=hrel;have a0:=ai B;have sk:=ai K;have Nt:=ai F;by_cases hlt:m<PG
  . have bb:Q+(m:Int)<=Q+(PG:Int)-1:=by omega
    have y:=ao.o m ω;have L:=B;rw[<- y] at L;have C3:=(Jf (S:=S') (n:=m) (l:=sV k j a n way m) (by rw[y];omega) K).2;have aB:=ai (N.o wr S' m av m cv hlt rfl uR C3);clear B K uR F L C3 y Z;go_wp2_with (first
     | (at_builtin;refine m8 (P:=prog) rfl _ _ 48 rfl W.heap.size 3 i0 (I 0) 1 8 underlying48 Mk.o Tn.o Nr.o DY.o rfl Δ (.slice av m cv) m ((sV k j a n way m).flatMap jb) rfl K6.o (some (Ad w2.heap.size 0)) 1 1 [I (i:Int)] rfl rfl (λ_=>⟨_,rfl,xY (bH w2 _ _)⟩) (by intro u hu;simp at hu;rw[hu];rfl) (by unfold maxLen;omega) ω (by have:=uM.o.kp.size;simp;omega) ?_;intro v' w' G a4 a6;obtain⟨aG,cG,aL,_,_⟩:=aZ G;subst aL;have b3:=ai G;have b2:=ai a4;have CF:=ai a6;clear G a4 a6)
     | (go_at_call 284;refine aB.o.mono ?_;rintro e w2 ⟨i,rfl,ag,S2,al,T⟩;have ay:=ai ag;have uD:=ai al;have uM:=ai (Nt.o.trans T);have ah:=ai (T.kp.row a0.o (λb hb z=>z (sk.o b hb)));have af:=ai (λb (hb:cA (.slice av m cv) b)=>T.no b (a0.o.lt b hb).2 (sk.o b hb));have K6:=ai (ah.o.alloc (.cells #[I (i:Int)] 3));clear ag al T))
    go_roundw
    case rel =>
     have kA:aH (λb=>cA (.slice av m cv) b) w2 (w2.alloc (.cells #[I (i:Int)] 3)):=aH.alloc _ _ _;have kB:=kA.trans (aH.grown (D:=λb=>cA (.slice av m cv) b) b2.o (λq hq=>hq)) (λ_ _ g=>g);have a7:∀b,cA (.slice aG (m+1) cG) b->S2.lab b=.no:=λb hb=>by
      rcases CF.o with g | g
      . exact af.o b (by show Value.ownBlock _=_;rw[<- g];exact hb)
      have hb:Value.ownBlock _=some b:=hb;rw[g] at hb;injection hb with hb;rw[fY] at hb;exact uD.o.toKr.new ω
     refine⟨m+1,S2,aG,cG,ω,by go_num,rfl,?_,a7,?_,?_⟩
     . rw[ay.o,tH];have e:[(i:Int)].flatMap jb=[I (i:Int)]:=rfl;rw[e];exact b3.o
     . exact uD.o.kp kB (λb hb g=>hb (af.o b g))
     exact apN.local uM.o kB (λb g=>(ah.o.lt b g).1)
    case measure=>simp[intOf];omega
  obtain rfl:m=PG:=by omega
  have bn:¬Q+(m:Int)<=Q+(m:Int)-1:=by omega
  have y:=ao.o m ω;have C3:=(Jf (S:=S') (n:=m) (l:=sV k j a n way m) (by rw[y];omega) K).2;have R:=ai C3;have aa:=ai uR;have RW:=ai (F.keep R2.o n0.out);obtain⟨y0,y1⟩:=xZ RW.o;have q0:=bG RW.o 0;have q1:=bG RW.o 1;have a9:=ai ((cO.below iQ.o).trans F);have am:S'.lab w.heap.size=.no:=F.no _ (aQ R2.o) n0.out;have U:Hid (∀V,V=(wr.setCell (Ad w.heap.size 0) (I 0)).setCell (Ad w.heap.size 1) (I 0)->om V S' av (sV k j a n way m)/\bR lo mb tt X V S' (tP k j a n way m)/\cO S w S' V/\V.heap[w.heap.size]?=some (.cells #[I 0,I 0] 75 (0,0))):=λV hV=>by
   have kp:aH (λb=>b=w.heap.size) wr V:=by rw[hV];exact(aH.set (λb=>b=w.heap.size) wr (Ad w.heap.size 0) _ rfl).trans (aH.set (λb=>b=w.heap.size) _ (Ad w.heap.size 1) _ rfl) (λ_ _ g=>g)
   refine⟨⟨Z6.kp R.o.has kp (λb off e z=>?_),R.o.no,λb off e=>dV (R.o.lt b off e) kp.size⟩,aa.o.kp kp (λb hb z=>hb (by rw[z];exact am)),apN.local a9.o kp (λb z=>ω),by rw[hV];exact gH (gH RW.o 0 _) 1 _⟩;have:W.heap.size<=b:=by
    subst e;rcases a0.o.2 with⟨h0,_⟩ | ⟨g,b6,bi,hv,b8,_⟩
    . cases h0
    injection hv with e1 _ _;injection e1 with e1;injection e1 with e1 _ _;omega
   have:=aQ R2.o;omega
  have aC:=ai (λV (hV:V=(wr.setCell (Ad w.heap.size 0) (I 0)).setCell (Ad w.heap.size 1) (I 0))=>Aw.o V S' av m cv rfl (U.o V hV).1 (U.o V hV).2.1 (U.o V hV).2.2.1);clear B K uR F C3 y Z R aa a9 am N;go_wp2;obtain⟨v0,v1⟩:=xZ (U.o _ rfl).2.2.2;refine b9 (v:=.tuple #[.slice av m cv,.agg #[I 0,I 0]]) (by simp[results,results272,go_sem,v0,v1]) rfl ?_;exact aC.o _ rfl
end Go.Proofs.YtlgoihmkgaaemaaGreat
