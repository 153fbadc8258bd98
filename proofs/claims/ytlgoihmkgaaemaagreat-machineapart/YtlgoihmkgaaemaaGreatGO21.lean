import Derived.Test.YtlgoihmkgaaemaaGreatGO20
set_option maxHeartbeats 20000000
set_option linter.unusedVariables false
set_option maxRecDepth 100000
set_option linter.unusedSimpArgs false
namespace Go.Proofs.YtlgoihmkgaaemaaGreat
open Go.RowKit
structure rV where
 slots:Int
 aj:List m6
def oZ (ps:List kg) (p:Int):ByteArray:=(cV p ps).getD ⟨#[]⟩
def nR (a n:Int):Int:=(a+n-1)/16
def uK (ps:List kg) (a n:Int):ByteArray:=if nR a n=a/16 then oZ ps (a/16) else oZ ps (a/16)++oZ ps (nR a n)
def GC (ps:List kg) (a n:Int):ByteArray:=(uK ps a n).extract (a%16).toNat ((a%16).toNat+n.toNat)
def pL (p:Int) (d:ByteArray) (ps:List kg):List kg:=ps.map (fun g=>if g.page=p then ⟨p,d⟩ else g)
def pB (ps:List kg) (a:Int) (s:ByteArray):List kg :=
 if nR a s.size=a/16 then pL (a/16) ((iD (uK ps a s.size) (a%16).toNat s).extract 0 16) ps
 else pL (nR a s.size) ((iD (uK ps a s.size) (a%16).toNat s).extract 16 32) (pL (a/16) ((iD (uK ps a s.size) (a%16).toNat s).extract 0 16) ps)
def M0:ByteArray:=⟨#[0,0,0,0,0,0,0,0,0,0,0,0,0,0,0,0]⟩
def xB (p:Int) (n:Nat):List kg:=(mr p n).map (fun x=>⟨x,M0⟩)
def ug (ps:List kg) (p:Int):Nat:=(ps.takeWhile (fun g=>decide (g.page<p))).length
def sN (ps:List kg) (p:Int) (n:Nat):List kg:=ps.take (ug ps p)++(xB p n++ps.drop (ug ps p))
def ue (ps:List kg) (p n:Int):List kg:=ps.filter (fun g=>!(decide (p<=g.page/\g.page<p+n)))
def oY (m:rV) (k:Nat) (s:m6):rV:={ m with aj:=m.aj.set k s }
def lN (m:rV) (k:Nat) (a n way:Int):(ByteArray×(Int×Int))×rV :=
 if (bR (bq m.aj k).aT a n way).1=0 then ((GC (bq m.aj k).aQ a n,(0,0)),m) else ((⟨#[]⟩,bR (bq m.aj k).aT a n way),m)
def nC (m:rV) (k:Nat) (a:Int) (d:ByteArray):(Int×Int)×rV :=
 if (bR (bq m.aj k).aT a d.size 1).1=0 then ((0,0),oY m k { bq m.aj k with aQ:=pB (bq m.aj k).aQ a d }) else (bR (bq m.aj k).aT a d.size 1,m)
def zJ (m:rV) (k:Nat) (p n q:Int):Int×rV :=
 if ¬(dK (bq m.aj k).aT p n q).2=0 then ((dK (bq m.aj k).aT p n q).2,m)
 else if m.slots<ji m.aj+n then (8,m)
 else (0,oY m k { bq m.aj k with aT:=(dK (bq m.aj k).aT p n q).1,aQ:=sN (bq m.aj k).aQ p n.toNat })
def ud (m:rV) (k:Nat) (p n:Int):Int×rV :=
 if ¬(cQ (bq m.aj k).aT p n).2=0 then ((cQ (bq m.aj k).aT p n).2,m)
 else (0,oY m k { bq m.aj k with aT:=(cQ (bq m.aj k).aT p n).1,aQ:=ue (bq m.aj k).aQ p n })
def pM (m:rV) (k:Nat) (p n q:Int):Int×rV :=
 if ¬(bT (bq m.aj k).aT p n q).2=0 then ((bT (bq m.aj k).aT p n q).2,m)
 else (0,oY m k { bq m.aj k with aT:=(bT (bq m.aj k).aT p n q).1 })
def uL (m:rV) (k:Nat):Int×rV :=
 if 4<=m.aj.length then (2,m) else if m.slots<ji m.aj+bh (bq m.aj k).aT then (8,m)
 else (0,{ m with aj:=m.aj++[bq m.aj k] })
def agX (m:rV) (k:Nat):rV:=oY m k JK
def Ez:gH rV:=⟨lN,nC,zJ,ud,pM,uL,agX⟩
structure qI (m:rV) (fl:List Bool):Prop where
 flags:fl=m.aj.map (·.live)
 each:∀k,k<m.aj.length->lY (bq m.aj k)=true
 room:ji m.aj<=m.slots
 slots:0<=m.slots/\m.slots<=512
 few:1<=m.aj.length/\m.aj.length<=4
theorem Ob (l:List m6) (k j:Nat) (s:m6) (hk:k<l.length):bq (l.set k s) j=if j=k then s else bq l j:=by
 unfold bq;rw[fK,fK,Ha];by_cases h:j=k
 · rw[aB h,aB h.symm];subst h;rw[aB hk];rfl
 · rw[au h,au (fun g=>h g.symm)]
theorem qI.live {m:rV} {fl:List Bool} (h:qI m fl) {k:Nat} (hk:fl.getD k false=true):k<m.aj.length/\(bq m.aj k).live=true:=by
 rw[h.flags,fK,AQ] at hk;by_cases c:k<m.aj.length
 · rw[l6 c] at hk;refine⟨c,?_⟩;unfold bq;rw[fK,l6 c];exact hk
 · rw[PF (by omega)] at hk;cases hk
structure qJ (s:m6):Prop where
 check:bj s.aT=0
 nums:di s.aQ=dI s.aT
 size:∀k,k<s.aQ.length->(lq s.aQ k).data.size=16
theorem xC {s:m6} (h:lY s=true) (hl:s.live=true):qJ s:=by
 unfold lY at h;rw[aB hl] at h;simp only[eO,lh] at h;refine⟨h.1,h.2.1,fun k hk=>?_⟩;have:=h.2.2;unfold L4 at this;exact o5 (ql.1 this _ (GM hk))
theorem BB {s:m6} (h:qJ s) (hl:s.live=true):lY s=true:=by
 unfold lY;rw[aB hl,ic h.check,ic h.nums];have:L4 s.aQ=true:=by
  unfold L4;rw[ql];intro p hp;obtain⟨k,hk,rfl⟩:=BV hp;exact ic (h.size k hk)
 rw[this];rfl
theorem qJ.lT {s:m6} (h:qJ s):XU s.aQ:=Ue (by rw[h.nums];exact(oI h.check).sorted)
theorem aar:∀(l:List m6) (k:Nat) (s:m6),k<l.length->ji (l.set k s)=ji l-bh (bq l k).aT+bh s.aT:=fun l k s hk=>by
 have key:∀n,n<=l.length->qM (l.set k s) n=qM l n+(if k<n then bh s.aT-bh (bq l k).aT else 0):=fun n=>by
  induction n with
  | zero=>intro _;rw[au (by omega)];rfl
  | succ n ih =>
   intro hn;show qM (l.set k s) n+bh (bq (l.set k s) n).aT=qM l n+bh (bq l n).aT+_;rw[ih (by omega),Ob l k n s hk];by_cases c:n=k
   · subst c;rw[aB rfl,au (by omega),aB (by omega)];omega
   · rw[au c];by_cases d:k<n
     · rw[aB d,aB (by omega)];omega
     · rw[au d,au (by omega)];omega
 unfold ji;rw[fC,key _ (aD _),aB hk];omega
theorem LU (l:List m6) (s:m6):ji (l++[s])=ji l+bh s.aT:=by
 have key:∀n,n<=l.length->qM (l++[s]) n=qM l n:=fun n=>by
  induction n with
  | zero=>intro _;rfl
  | succ n ih =>
   intro hn;show qM (l++[s]) n+bh (bq (l++[s]) n).aT=qM l n+bh (bq l n).aT;rw[ih (by omega)];congr 3;unfold bq;rw[fK,fK,Hf (by omega)]
 unfold ji;rw[fM,AU];show qM (l++[s]) l.length+bh (bq (l++[s]) l.length).aT=_;rw[key _ (aD _)];congr 3;unfold bq;rw[fK,zj (aD _),G6];rfl
theorem Cx {a b:List Int} (ha:a.Pairwise (·<·)) (hb:b.Pairwise (·<·)) (h:∀x,x∈a↔x∈b):a=b :=
 L3 b a ha hb (fun x hx=>(h x).1 hx) (Nat.le_antisymm (mU b a ha hb (fun x hx=>(h x).1 hx)) (mU a b hb ha (fun x hx=>(h x).2 hx)))
theorem fu {l:List aY} (hc:bj l=0) {x:Int}:x∈dI l↔(aV l x).2=true:=(rD hc x).symm
theorem Ua {l:List aY} (hc:bj l=0) {x:Int} (h:x∈dI l):1<=x/\x<256:=by
 have:=iw hc (fu hc |>.1 h);omega
theorem Ex {l:List aY} {p n q:Int} (hc:bj l=0) (h:(dK l p n q).2=0):bj (dK l p n q).1=0/\(1<=p/\1<=n/\p+n<=256)/\(∀x,x∈dI (dK l p n q).1↔(x∈dI l∨(p<=x/\x<p+n)))/\(∀x,p<=x->x<p+n->x∉dI l):=by
 obtain⟨h1,h2⟩:=zM l p n q h;obtain⟨_,Fh,_,_,_⟩:=xH _ _ _ _ _ h;have hpb:=(ow p n).1 Fh;refine⟨h1,by omega,fun x=>?_,fun x g1 g2 hx=>?_⟩
 · rw[fu h1,fu hc];by_cases c:1<=x/\x<=255
   · obtain⟨m,rfl⟩:∃m:Nat,x=(m:Int):=⟨x.toNat,by omega⟩;obtain⟨k1,k2⟩:=h2 m (by omega) (by omega);by_cases d:p<=(m:Int)/\(m:Int)<p+n
     · exact⟨fun _=>.inr d,fun _=>(k1 d).2.1⟩
     · rw[(k2 d).1];exact⟨fun g=>.inl g,fun g=>by rcases g with g | g;exact g;exact(d g).elim⟩
   · constructor
     · intro g;have:=iw h1 g;omega
     · rintro(g | g)
       · have:=iw hc g;omega
       · omega
 · obtain⟨m,rfl⟩:∃m:Nat,x=(m:Int):=⟨x.toNat,by omega⟩;have:=(h2 m (by omega) (by omega)).1 ⟨g1,g2⟩;rw[fu hc,this.1] at hx;cases hx
theorem GA {l:List aY} {p n:Int} (hc:bj l=0) (h:(cQ l p n).2=0):bj (cQ l p n).1=0/\(1<=p/\1<=n/\p+n<=256)/\(∀x,x∈dI (cQ l p n).1↔(x∈dI l/\¬(p<=x/\x<p+n))):=by
 obtain⟨h1,h2⟩:=wP l p n h;obtain⟨_,Fh,_,_,_⟩:=xH _ _ _ _ _ h;have hpb:=(ow p n).1 Fh;refine⟨h1,by omega,fun x=>?_⟩;rw[fu h1,fu hc];by_cases c:1<=x/\x<=255
 · obtain⟨m,rfl⟩:∃m:Nat,x=(m:Int):=⟨x.toNat,by omega⟩;obtain⟨k1,k2⟩:=h2 m (by omega) (by omega);by_cases d:p<=(m:Int)/\(m:Int)<p+n
   · rw[k1 d];exact⟨(fun g=>by cases g),fun g=>(g.2 d).elim⟩
   · rw[(k2 d).1];exact⟨fun g=>⟨g,d⟩,fun g=>g.1⟩
 · constructor
   · intro g;have:=iw h1 g;omega
   · rintro⟨g,_⟩;have:=iw hc g;omega
theorem C8 {l:List aY} {p n q:Int} (hc:bj l=0) (h:(bT l p n q).2=0):bj (bT l p n q).1=0/\dI (bT l p n q).1=dI l:=by
 obtain⟨h1,h2⟩:=uj l p n q h;refine⟨h1,Cx (oI h1).sorted (oI hc).sorted (fun x=>?_)⟩;rw[fu h1,fu hc];by_cases c:1<=x/\x<=255
 · obtain⟨m,rfl⟩:∃m:Nat,x=(m:Int):=⟨x.toNat,by omega⟩;rw[(h2 m (by omega) (by omega)).1.1]
 · constructor
   · intro g;have:=iw h1 g;omega
   · intro g;have:=iw hc g;omega
open Go.RowKit
theorem zK {l:List aY} {a way:Int}:∀{k:Nat},(b9 l a way k).1=0->∀j,j<k->iY l (a+j) way=(0,0)
 | 0,_,j,hj=>by omega
 | k+1,h,j,hj=>by
  have h0:(b9 l a way k).1=0:=by
   by_cases c:(b9 l a way k).1=0
   · exact c
   · rw[b9,au c] at h;exact(c h).elim
  by_cases e:j=k
  · subst e;rw[b9,aB h0] at h;exact(pQ h).1
  · exact zK h0 j (by omega)
theorem RU {l:List aY} {a n way:Int} (h:(bR l a n way).1=0):bR l a n way=(0,0)/\(b9 l a way n.toNat).1=0:=by
 unfold bR at h ⊢;by_cases c:way=2/\¬a%8=0
 · rw[aB c] at h;cases h
 · rw[au c] at h ⊢;refine⟨?_,h⟩;cases hn:n.toNat with
   | zero=>rfl
   | succ m =>
    rw[hn] at h;have:=zK h m (by omega);rw[b9] at h ⊢;split at h
    · rename_i g
      rw[aB g];exact this
    · rename_i g
      exact(g h).elim
structure LW (ps:List kg) (a n:Int) (i:Nat):Prop where
 lt:i<ps.length
 first:(lq ps i).page=a/16
 low:16<=a
 high:a+n<=4096
 last:nR a n=a/16∨nR a n=a/16+1/\i+1<ps.length/\(lq ps (i+1)).page=nR a n
theorem Od {s:m6} (h:qJ s) {p:Int} (hp:(aV s.aT p).2=true):∃i,i<s.aQ.length/\(lq s.aQ i).page=p:=by
 have hm:=(rD h.check p).1 hp;rw[<- h.nums] at hm;obtain⟨g,hg,e⟩:=vM.1 hm;obtain⟨i,hi,rfl⟩:=BV hg;exact⟨i,hi,e⟩
theorem Oc {s:m6} (h:qJ s) {a n way:Int} (hn:1<=n) (hn8:n<=16) (hf:(bR s.aT a n way).1=0):∃i,LW s.aQ a n i:=by
 obtain⟨_,hb⟩:=RU hf;have h0:=pQ (by rw[zK hb 0 (by omega)]:(iY s.aT (a+(0:Nat)) way).1=0);have hl:=pQ (by rw[zK hb (n.toNat-1) (by omega)]:(iY s.aT (a+((n.toNat-1:Nat):Int)) way).1=0);have e0:a+((0:Nat):Int)=a:=by omega
 have el:a+((n.toNat-1:Nat):Int)=a+n-1:=by omega
 rw[e0] at h0;rw[el] at hl;obtain⟨_,ha0,hp0,_⟩:=h0;obtain⟨_,hal,hpl,_⟩:=hl;have r0:=iw h.check hp0;have rl:=iw h.check hpl;obtain⟨i,hi,ei⟩:=Od h hp0;refine⟨i,hi,ei,by omega,by omega,?_⟩;by_cases c:nR a n=a/16
 · exact .inl c
 · have c2:nR a n=a/16+1:=by unfold nR at c ⊢;omega
   obtain⟨j,hj,ej⟩:=Od h hpl;have ej':(lq s.aQ j).page=a/16+1:=by rw[ej];exact c2
   have hr:=h.lT;have hij:i<j:=by
    rcases Nat.lt_trichotomy i j with g | g | g
    · exact g
    · subst g;omega
    · have:=hr j i g hi;omega
   have Vy:j=i+1:=by
    by_cases g:j=i+1
    · exact g
    · have g1:=hr i (i+1) (by omega) (by omega);have g2:=hr (i+1) j (by omega) hj;omega
   subst Vy;exact .inr ⟨c2,hj,ej⟩
theorem RQ {ps:List kg} (hr:XU ps) {i:Nat} (hi:i<ps.length) {p:Int} (hp:(lq ps i).page=p):oZ ps p=(lq ps i).data:=by
 unfold oZ;rw[R8 ps p i hi (fun j hj e=>by have:=hr j i hj hi;omega) hp];rfl
theorem Ey {s:m6} (h:qJ s) {a n:Int} {i:Nat} (hr:LW s.aQ a n i):((uK s.aQ a n).size=16/\nR a n=a/16)∨((uK s.aQ a n).size=32/\nR a n=a/16+1):=by
 unfold uK;rcases hr.last with c | ⟨c,hl,e⟩
 · rw[aB c,RQ h.lT hr.lt hr.first];exact .inl ⟨h.size i hr.lt,c⟩
 · rw[au (by omega),RQ h.lT hr.lt hr.first,RQ h.lT hl e,Vr,h.size i hr.lt,h.size _ hl];exact .inr ⟨rfl,c⟩
theorem XF {s:m6} (h:qJ s) {a n:Int} (hn:1<=n) {i:Nat} (hr:LW s.aQ a n i):((GC s.aQ a n).size:Int)=n:=by
 unfold GC;rw[PB];have h1:=hr.low;have h2:=hr.high;rcases Ey h hr with⟨e1,e2⟩ | ⟨e1,e2⟩
 · unfold nR at e2;rw[e1];omega
 · unfold nR at e2;rw[e1];omega
theorem Gz (p:Int) (d:ByteArray) (ps:List kg):di (pL p d ps)=di ps:=by
 unfold di pL;rw[List.map_map];apply Vs;intro g _;show(if g.page=p then (⟨p,d⟩:kg) else g).page=g.page;split
 · rename_i e;exact e.symm
 · rfl
theorem acr (p:Int) (d:ByteArray) (ps:List kg):(pL p d ps).length=ps.length:=by unfold pL;rw[ie]
theorem aeB (p:Int) (d:ByteArray) (ps:List kg) (k:Nat) (hk:k<ps.length):lq (pL p d ps) k=if (lq ps k).page=p then ⟨p,d⟩ else lq ps k:=by
 unfold lq pL;rw[fK,fK,AQ,l6 hk];rfl
theorem Gy (p:Int) (d:ByteArray) (hd:d.size=16) (ps:List kg) (h:∀k,k<ps.length->(lq ps k).data.size=16):∀k,k<(pL p d ps).length->(lq (pL p d ps) k).data.size=16:=fun k hk=>by
 rw[acr] at hk;rw[aeB p d ps k hk];split
 · exact hd
 · exact h k hk
theorem XE {s:m6} (h:qJ s) {a:Int} {d:ByteArray} {i:Nat} (hd:1<=d.size) (hr:LW s.aQ a d.size i):qJ { s with aQ:=pB s.aQ a d }:=by
 have h1:=hr.low;have hov:(iD (uK s.aQ a d.size) (a%16).toNat d).size=(uK s.aQ a d.size).size:=by
  apply Je;rcases Ey h hr with⟨e1,e2⟩ | ⟨e1,e2⟩ <;> (unfold nR at e2;rw[e1];omega)
 refine⟨h.check,?_,?_⟩
 · show di (pB s.aQ a d)=_;unfold pB;split
   · rw[Gz];exact h.nums
   · rw[Gz,Gz];exact h.nums
 · show ∀k,k<(pB s.aQ a d).length->(lq (pB s.aQ a d) k).data.size=16;unfold pB;rcases Ey h hr with⟨e1,e2⟩ | ⟨e1,e2⟩
   · rw[aB e2];exact Gy _ _ (by rw[PB,hov,e1];rfl) _ h.size
   · rw[au (by omega)];exact Gy _ _ (by rw[PB,hov,e1];rfl) _ (Gy _ _ (by rw[PB,hov,e1];rfl) _ h.size)
theorem OZ {ps:List kg} (h:(di ps).Pairwise (·<·)) (p:Int):∀x,x∈di (ps.drop (ug ps p))->p<=x:=by
 unfold ug;induction ps with
 | nil=>intro x hx;cases hx
 | cons g r ih =>
  intro x hx;have hp:=AW.1 (show(g.page::di r).Pairwise (·<·) from h);by_cases c:g.page<p
  · rw[acW (by simpa using c),xN,Vn] at hx;exact ih hp.2 x hx
  · rw[acV (by simpa using c)] at hx;rcases uQ.1 (show x∈g.page::di r from hx) with e | e
    · omega
    · have:=hp.1 x e;omega
theorem aap (ps:List kg) (p:Int):∀x,x∈di (ps.take (ug ps p))->x<p:=by
 unfold ug;induction ps with
 | nil=>intro x hx;cases hx
 | cons g r ih =>
  intro x hx;by_cases c:g.page<p
  · rw[acW (by simpa using c),xN,Vm] at hx;rcases uQ.1 (show x∈g.page::di (r.take _) from hx) with e | e
    · omega
    · exact ih x e
  · rw[acV (by simpa using c)] at hx;cases hx
theorem C9 (p:Int) (n:Nat):di (xB p n)=mr p n:=by
 unfold di xB;rw[List.map_map];exact List.map_id _
theorem tF (a b:List kg):di (a++b)=di a++di b:=by unfold di;rw[AO]
theorem acs {s:m6} (h:qJ s) {p n q:Int} (hm:(dK s.aT p n q).2=0):qJ { s with aT:=(dK s.aT p n q).1,aQ:=sN s.aQ p n.toNat }:=by
 obtain⟨h1,h2,h3,h4⟩:=Ex h.check hm;have hs:(di s.aQ).Pairwise (·<·):=by rw[h.nums];exact(oI h.check).sorted
 have Vx:di s.aQ=di (s.aQ.take (ug s.aQ p))++di (s.aQ.drop (ug s.aQ p)):=by rw[<- tF,Vw]
 rw[Vx] at hs;obtain⟨q1,q2,q3⟩:=Hc.1 hs;have hlo:=aap s.aQ p;have hhi:=OZ (ps:=s.aQ) (by rw[Vx];exact hs) p;have P8:∀x,x∈di (s.aQ.drop (ug s.aQ p))->p+n<=x:=fun x hx=>by
  have g1:=hhi x hx;by_cases c:x<p+n
  · exfalso;refine h4 x g1 c ?_;rw[<- h.nums,Vx];exact List.mem_append_right _ hx
  · omega
 refine⟨h1,?_,?_⟩
 · show di (sN s.aQ p n.toNat)=_;refine Cx ?_ (oI h1).sorted (fun x=>?_)
   · unfold sN;rw[tF,tF,C9];refine Hc.2 ⟨q1,Hc.2 ⟨uM _ _,q2,fun x hx y hy=>?_⟩,fun x hx y hy=>?_⟩
     · have:=(qa _ _ _).1 hx;have:=P8 y hy;omega
     · have g1:=hlo x hx;rcases l5.1 hy with g | g
       · have:=(qa _ _ _).1 g;omega
       · have:=hhi y g;omega
   · rw[h3];unfold sN;rw[tF,tF,C9,l5,l5,qa,<- h.nums,Vx,l5];constructor
     · rintro(g | g | g)
       · exact .inl (.inl g)
       · exact .inr (by omega)
       · exact .inl (.inr g)
     · rintro((g | g) | g)
       · exact .inl g
       · exact .inr (.inr g)
       · exact .inr (.inl (by omega))
 · intro k hk;have hm2:=GM hk;have:∀g∈sN s.aQ p n.toNat,g.data.size=16:=fun g hg=>by
    unfold sN at hg;have old:∀g∈s.aQ,g.data.size=16:=fun g hg=>by
     obtain⟨k,hk,rfl⟩:=BV hg;exact h.size k hk
    rcases l5.1 hg with e | e
    · exact old g (List.mem_of_mem_take e)
    · rcases l5.1 e with e | e
      · obtain⟨x,_,rfl⟩:=vM.1 e;rfl
      · exact old g (Vp e)
   exact this _ hm2
theorem XD {s:m6} (h:qJ s) {p n:Int} (hm:(cQ s.aT p n).2=0):qJ { s with aT:=(cQ s.aT p n).1,aQ:=ue s.aQ p n }:=by
 obtain⟨h1,h2,h3⟩:=GA h.check hm;have hs:(di s.aQ).Pairwise (·<·):=by rw[h.nums];exact(oI h.check).sorted
 refine⟨h1,?_,?_⟩
 · show di (ue s.aQ p n)=_;refine Cx ?_ (oI h1).sorted (fun x=>?_)
   · unfold di ue;exact Vq ((List.filter_sublist).map _) hs
   · rw[h3,<- h.nums];unfold di ue;simp only[vM,U9];constructor
     · rintro⟨g,⟨h5,h6⟩,rfl⟩;exact⟨⟨g,h5,rfl⟩,by simp at h6;omega⟩
     · rintro⟨⟨g,h5,rfl⟩,h6⟩;exact⟨g,⟨h5,by simp;omega⟩,rfl⟩
 · intro k hk;have hm2:=GM hk;have:∀g∈ue s.aQ p n,g.data.size=16:=fun g hg=>by
    unfold ue at hg;obtain⟨k,hk,rfl⟩:=BV (U9.1 hg).1;exact h.size k hk
   exact this _ hm2
theorem rC {s:m6} (h:qJ s):bh s.aT=(s.aQ.length:Int):=by
 rw[tG h.check,<- h.nums];unfold di;rw[ie]
theorem RP {m:rV} {fl:List Bool} (h:qI m fl) {k:Nat} (hk:k<m.aj.length) {s:m6} (hs:lY s=true) (hr:ji m.aj-bh (bq m.aj k).aT+bh s.aT<=m.slots):qI (oY m k s) (fl.set k s.live):=by
 refine⟨?_,fun j hj=>?_,?_,h.slots,?_⟩
 · rw[h.flags];show(m.aj.map (·.live)).set k s.live=(m.aj.set k s).map (·.live);rw[Pe]
 · have hj':j<m.aj.length:=by
    have:j<(m.aj.set k s).length:=hj;rw[fC] at this;exact this
   show lY (bq (m.aj.set k s) j)=true;rw[Ob _ _ _ _ hk];split
   · exact hs
   · exact h.each j hj'
 · show ji (m.aj.set k s)<=m.slots;rw[aar _ _ _ hk];exact hr
 · show 1<=(m.aj.set k s).length/\(m.aj.set k s).length<=4;rw[fC];exact h.few
theorem aaq (fl:List Bool) (k:Nat) (b:Bool) (h:fl.getD k false=b):fl.set k b=fl:=by
 apply Dw;intro j;rw[Ha];by_cases e:k=j
 · subst e;by_cases c:k<fl.length
   · rw[fK,l6 c] at h;rw[aB rfl,aB c,l6 c];exact ed some h.symm
   · rw[aB rfl,au c,PF (by omega)]
 · rw[au e]
theorem zI {m:rV} {fl:List Bool} (h:qI m fl) {k:Nat} (hf:fl.getD k false=true) (hk:k<m.aj.length) {s:m6} (hl:s.live=true) (hs:lY s=true) (hr:ji m.aj-bh (bq m.aj k).aT+bh s.aT<=m.slots):qI (oY m k s) fl:=by
 have:=RP h hk hs hr;rw[hl,aaq fl k true hf] at this;exact this
theorem XG (l:List aY) (p way:Int):0<=(iY l p way).1/\(iY l p way).1<=4:=by
 unfold iY;split
 · exact⟨by simp[b9,bK],by simp[b9,bK]⟩
 · split <;> exact⟨by simp[b9,bK],by simp[b9,bK]⟩
theorem I6 (l:List aY) (a way:Int):∀k,0<=(b9 l a way k).1/\(b9 l a way k).1<=4
 | 0=>⟨by simp[b9,bK],by simp[b9,bK]⟩
 | k+1=>by
  rw[b9];split
  · exact XG _ _ _
  · exact I6 l a way k
theorem yh (l:List aY) (a n way:Int):0<=(bR l a n way).1/\(bR l a n way).1<=4:=by
 unfold bR;split
 · exact⟨by simp[b9,bK],by simp[b9,bK]⟩
 · exact I6 _ _ _ _
theorem aeC (ps:List kg) (p:Int):ug ps p<=ps.length:=by
 unfold ug;exact List.Sublist.length_le (List.takeWhile_sublist _)
theorem acu (ps:List kg) (p:Int) (n:Nat):(sN ps p n).length=ps.length+n:=by
 have:=aeC ps p;unfold sN xB;rw[fM,fM,vT,J0,ie,Cz];omega
theorem RT (q:Int) (s:dx):0<=(eU q s).2/\(eU q s).2<=10:=by
 unfold eU;split <;> exact⟨by simp[b9,bK],by simp[b9,bK]⟩
theorem LV (s:dx):0<=(bK s).2/\(bK s).2<=10:=⟨by simp[b9,bK],by simp[b9,bK]⟩
theorem GD (q:Int) (s:dx):0<=(cC q s).2/\(cC q s).2<=10:=by
 unfold cC;split <;> exact⟨by simp[b9,bK],by simp[b9,bK]⟩
theorem U3 (F:Nat->dx) (how:dx->dx×Int) (hh:∀s,0<=(how s).2/\(how s).2<=10):∀c n,0<=gF F how n c/\gF F how n c<=10
 | 0,n=>⟨by show(0:Int)<=0;omega,by show(0:Int)<=10;omega⟩
 | c+1,n=>by
  unfold gF;split
  · exact U3 F how hh c (n+1)
  · exact hh _
theorem aas (l:List aY):0<=bj l/\bj l<=10:=by
 unfold bj;split
 · exact⟨by simp[b9,bK],by simp[b9,bK]⟩
 · split <;> exact⟨by simp[b9,bK],by simp[b9,bK]⟩
theorem qH (l:List aY) (p n q:Int) (how:dx->dx×Int) (hh:∀s,0<=(how s).2/\(how s).2<=10):0<=(dQ l p n q how).2/\(dQ l p n q how).2<=10:=by
 unfold dQ;split
 · split
   · split
     · exact⟨by simp[b9,bK],by simp[b9,bK]⟩
     · exact U3 _ _ hh _ _
   · exact⟨by simp[b9,bK],by simp[b9,bK]⟩
 · exact aas l
theorem acv:qL Ez qI where
 load:=fun s fl k a n way h hk=>by
  show qI (lN s k a n way).2 fl;unfold lN;split <;> exact h
 size:=fun s fl k a n way h hk hn hn8 hf=>by
  obtain⟨hlt,hlv⟩:=h.live hk;have hL:=xC (h.each k hlt) hlv;have hf':(lN s k a n way).1.2.1=0:=hf;show((lN s k a n way).1.1.size:Int)=n;unfold lN at hf' ⊢;by_cases c:(bR (bq s.aj k).aT a n way).1=0
  · rw[aB c];obtain⟨i,hi⟩:=Oc hL hn (by omega) c;exact XF hL hn hi
  · rw[au c] at hf';exact(c hf').elim
 fault:=fun s fl k a n way h hk=>by
  show 0<=(lN s k a n way).1.2.1/\(lN s k a n way).1.2.1<=4/\((lN s k a n way).1.2.1=0->(lN s k a n way).1.2=(0,0));unfold lN;have:=yh (bq s.aj k).aT a n way;split
  · exact⟨by simp,by simp,fun _=>rfl⟩
  · rename_i c
    exact⟨this.1,this.2,fun g=>(c g).elim⟩
 none:=fun s fl k a n way h hk hf=>by
  have hf':¬(lN s k a n way).1.2.1=0:=hf;show(lN s k a n way).1.1=⟨#[]⟩;unfold lN at hf' ⊢;split
  · rename_i c
    rw[aB c] at hf';exact(hf' rfl).elim
  · rfl
 store:=fun s fl k a d h hk hd1 hd8=>by
  obtain⟨hlt,hlv⟩:=h.live hk;have hL:=xC (h.each k hlt) hlv;show qI (nC s k a d).2 fl;unfold nC;split
  · rename_i c
    obtain⟨i,hi⟩:=Oc hL (by omega) (by omega) c;have hL2:=XE hL hd1 hi;exact zI h hk hlt hlv (BB hL2 hlv) (by
      have:=h.room;show ji s.aj-bh (bq s.aj k).aT+bh (bq s.aj k).aT<=s.slots;omega)
  · exact h
 Qh:=fun s fl k a d h hk=>by
  show 0<=(nC s k a d).1.1/\(nC s k a d).1.1<=4/\((nC s k a d).1.1=0->(nC s k a d).1=(0,0));unfold nC;have:=yh (bq s.aj k).aT a d.size 1;split
  · exact⟨by simp,by simp,fun _=>rfl⟩
  · rename_i c
    exact⟨this.1,this.2,fun g=>(c g).elim⟩
 map:=fun s fl k p n q h hk=>by
  obtain⟨hlt,hlv⟩:=h.live hk;have hL:=xC (h.each k hlt) hlv;show qI (zJ s k p n q).2 fl;unfold zJ;split
  · exact h
  · rename_i c
    have c':(dK (bq s.aj k).aT p n q).2=0:=Vh.1 c;split
    · exact h
    · rename_i c2
      have hL2:=acs hL c';exact zI h hk hlt hlv (BB hL2 hlv) (by
       rw[rC hL,rC hL2];have hlen:=(Ex hL.check c').2.1;have:(sN (bq s.aj k).aQ p n.toNat).length=(bq s.aj k).aQ.length+n.toNat:=acu _ _ _;show ji s.aj-((bq s.aj k).aQ.length:Int)+((sN (bq s.aj k).aQ p n.toNat).length:Int)<=s.slots;rw[this];omega)
 pC:=fun s fl k p n h hk=>by
  obtain⟨hlt,hlv⟩:=h.live hk;have hL:=xC (h.each k hlt) hlv;show qI (ud s k p n).2 fl;unfold ud;split
  · exact h
  · rename_i c
    have c':(cQ (bq s.aj k).aT p n).2=0:=Vh.1 c;have hL2:=XD hL c';exact zI h hk hlt hlv (BB hL2 hlv) (by
      rw[rC hL,rC hL2];have:(ue (bq s.aj k).aQ p n).length<=(bq s.aj k).aQ.length:=List.length_filter_le _ _;show ji s.aj-((bq s.aj k).aQ.length:Int)+((ue (bq s.aj k).aQ p n).length:Int)<=s.slots;have:=h.room;omega)
 jx:=fun s fl k p n q h hk=>by
  obtain⟨hlt,hlv⟩:=h.live hk;have hL:=xC (h.each k hlt) hlv;show qI (pM s k p n q).2 fl;unfold pM;split
  · exact h
  · rename_i c
    have c':(bT (bq s.aj k).aT p n q).2=0:=Vh.1 c;obtain⟨g1,g2⟩:=C8 hL.check c';have hL2:qJ { bq s.aj k with aT:=(bT (bq s.aj k).aT p n q).1 }:=⟨g1,by show di (bq s.aj k).aQ=_;rw[hL.nums];exact g2.symm,hL.size⟩;exact zI h hk hlt hlv (BB hL2 hlv) (by
      have e1:bh (bT (bq s.aj k).aT p n q).1=((bq s.aj k).aQ.length:Int):=rC hL2;have e2:=rC hL;have:=h.room;show ji s.aj-bh (bq s.aj k).aT+bh (bT (bq s.aj k).aT p n q).1<=s.slots;omega)
 Qg:=fun s fl k h hk hf=>by
  have hf':¬(uL s k).1=0:=hf;show qI (uL s k).2 fl;unfold uL at hf' ⊢;split
  · exact h
  · split
    · exact h
    · rename_i c1 c2
      rw[au c1,au c2] at hf';exact(hf' rfl).elim
 J7:=fun s fl k h hk hf=>by
  obtain⟨hlt,hlv⟩:=h.live hk;have hf':(uL s k).1=0:=hf;show qI (uL s k).2 (fl++[true]);unfold uL at hf' ⊢;by_cases c1:4<=s.aj.length
  · rw[aB c1] at hf';cases hf'
  · rw[au c1] at hf' ⊢;by_cases c2:s.slots<ji s.aj+bh (bq s.aj k).aT
    · rw[aB c2] at hf';cases hf'
    · rw[au c2];refine⟨?_,fun j hj=>?_,?_,h.slots,?_⟩
      · rw[h.flags];show _=(s.aj++[bq s.aj k]).map (·.live);rw[AO,Vk,hlv]
      · have hj':j<(s.aj++[bq s.aj k]).length:=hj;rw[fM,AU] at hj';show lY (bq (s.aj++[bq s.aj k]) j)=true;by_cases c:j<s.aj.length
        · have:bq (s.aj++[bq s.aj k]) j=bq s.aj j:=by
           unfold bq;rw[fK,Hf c,<- fK]
          rw[this];exact h.each j c
        · have:bq (s.aj++[bq s.aj k]) j=bq s.aj k:=by
           obtain rfl:j=s.aj.length:=by omega
           show(s.aj++[bq s.aj k]).getD s.aj.length JK=_;rw[fK,zj (aD _),G6];rfl
          rw[this];exact h.each k hlt
      · show ji (s.aj++[bq s.aj k])<=s.slots;rw[LU];omega
      · show 1<=(s.aj++[bq s.aj k]).length/\(s.aj++[bq s.aj k]).length<=4;rw[fM,AU];omega
 afe:=fun s fl k p n q h hk=>by
  show 0<=(zJ s k p n q).1/\(zJ s k p n q).1<=10;unfold zJ;split
  · exact qH _ _ _ _ _ (RT q)
  · split <;> exact⟨by simp[b9,bK],by simp[b9,bK]⟩
 P4:=fun s fl k p n h hk=>by
  show 0<=(ud s k p n).1/\(ud s k p n).1<=10;unfold ud;split
  · exact qH _ _ _ _ _ LV
  · exact⟨by simp[b9,bK],by simp[b9,bK]⟩
 Ff:=fun s fl k p n q h hk=>by
  show 0<=(pM s k p n q).1/\(pM s k p n q).1<=10;unfold pM;split
  · exact qH _ _ _ _ _ (GD q)
  · exact⟨by simp[b9,bK],by simp[b9,bK]⟩
 few:=fun s fl h=>by rw[h.flags,ie];exact h.few.2
 drop:=fun s fl k h hk=>by
  obtain⟨hlt,hlv⟩:=h.live hk;have hL:=xC (h.each k hlt) hlv;have:=RP h hlt (s:=JK) rfl (by
   have h0:bh JK.aT=0:=rfl;rw[h0,rC hL];have:=h.room;omega)
  exact this
open Go.RowKit
def cX (k:aR) (j:Nat):List aY:=(ak k.aj j).aT
def gT (k:aR) (j:Nat) (a n way:Int):(ByteArray×(Int×Int))×aR :=
 if ¬(1<=n/\n<=8) then ((⟨#[]⟩,(0,0)),k) else if (bR (cX k j) a n way).1=0 then ((mi k j a n way,(0,0)),(aZ k j a n way).2) else ((⟨#[]⟩,bR (cX k j) a n way),k)
def je (k:aR) (j:Nat) (a:Int) (d:ByteArray):(Int×Int)×aR :=
 if (bR (cX k j) a d.size 1).1=0 then ((0,0),lJ k j a d) else (bR (cX k j) a d.size 1,k)
def eG (k:aR) (j:Nat) (r:List aY×Int):Int×aR :=
 if ¬r.2=0 then (r.2,k) else if eD k.aj-bh (cX k j)+bh r.1>(k.slots.length:Int) then (8,k) else (0,gI k j r.1)
def gz (k:aR) (j:Nat):Int×aR :=
 if k.aj.length=4 then (2,k) else if eD k.aj+bh (cX k j)>(k.slots.length:Int) then (8,k) else (0,gM k j)
def cI:gH aR:=⟨gT,je,fun k j p n q=>eG k j (dK (cX k j) p n q),fun k j p n=>eG k j (cQ (cX k j) p n),fun k j p n q=>eG k j (bT (cX k j) p n q),gz,jE⟩
structure dn (k:aR) (fl:List Bool):Prop where
 right:aW k
 flags:fl=k.aj.map (·.live)
theorem acg {l:List cZ} {j:Nat} (h:(l.map (·.live)).getD j false=true):j<l.length/\(ak l j).live=true:=by
 by_cases c:j<l.length
 · refine⟨c,?_⟩;unfold ak
   grind
 · grind
theorem Xo {l r:List cZ} (hn:r.length=l.length) (h:∀m,m<l.length->(ak r m).live=(ak l m).live):r.map (·.live)=l.map (·.live):=by
 apply Vf (by simp[hn]);intro i h1 h2;have:=h i (by simpa using h2);unfold ak at this
 grind
variable {k:aR} {fl:List Bool} {j:Nat}
theorem dn.at_ (h:dn k fl) (hk:fl.getD j false=true):j<k.aj.length/\(ak k.aj j).live=true:=by
 rw[h.flags] at hk;exact acg hk
theorem mn {a n way:Int} (h1:1<=n) (h8:n<=8) (hf:(bR (cX k j) a n way).1=0):dV k j (a/16)/\dV k j (cB a n)/\(16<=a/\a+n<=4096):=by
 obtain⟨_,hal,hau,hmap⟩:=rZ h1 h8 hf;refine⟨?_,?_,hal,hau⟩
 · have:=hmap 0 (by omega) (by omega);rw[Dn] at this;exact this
 · have:=hmap (n-1) (by omega) (by omega);unfold cB;rw[show a+n-1=a+(n-1) by omega];exact this
theorem JC (h:dn k fl) {k':aR} (hr:aW k') (hn:k'.aj.length=k.aj.length) (hl:∀m,m<k.aj.length->(ak k'.aj m).live=(ak k.aj m).live):dn k' fl:=⟨hr,by rw[h.flags,Xo hn hl]⟩
theorem Gv {a n way:Int} (h:¬(1<=n/\n<=8)):gT k j a n way=((⟨#[]⟩,(0,0)),k):=by grind [gT]
theorem tE {a n way:Int} (h1:1<=n) (h8:n<=8) (hf:¬(bR (cX k j) a n way).1=0):gT k j a n way=((⟨#[]⟩,bR (cX k j) a n way),k):=by grind [gT]
theorem qR {a n way:Int} (h1:1<=n) (h8:n<=8) (hf:(bR (cX k j) a n way).1=0):gT k j a n way=((mi k j a n way,(0,0)),(aZ k j a n way).2):=by grind [gT]
theorem tD {a:Int} {d:ByteArray} (hf:¬(bR (cX k j) a d.size 1).1=0):je k j a d=(bR (cX k j) a d.size 1,k):=by grind [je]
theorem rz {a:Int} {d:ByteArray} (hf:(bR (cX k j) a d.size 1).1=0):je k j a d=((0,0),lJ k j a d):=by grind [je]
theorem Jz (h:dn k fl) (hk:fl.getD j false=true) {r:List aY×Int} (hr:r.2=0->bj r.1=0/\xt (cX k j) r.1):dn (eG k j r).2 fl:=by
 obtain⟨hj,hl⟩:=h.at_ hk;unfold eG;by_cases c:r.2=0
 · rw[au (fun x=>x c)];by_cases c2:eD k.aj-bh (cX k j)+bh r.1>(k.slots.length:Int)
   · rw[aB c2];exact h
   · rw[au c2];obtain⟨g1,g2⟩:=hr c;obtain⟨_,_,_,_,hn,hs⟩:=qE k hj r.1;refine JC h (Rb h.right hj hl g1 g2 (by unfold cX at c2;omega)) hn (fun m hm=>?_);have:=hs m hm
     grind
 · rw[aB c];exact h
theorem Gq {r:List aY×Int} (h:0<=r.2/\r.2<=10):0<=(eG k j r).1/\(eG k j r).1<=10:=by grind [eG]
theorem il:qL cI dn where
 load:=fun s fl k a n way h hk=>by
  show dn (gT s k a n way).2 fl;obtain⟨hj,hl⟩:=h.at_ hk;by_cases c:1<=n/\n<=8
  · by_cases g:(bR (cX s k) a n way).1=0
    · rw[qR c.1 c.2 g];obtain⟨m1,m2,_⟩:=mn c.1 c.2 g;have R:=od h.right hj a n way m1 m2;exact JC h R.right R.kept.np R.kept.live
    · rw[tE c.1 c.2 g];exact h
  · rw[Gv c];exact h
 size:=fun s fl k a n way h hk h1 h8 hf=>by
  have hf:(gT s k a n way).1.2.1=0:=hf;show((gT s k a n way).1.1.size:Int)=n;obtain⟨hj,hl⟩:=h.at_ hk;by_cases g:(bR (cX s k) a n way).1=0
  · rw[qR h1 h8 g];obtain⟨m1,m2,_⟩:=mn h1 h8 g;show((mi s k a n way).size:Int)=n;rw[xq h.right hj a n way m1 m2,WG ⟨pH h.right hj m1,pH h.right hj m2⟩ h1 h8];omega
  · rw[tE h1 h8 g] at hf;exact absurd hf g
 fault:=fun s fl k a n way h hk=>by
  show 0<=(gT s k a n way).1.2.1/\(gT s k a n way).1.2.1<=4/\((gT s k a n way).1.2.1=0->(gT s k a n way).1.2=(0,0));have:=yh (cX s k) a n way;by_cases c:1<=n/\n<=8
  · by_cases g:(bR (cX s k) a n way).1=0
    · rw[qR c.1 c.2 g];simp
    · rw[tE c.1 c.2 g];exact⟨this.1,this.2,fun x=>absurd x g⟩
  · rw[Gv c];simp
 none:=fun s fl k a n way h hk hf=>by
  have hf:¬(gT s k a n way).1.2.1=0:=hf;show(gT s k a n way).1.1=⟨#[]⟩
  grind [gT]
 store:=fun s fl k a d h hk h1 h8=>by
  show dn (je s k a d).2 fl;obtain⟨hj,hl⟩:=h.at_ hk;by_cases g:(bR (cX s k) a d.size 1).1=0
  · rw[rz g];obtain⟨m1,m2,_⟩:=mn (by omega) (by omega) g;have R:=wy h.right hj a d (by omega) (by omega) m1 m2;exact JC h R.right R.np R.live
  · rw[tD g];exact h
 Qh:=fun s fl k a d h hk=>by
  show 0<=(je s k a d).1.1/\(je s k a d).1.1<=4/\((je s k a d).1.1=0->(je s k a d).1=(0,0));have:=yh (cX s k) a d.size 1;by_cases g:(bR (cX s k) a d.size 1).1=0
  · rw[rz g];simp
  · rw[tD g];exact⟨this.1,this.2,fun x=>absurd x g⟩
 map:=fun s fl k p n q h hk=>Jz h hk (fun e=>Iz e)
 pC:=fun s fl k p n h hk=>Jz h hk (fun e=>yP e)
 jx:=fun s fl k p n q h hk=>Jz h hk (fun e=>Bk e)
 Qg:=fun s fl k h hk hf=>by
  have hf:¬(gz s k).1=0:=hf;show dn (gz s k).2 fl;have:(gz s k).2=s:=by grind [gz]
  rw[this];exact h
 J7:=fun s fl k h hk hf=>by
  have hf:(gz s k).1=0:=hf;show dn (gz s k).2 (fl++[true]);obtain⟨hj,hl⟩:=h.at_ hk;unfold gz at hf ⊢;by_cases c:s.aj.length=4
  · rw[aB c] at hf;cases hf
  rw[au c] at hf ⊢;by_cases c2:eD s.aj+bh (cX s k)>(s.slots.length:Int)
  · rw[aB c2] at hf;cases hf
  rw[au c2];have F:=vD h.right hj;refine⟨Tu h.right hj c (by unfold cX at c2;omega),?_⟩;show _=(gM s k).aj.map _;rw[F.aj,AO,h.flags,<- hl];rfl
 afe:=fun s fl k p n q h hk=>Gq (qH _ _ _ _ _ (RT q))
 P4:=fun s fl k p n h hk=>Gq (qH _ _ _ _ _ LV)
 Ff:=fun s fl k p n q h hk=>Gq (qH _ _ _ _ _ (GD q))
 few:=fun s fl h=>by rw[h.flags,ie];exact h.right.c.2.2.1.2
 drop:=fun s fl k h hk=>by
  show dn (jE s k) (fl.set k false);obtain⟨hj,hl⟩:=h.at_ hk;refine⟨Tw h.right hj,?_⟩;show _=((dH s k (fun _=>true)).aj.set k rp).map _;rw[gN,qi,h.flags,Pe];rfl
open Go.RowKit
def q9 (k:aR) (j:Nat) (a n way:Int):Nat->aR
 | 0=>k
 | 1=>(fp k j a way).2
 | _=>(kI k j a n way).2
def qB (k:aR) (j:Nat) (a n way:Int):Nat->List Int
 | 0=>[]
 | 1=>[((fp k j a way).1:Int)]
 | _=>[((fp k j a way).1:Int),((kI k j a n way).1:Int)]
def Ci (l:List Nat):List Int:=l.map fun x:Nat=>(x:Int)
def nY (a n:Int):Nat:=if cB a n=a/16 then 1 else 2
theorem Bh (k:aR) (j:Nat) (a n way:Int):aZ k j a n way=((aZ k j a n way).1,q9 k j a n way (nY a n))/\Ci (aZ k j a n way).1=qB k j a n way (nY a n)/\(aZ k j a n way).1.length=nY a n:=by
 unfold aZ nY;by_cases c:cB a n=a/16
 · rw[aB c,aB c];exact⟨rfl,rfl,rfl⟩
 · rw[au c,au c];exact⟨rfl,rfl,rfl⟩
theorem aki (k:aR) (j:Nat) (a n way:Int):q9 k j a n way 0=k:=rfl
theorem afZ (k:aR) (j:Nat) (a n way:Int):q9 k j a n way 1=(dN k j (a/16) way []).2:=by rfl
theorem akh (k:aR) (j:Nat) (a n way:Int):q9 k j a n way 2=(dN (dN k j (a/16) way []).2 j (cB a n) way [((dN k j (a/16) way []).1:Int)]).2:=by rfl
theorem akk (k:aR) (j:Nat) (a n way:Int):qB k j a n way 0=[]:=rfl
theorem af0 (k:aR) (j:Nat) (a n way:Int):qB k j a n way 1=[((dN k j (a/16) way []).1:Int)]:=by rfl
theorem akj (k:aR) (j:Nat) (a n way:Int):qB k j a n way 2=[((dN k j (a/16) way []).1:Int)]++[((dN (dN k j (a/16) way []).2 j (cB a n) way [((dN k j (a/16) way []).1:Int)]).1:Int)]:=by rfl
theorem ajg.local {S S':gL} {w w2 w3:World} {D:Nat->Prop} (h:cK S w S' w2) (k:aC D w2 w3) (hd:∀b,D b->w.heap.size<=b):cK S w S' w3:=⟨⟨k.os.trans h.kp.os,k.tape.trans h.kp.tape,k.output.trans h.kp.output,gu h.kp.size k.size,fun b hb hn=>(k.block b (fD hb h.kp.size) (fun g=>by grind)).trans (h.kp.block b hb hn)⟩,h.no,h.eS,h.eF,h.eL,h.eP⟩
theorem UD (k:aR) (j:Nat) (a n way:Int) (m:Nat) (hm:m<=2):(qB k j a n way m).length=m:=by
 rcases(show m=0∨m=1∨m=2 by omega) with rfl | rfl | rfl <;> rfl
theorem Ir {lo mb:Nat} {tt:TypeId} {X:List Value} (k:aR) (S:gL) (w:World) (j:Nat) (a n way:Int) (h:bJ lo mb tt X w S k) (hR:aW k) (hj:j<k.aj.length) (ha:cN a) (hn:1<=n/\n<=8) (hf:(bR (ak k.aj j).aT a n way).1=0) (hX:KR X k.aM) :
  Calls Tryz.prog 272 #[.pointer (some (Ad mb 0)),I (j:Int),I a,I n,I way] w fun e w'=>∃av cv S',e=.returned (.tuple #[.slice av (aZ k j a n way).1.length cv,.agg #[I 0,I 0]])/\nk w' S' av (Ci (aZ k j a n way).1)/\bJ lo mb tt X w' S' (aZ k j a n way).2/\cK S w S' w':=by
 have hcc:=hR.c;obtain⟨hf0,hal,hau,hmap⟩:=rZ hn.1 hn.2 hf;have ni:dV k j (a/16):=by
  have:=hmap 0 (by omega) (by omega);rw[Dn] at this;exact this
 have hm2:dV k j (cB a n):=by
  have:=hmap (n-1) (by omega) (by omega);unfold cB;rw[show a+n-1=a+(n-1) by omega];exact this
 have hlast:cB a n=a/16+((nY a n:Nat):Int)-1:=by
  unfold nY
  grind [MK]
 have hp2:nY a n=1∨nY a n=2:=by unfold nY;grind
 have A1:=(rq hR hj ni way (held:=[]) (by simp)).1;obtain⟨hr1,hr2,hr3⟩:=Bh k j a n way;have hpw:∀m,m<nY a n->aW (q9 k j a n way m)/\j<(q9 k j a n way m).aj.length/\dV (q9 k j a n way m) j (a/16+(m:Int))/\(q9 k j a n way m).aM=k.aM/\(dN (q9 k j a n way m) j (a/16+(m:Int)) way (qB k j a n way m)).2=q9 k j a n way (m+1)/\qB k j a n way (m+1)=qB k j a n way m++[((dN (q9 k j a n way m) j (a/16+(m:Int)) way (qB k j a n way m)).1:Int)]:=fun m hm=>by
  rcases(show m=0∨(m=1/\nY a n=2) by omega) with rfl | ⟨rfl,h2⟩
  · grind [aki,akk,afZ,af0]
  grind [afZ,af0,akh,akj,fW.right,fW.kept,fN.mapped,fN.aM,fN.np]
 have HBR:Hid (∀V S' m av nv cv,m<nY a n->nv=m->bJ lo mb tt X V S' (q9 k j a n way m)->nk V S' av (qB k j a n way m)->Calls Tryz.prog 284 #[.pointer (some (Ad mb 0)),I (j:Int),I (a/16+(m:Int)),I way,.slice av nv cv] V fun e w'=>∃i:Nat,e=.returned (I (i:Int))/\qB k j a n way (m+1)=qB k j a n way m++[(i:Int)]/\∃S2,bJ lo mb tt X w' S2 (q9 k j a n way (m+1))/\cK S' V S2 w'):=fun V S' m av nv cv hm hnv hV hh=>by
  obtain⟨q1,q2,q3,q4,q5,q6⟩:=hpw m hm;have hil:=UD k j a n way m (by omega);have:=Wk (q9 k j a n way m) S' V j (a/16+(m:Int)) way (qB k j a n way m) av cv hV q1 q2 q3 (by grind) (by omega) hh;rw[hil] at this;subst hnv;refine this.mono fun e w' ⟨g1,S2,g2,g3⟩=>⟨_,g1,q6,S2,q5 ▸ g2,g3⟩
 have dB:Hid (∀V S' av nv cv,nv=nY a n->nk V S' av (qB k j a n way (nY a n))->bJ lo mb tt X V S' (q9 k j a n way (nY a n))->cK S w S' V->(∃av' cv' S'',Ending.returned (.tuple #[.slice av nv cv,.agg #[I 0,I 0]])=.returned (.tuple #[.slice av' (aZ k j a n way).1.length cv',.agg #[I 0,I 0]])/\nk V S'' av' (Ci (aZ k j a n way).1)/\bJ lo mb tt X V S'' (aZ k j a n way).2/\cK S w S'' V)):=fun V S' av nv cv e1 g1 g2 g3=>by
  have e2:(aZ k j a n way).2=q9 k j a n way (nY a n):=ed Prod.snd hr1;exact⟨av,cv,S',by grind,by grind,by grind,g3⟩
 obtain⟨P,hP⟩:∃P:Ending->World->Prop,P=fun e w'=>∃av cv S',e=.returned (.tuple #[.slice av (aZ k j a n way).1.length cv,.agg #[I 0,I 0]])/\nk w' S' av (Ci (aZ k j a n way).1)/\bJ lo mb tt X w' S' (aZ k j a n way).2/\cK S w S' w':=⟨_,rfl⟩
 have yg:Hid (∀V S' av nv cv,nv=nY a n->nk V S' av (qB k j a n way (nY a n))->bJ lo mb tt X V S' (q9 k j a n way (nY a n))->cK S w S' V->P (.returned (.tuple #[.slice av nv cv,.agg #[I 0,I 0]])) V):=fun V S' av nv cv e1 g1 g2 g3=>by grind
 rw[<- hP];obtain⟨pb,cP,A⟩:=h.toKr.sp (by omega);have c3:=h.c3;rw[A.v] at c3;have a1:=A.x1 j hj;have hfit:dO (ak k.aj j).aT:=lO _ (hR.sp hj).aT;have Fe:=ai (fun V (hb:Below w.heap.size w V)=>U6 _ _ a n way V (gD.below (h.toKr.aT hj) hb) hfit ha (by omega));rw[hf0] at Fe;obtain⟨ax,cx,H8,_,_⟩:=bg (h.each j hj).aT;rw[H8] at Fe a1;have hji:(j:Int)<(k.aj.length:Int):=by omega
 have Ji:=h.lt;have hpl:=A.lt;unfold gW at Fe;simp only at Fe;have gB:=ai ((aK w.heap.size w).alloc (aD _) (.cells #[I 0,I 0] 75));have R0:=ai (bB w #[I 0,I 0] 75);have d3:=(gB.o.cell (p:=(Ad mb 3)) Ji).trans c3;have d1:=(gB.o.cell (p:=(Ad pb (j*3+1))) hpl).trans a1;obtain⟨np,yn⟩:=ex k.aj.length;rw[<- yn] at d3 hji;obtain⟨na,rH⟩:=ex ((ak k.aj j).aT.length);rw[<- rH] at d1 Fe;have n0:Hid (S.lab w.heap.size=.no):=h.toKr.new (aD _);have HKM:=ai h;have hlq:(a+n-1)/16=a/16+((nY a n:Nat):Int)-1:=hlast;have HIL:=ai (UD k j a n way);obtain⟨PG,hPG⟩:=ex (nY a n);rw[<- hPG] at HBR yg hp2 hlq;have ha0:0<=a:=by omega
 have han:0<=a+n-1:=by omega
 have hw1:IntKind.i64.wrap (a+n)=a+n:=vN _ (by omega);have hw2:IntKind.i64.wrap (a+n-1)=a+n-1:=vN _ (by omega);obtain⟨i0,hin,hz0,hz1,hz2⟩:=jy M5;have Eu:=ai hin;have Ia:=ai hz0;have E9:=ai hz1;have yZ:=ai hz2;have apV:a/16<=256:=by omega
 have hap:0<=a/16:=by omega
 obtain⟨Q,hQ⟩:=ex (a/16);have HQ:=ai hQ;rw[<- hQ] at HBR hlq apV hap;have hqa:a.tdiv 16=Q:=by rw[hQ];exact PI ha0
 have hqb:(a+n-1).tdiv 16=Q+(PG:Int)-1:=by rw[<- hlq];exact PI han
 clear h hR hj A c3 a1 hfit H8 hf0 hcc yn rH ha hmap ni hm2 hlast A1 hr1 hr2 hr3 hpw dB hP hPG hX hf hal hau ha0 han hQ hin hz0 hz1 hz2 hlq;go_enter Tryz.func272,Tryz.ntmps272;go_wp2_with (go_at_call 283;refine(Fe.o _ gB.o).mono ?_;rintro e w1 ⟨rfl,hb1⟩;have cH:=ai (bH gB.o hb1);have R1:=ai (aN R0.o hb1 (aJ R0.o));have FX:=ai (bB w1 #[I 0,I 0] 75);obtain⟨y0,y1⟩:=rE FX.o;clear hb1)
 have jk:=ai (cH.o.alloc cH.o.size (.cells #[I 0,I 0] 75));have R2:=ai (bk R1.o (.cells #[I 0,I 0] 75));obtain⟨W,hW⟩:=ex (w1.alloc (.cells #[I 0,I 0] 75));rw[<- hW] at jk R2 y0 y1 ⊢;clear hW y0 y1 FX R1 cH;go_loopw [13,14] (fun fv pv wr=>∃(m:Nat) (S':gL) (av:Option Addr) (cv:Nat),m<=PG/\pv=I (Q+(m:Int))/\fv=.slice av m cv/\wr.ownsRow W.heap.size 3 1 (.slice av m cv) m ((qB k j a n way m).flatMap iF)/\(∀b,bX (.slice av m cv) b->S'.lab b=.no)/\bJ lo mb tt X wr S' (q9 k j a n way m)/\cK S W S' wr) (fun _ pv _=>(Q+(PG:Int)-intOf pv).toNat)
 case atStart=>exact⟨0,S,none,0,by omega,by simp,rfl,mG _ _ _ _,fun b hb=>(by cases hb),HKM.o.below jk.o,cK.refl _ _⟩
 case round =>
  obtain⟨m,S',av,cv,hm,rfl,rfl,hrow,hno,rW,hch⟩:=hrel;have Xa:=ai hrow;have uJ:=ai hno;have JF:=ai hch;by_cases hlt:m<PG
  · have hle:Q+(m:Int)<=Q+(PG:Int)-1:=by omega
    have hil:=HIL.o m (by omega);have hrow2:=hrow;rw[<- hil] at hrow2;have zO:=(FM (S:=S') (n:=m) (l:=qB k j a n way m) (by rw[hil];omega) hno).2;have arh:=ai (HBR.o wr S' m av m cv hlt rfl rW zO);clear hrow hno rW hch hrow2 zO hil HKM;go_wp2_with (first
     | (at_builtin;refine fE (P:=Tryz.prog) rfl _ _ 48 rfl W.heap.size 3 i0 (I 0) 1 8 Tryz.underlying48 Eu.o Ia.o E9.o yZ.o rfl (by decide) (.slice av m cv) m ((qB k j a n way m).flatMap iF) rfl C3.o (some (Ad w2.heap.size 0)) 1 1 [I (i:Int)] rfl rfl (fun _=>⟨_,rfl,GR (bB w2 _ _)⟩) (by intro u hu;simp at hu;rw[hu];rfl) (by unfold maxLen;omega) (by omega) (by have:=yG.o.kp.size;simp;omega) ?_;intro v' w' hown hgr hat;obtain⟨aG,cG,hvG,_,_⟩:=bg hown;subst hvG;have HO3:=ai hown;have HG3:=ai hgr;have Cw:=ai hat;clear hown hgr hat)
     | (go_at_call 284;refine arh.o.mono ?_;rintro e w2 ⟨i,rfl,hid,S2,hk2,hc2⟩;have HID:=ai hid;have pq:=ai hk2;have yG:=ai (JF.o.trans hc2);have HO1:=ai (hc2.kp.row Xa.o (fun b hb z=>z (uJ.o b hb)));have TR:=ai (fun b (hb:bX (.slice av m cv) b)=>hc2.no b (Xa.o.lt b hb).2 (uJ.o b hb));have C3:=ai (HO1.o.alloc (.cells #[I (i:Int)] 3));clear hid hk2 hc2))
    go_roundw
    case rel =>
     have kA:aC (fun b=>bX (.slice av m cv) b) w2 (w2.alloc (.cells #[I (i:Int)] 3)):=aC.alloc _ _ _;have kB:=kA.trans (aC.grown (D:=fun b=>bX (.slice av m cv) b) HG3.o (fun q hq=>hq)) (fun _ _ g=>g);have hlab:∀b,bX (.slice aG (m+1) cG) b->S2.lab b=.no:=fun b hb=>by
      rcases Cw.o with g | g
      · exact TR.o b (by show Value.ownBlock _=_;rw[<- g];exact hb)
      · have hb:Value.ownBlock _=some b:=hb;rw[g] at hb;injection hb with hb;rw[gh] at hb;exact pq.o.toKr.new (by omega)
     refine⟨m+1,S2,aG,cG,by omega,by go_num,rfl,?_,hlab,?_,?_⟩
     · rw[HID.o,xO];have e:[(i:Int)].flatMap iF=[I (i:Int)]:=rfl;rw[e];exact HO3.o
     · exact pq.o.kp kB (fun b hb g=>hb (TR.o b g))
     · exact ajg.local yG.o kB (fun b g=>(HO1.o.lt b g).1)
    case measure=>simp[intOf];omega
  · obtain rfl:m=PG:=by omega
    have hgt:¬Q+(m:Int)<=Q+(m:Int)-1:=by omega
    have hil:=HIL.o m (by omega);have zO:=(FM (S:=S') (n:=m) (l:=qB k j a n way m) (by rw[hil];omega) hno).2;have HHE:=ai zO;have HKE:=ai rW;have RW:=ai (hch.keep R2.o n0.out);obtain⟨y0,y1⟩:=rE RW.o;have q0:=aO RW.o 0;have q1:=aO RW.o 1;have HCW:=ai ((cK.below jk.o).trans hch);have hnl:S'.lab w.heap.size=.no:=hch.no _ (aJ R2.o) n0.out;have HKF:Hid (∀V,V=(wr.setCell (Ad w.heap.size 0) (I 0)).setCell (Ad w.heap.size 1) (I 0)->nk V S' av (qB k j a n way m)/\bJ lo mb tt X V S' (q9 k j a n way m)/\cK S w S' V/\V.heap[w.heap.size]?=some (.cells #[I 0,I 0] 75 (0,0))):=fun V hV=>by
     have kp:aC (fun b=>b=w.heap.size) wr V:=by rw[hV];exact(aC.set (fun b=>b=w.heap.size) wr (Ad w.heap.size 0) _ rfl).trans (aC.set (fun b=>b=w.heap.size) _ (Ad w.heap.size 1) _ rfl) (fun _ _ g=>g)
     refine⟨⟨UE.kp HHE.o.has kp (fun b off e z=>?_),HHE.o.no,fun b off e=>fD (HHE.o.lt b off e) kp.size⟩,HKE.o.kp kp (fun b hb z=>hb (by rw[z];exact hnl)),ajg.local HCW.o kp (fun b z=>by omega),by rw[hV];exact fP (fP RW.o 0 _) 1 _⟩;have:W.heap.size<=b:=by
      subst e;rcases Xa.o.2 with⟨h0,_⟩ | ⟨g,cap',cur,hv,hbs,_⟩
      · cases h0
      · injection hv with e1 _ _;injection e1 with e1;injection e1 with e1 _ _;omega
     have:=aJ R2.o;omega
    have HX2:=ai (fun V (hV:V=(wr.setCell (Ad w.heap.size 0) (I 0)).setCell (Ad w.heap.size 1) (I 0))=>yg.o V S' av m cv rfl (HKF.o V hV).1 (HKF.o V hV).2.1 (HKF.o V hV).2.2.1);clear hrow hno rW hch zO hil HKM HHE HKE HCW hnl HBR;go_wp2;obtain⟨v0,v1⟩:=rE (HKF.o _ rfl).2.2.2;refine bI (v:=.tuple #[.slice av m cv,.agg #[I 0,I 0]]) (by simp[results,Tryz.results272,go_sem,v0,v1]) rfl ?_;exact HX2.o _ rfl
end Go.Proofs.YtlgoihmkgaaemaaGreat
