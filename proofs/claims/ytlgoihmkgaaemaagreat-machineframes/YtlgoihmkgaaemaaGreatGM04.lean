import Derived.Test.YtlgoihmkgaaemaaGreatGM03
import Derived.Lib.Walk
import Derived.Lib.BufferWrite
set_option maxHeartbeats 20000000
set_option linter.unusedVariables false
set_option maxRecDepth 100000
set_option linter.unusedSimpArgs false
namespace Go.Proofs.YtlgoihmkgaaemaaGreat
open Go.RowKit
variable {σ:Type}
structure dK (Ok:σ->List Bool->Prop) (st:dA σ):Prop where
 mem:Ok st.mem (bX st.ps)
 fit:∀k,k<st.ps.length->rX (aK st.ps k)
 right:∀k,k<st.ps.length->fp (aK st.ps k)=true
 words:∀x∈st.out,0<=x.proc/\x.proc<(st.ps.length:Int)
 out:st.out.length<=2000
theorem Bi (ps:List bO) (k j:Nat) (p:bO) (hk:k<ps.length):aK (ps.set k p) j=if j=k then p else aK ps j:=by
 unfold aK;rw[fy,fy,GJ];by_cases h:j=k
 · rw[aB h,aB h.symm];subst h;rw[aB hk];rfl
 · rw[au h,au (fun g=>h g.symm)]
theorem Ek (ps:List bO) (p:bO) (j:Nat):aK (ps++[p]) j=if j<ps.length then aK ps j else if j=ps.length then p else Ci:=by
 unfold aK;rw[fy,fy];by_cases h:j<ps.length
 · rw[aB h,GN h]
 · rw[au h,yP (by omega)];by_cases h2:j=ps.length
   · rw[aB h2,h2,GG];rfl
   · rw[au h2];obtain⟨d,hd⟩:∃d,j-ps.length=d+1:=⟨j-ps.length-1,by omega⟩;rw[hd];rfl
theorem Tq (i:dR) (ps:List bO):oV i ps.length ps=ps:=by
 unfold oV;rw[vh,Uq];simp
theorem WR (i:dR) (ps:List bO) (n:Nat) (h:n=ps.length):oV i n ps=ps:=by rw[h];exact Tq i ps
theorem WO (i:dR) (ps:List bO) (p:bO) (n:Nat) (h:n=ps.length):oV i n (ps++[p])=ps++[cX p i 0]:=by
 subst h;unfold oV;rw[List.take_left,List.drop_left];rfl
theorem ZN (ps:List bO) (p q:bO) (k:Nat) (h:k<ps.length):(ps++[p]).set k q=ps.set k q++[p]:=by
 rw[JG _ _ h]
section
variable {Ok:σ->List Bool->Prop}
theorem Bj {st:dA σ} {m:σ} (h:dK Ok st) (hm:Ok m (bX st.ps)):dK Ok { st with mem:=m }:=⟨hm,h.fit,h.right,h.words,h.out⟩
theorem ij {st:dA σ} (k:Nat) (hk:k<st.ps.length) (h1:(aK st.ps k).st=1):(bX st.ps).getD k false=true:=by
 rw[IC,gU hk,gU h1];rfl
theorem Rb {st:dA σ} (h:dK Ok st) (k:Nat) (hk:k<st.ps.length) (h1:(aK st.ps k).st=1) {i:dR} {v:Int} (hv:cK v) (hb:i.bad=false) (hf:i.fits) {m:σ} (hm:Ok m (if i.op=16/\i.m=6 then (bX st.ps).set k false else bX st.ps)) :
  dK Ok { st with mem:=m,ps:=st.ps.set k (cX (aK st.ps k) i v) }:=by
 have hlen:(st.ps.set k (cX (aK st.ps k) i v)).length=st.ps.length:=fC;refine⟨?_,fun j hj=>?_,fun j hj=>?_,fun x hx=>?_,h.out⟩
 · show Ok m (bX (st.ps.set k (cX (aK st.ps k) i v)));rw[zX];by_cases c:i.op=16/\i.m=6
   · rw[aB c] at hm;rw[WN c.1 c.2];exact hm
   · rw[au c] at hm;rw[Jm hb c,gU h1];have e:(bX st.ps).set k true=bX st.ps:=by
      apply Df;intro j;rw[GJ];by_cases e:k=j
      · subst e;have hk':k<(bX st.ps).length:=by unfold bX;rw[gV];exact hk
        have hg:=ij k hk h1;rw[fy,lR hk'] at hg;rw[aB rfl,aB hk',lR hk'];exact dY some hg.symm
      · rw[au e]
     rw[e];exact hm
 · have hj':j<st.ps.length:=hlen ▸ hj;show rX (aK (st.ps.set k _) j);rw[Bi _ _ _ _ hk];split
   · exact NI (h.fit k hk) hv hb hf
   · exact h.fit j hj'
 · have hj':j<st.ps.length:=hlen ▸ hj;show fp (aK (st.ps.set k _) j)=true;rw[Bi _ _ _ _ hk];split
   · exact ID hb h1 (h.right k hk)
   · exact h.right j hj'
 · have:=h.words x hx;show 0<=x.proc/\x.proc<((st.ps.set k _).length:Int);rw[hlen];exact this
theorem abW {st:dA σ} (h:dK Ok st) {p:bO} (hf:rX p) (hr:fp p=true) {m:σ} (hm:Ok m (bX st.ps++[decide (p.st=1)])):dK Ok { st with mem:=m,ps:=st.ps++[p] }:=by
 have hlen:(st.ps++[p]).length=st.ps.length+1:=by simp
 refine⟨?_,fun j hj=>?_,fun j hj=>?_,fun x hx=>?_,h.out⟩
 · show Ok m (bX (st.ps++[p]));rw[Oq];exact hm
 · have hj':j<st.ps.length+1:=hlen ▸ hj;show rX (aK (st.ps++[p]) j);rw[Ek];by_cases c:j<st.ps.length
   · rw[aB c];exact h.fit j c
   · rw[au c,aB (by omega)];exact hf
 · have hj':j<st.ps.length+1:=hlen ▸ hj;show fp (aK (st.ps++[p]) j)=true;rw[Ek];by_cases c:j<st.ps.length
   · rw[aB c];exact h.right j c
   · rw[au c,aB (by omega)];exact hr
 · have:=h.words x hx;show 0<=x.proc/\x.proc<((st.ps++[p]).length:Int);rw[hlen];omega
theorem ZO (s:ByteArray):cK (El s):=by
 unfold El;split
 · exact pJ _
 · unfold cK;omega
theorem Bk {i:dR} (hb:i.bad=false) (h:i.op=9∨i.op=10):1<=i.c/\i.c<=8:=by
 unfold dR.bad at hb;rw[au (by omega),au (by omega),au (by omega),au (by omega),au (by omega),aB h] at hb;unfold oc at hb;simp at hb;omega
theorem Ej (v n:Int):(mP v n).size=n.toNat:=by
 unfold mP;show(Lib.leBytes n.toNat (mz v)).toArray.size=n.toNat
 simp[Lib.leBytes_length]
structure ahO (Ok:σ->List Bool->Prop) (st:dA σ) (k:Nat) (i:dR) (y:(Int×(Int×Int))×dA σ):Prop where
 fault:¬y.1.2.1=0->y.2.ps=st.ps/\dK Ok y.2
 plain:y.1.2.1=0->(y.2.ps=st.ps/\Ok y.2.mem (if i.op=16/\i.m=6 then (bX st.ps).set k false else bX st.ps)∨(¬(i.op=16/\i.m=6))/\y.2.ps=st.ps++[aK st.ps k]/\Ok y.2.mem (bX st.ps++[true]))/\cK y.1.1/\i.bad=false
 words:∀x∈y.2.out,0<=x.proc/\x.proc<(st.ps.length:Int)
 out:y.2.out.length<=st.out.length+1
 kind:¬y.1.2.1=0->1<=y.1.2.1/\y.1.2.1<=4
theorem Gn {o:gN σ} (ho:qp o Ok) {st:dA σ} (h:dK Ok st) (k:Nat) (hk:k<st.ps.length) (h1:(aK st.ps k).st=1) (i:dR) (hf:i.fits):ahO Ok st k i (gq o st k i):=by
 have hl:=ij k hk h1;have hi0:cK 0:=by unfold cK;omega
 have h4:=ho.few _ _ h.mem;have hps:st.ps.length<=4:=by unfold bX at h4;rw[gV] at h4;exact h4
 unfold gq;by_cases hb:i.bad=true
 · rw[aB hb];exact⟨fun _=>⟨rfl,h⟩,fun g=>by simp at g,h.words,kQ _,fun _=>by simp⟩
 · have hbf:i.bad=false:=by simpa using hb
   rw[au hb];by_cases c9:i.op=9
   · rw[aB c9];have hm:=ho.load st.mem _ k (wrap64 ((aK st.ps k).r i.b.toNat+i.m)) i.c 0 h.mem hl;have hft:=ho.fault st.mem _ k (wrap64 ((aK st.ps k).r i.b.toNat+i.m)) i.c 0 h.mem hl;exact⟨fun _=>⟨rfl,Bj h hm⟩,fun g=>⟨.inl ⟨rfl,by rw[au (by omega)];exact hm⟩,ZO _,hbf⟩,h.words,kQ _,fun g=>⟨by have:¬(o.load st.mem k (wrap64 ((aK st.ps k).r i.b.toNat+i.m)) i.c 0).1.2.1=0:=g;show 1<=(o.load st.mem k (wrap64 ((aK st.ps k).r i.b.toNat+i.m)) i.c 0).1.2.1;omega,hft.2.1⟩⟩
   · rw[au c9];by_cases c10:i.op=10
     · rw[aB c10];have hm:=ho.store st.mem _ k (wrap64 ((aK st.ps k).r i.b.toNat+i.m)) (mP ((aK st.ps k).r i.a.toNat) i.c) h.mem hl (by rw[Ej];have:=Bk hbf (.inr c10);omega) (by rw[Ej];have:=Bk hbf (.inr c10);omega);have hft:=ho.PJ st.mem _ k (wrap64 ((aK st.ps k).r i.b.toNat+i.m)) (mP ((aK st.ps k).r i.a.toNat) i.c) h.mem hl;exact⟨fun _=>⟨rfl,Bj h hm⟩,fun g=>⟨.inl ⟨rfl,by rw[au (by omega)];exact hm⟩,hi0,hbf⟩,h.words,kQ _,fun g=>⟨by have:¬(o.store st.mem k (wrap64 ((aK st.ps k).r i.b.toNat+i.m)) (mP ((aK st.ps k).r i.a.toNat) i.c)).1.1=0:=g;show 1<=(o.store st.mem k (wrap64 ((aK st.ps k).r i.b.toNat+i.m)) (mP ((aK st.ps k).r i.a.toNat) i.c)).1.1;omega,hft.2.1⟩⟩
     · rw[au c10];by_cases c16:i.op=16
       · rw[aB c16];unfold fh;by_cases d1:i.m=1
         · rw[aB d1];refine⟨fun g=>(g rfl).elim,fun _=>⟨.inl ⟨rfl,by rw[au (by omega)];exact h.mem⟩,hi0,hbf⟩,fun x hx=>?_,by simp,fun g=>(g rfl).elim⟩;rcases lQ.1 hx with g | g
           · exact h.words x g
           · rw[List.mem_singleton.1 g];show 0<=(k:Int)/\(k:Int)<_;omega
         · rw[au d1];by_cases d2:i.m=2
           · rw[aB d2];have hm:=ho.map st.mem _ k ((aK st.ps k).r 0) ((aK st.ps k).r 1) ((aK st.ps k).r 2) h.mem hl;have hv:=ho.aeB st.mem _ k ((aK st.ps k).r 0) ((aK st.ps k).r 1) ((aK st.ps k).r 2) h.mem hl;exact⟨fun g=>(g rfl).elim,fun _=>⟨.inl ⟨rfl,by rw[au (by omega)];exact hm⟩,by unfold cK;show -9223372036854775808<=(o.map st.mem k ((aK st.ps k).r 0) ((aK st.ps k).r 1) ((aK st.ps k).r 2)).1/\(o.map st.mem k ((aK st.ps k).r 0) ((aK st.ps k).r 1) ((aK st.ps k).r 2)).1<=_;omega,hbf⟩,h.words,kQ _,fun g=>(g rfl).elim⟩
           · rw[au d2];by_cases d3:i.m=3
             · rw[aB d3];have hm:=ho.oW st.mem _ k ((aK st.ps k).r 0) ((aK st.ps k).r 1) h.mem hl;have hv:=ho.Pt st.mem _ k ((aK st.ps k).r 0) ((aK st.ps k).r 1) h.mem hl;exact⟨fun g=>(g rfl).elim,fun _=>⟨.inl ⟨rfl,by rw[au (by omega)];exact hm⟩,by unfold cK;show -9223372036854775808<=(o.oW st.mem k ((aK st.ps k).r 0) ((aK st.ps k).r 1)).1/\(o.oW st.mem k ((aK st.ps k).r 0) ((aK st.ps k).r 1)).1<=_;omega,hbf⟩,h.words,kQ _,fun g=>(g rfl).elim⟩
             · rw[au d3];by_cases d4:i.m=4
               · rw[aB d4];have hm:=ho.jl st.mem _ k ((aK st.ps k).r 0) ((aK st.ps k).r 1) ((aK st.ps k).r 2) h.mem hl;have hv:=ho.EW st.mem _ k ((aK st.ps k).r 0) ((aK st.ps k).r 1) ((aK st.ps k).r 2) h.mem hl;exact⟨fun g=>(g rfl).elim,fun _=>⟨.inl ⟨rfl,by rw[au (by omega)];exact hm⟩,by unfold cK;show -9223372036854775808<=(o.jl st.mem k ((aK st.ps k).r 0) ((aK st.ps k).r 1) ((aK st.ps k).r 2)).1/\(o.jl st.mem k ((aK st.ps k).r 0) ((aK st.ps k).r 1) ((aK st.ps k).r 2)).1<=_;omega,hbf⟩,h.words,kQ _,fun g=>(g rfl).elim⟩
               · rw[au d4];by_cases d5:i.m=5
                 · rw[aB d5];by_cases f0:(o.fork st.mem k).1=0
                   · rw[aB f0];have hm:=ho.JM st.mem _ k h.mem hl f0;exact⟨fun g=>(g rfl).elim,fun _=>⟨.inr ⟨by omega,rfl,hm⟩,by unfold cK;show -9223372036854775808<=(st.ps.length:Int)/\(st.ps.length:Int)<=_;omega,hbf⟩,h.words,kQ _,fun g=>(g rfl).elim⟩
                   · rw[au f0];have hm:=ho.PI st.mem _ k h.mem hl f0;exact⟨fun g=>(g rfl).elim,fun _=>⟨.inl ⟨rfl,by rw[au (by omega)];exact hm⟩,by unfold cK;show -9223372036854775808<=(-1:Int)/\(-1:Int)<=_;omega,hbf⟩,h.words,kQ _,fun g=>(g rfl).elim⟩
                 · rw[au d5];by_cases d6:i.m=6
                   · rw[aB d6];have hm:=ho.drop st.mem _ k h.mem hl;exact⟨fun g=>(g rfl).elim,fun _=>⟨.inl ⟨rfl,by rw[aB ⟨c16,d6⟩];exact hm⟩,hi0,hbf⟩,h.words,kQ _,fun g=>(g rfl).elim⟩
                   · rw[au d6];exact⟨fun g=>(g rfl).elim,fun _=>⟨.inl ⟨rfl,by rw[au (by omega)];exact h.mem⟩,hi0,hbf⟩,h.words,kQ _,fun g=>(g rfl).elim⟩
       · rw[au c16];exact⟨fun g=>(g rfl).elim,fun _=>⟨.inl ⟨rfl,by rw[au (by omega)];exact h.mem⟩,hi0,hbf⟩,h.words,kQ _,fun g=>(g rfl).elim⟩
end
open Go.RowKit
variable {σ:Type} {Ok:σ->List Bool->Prop}
structure ad7 (Ok:σ->List Bool->Prop) (st:dA σ) (r:(Int×Int)×dA σ):Prop where
 ok:dK Ok r.2
 same:¬r.1.1=0->r.2.ps=st.ps
 kind:¬r.1.1=0->1<=r.1.1/\r.1.1<=4
theorem Jn {o:gN σ} (ho:qp o Ok) {st:dA σ} (h:dK Ok st) (hout:st.out.length<2000) (k:Nat) (hk:k<st.ps.length) (h1:(aK st.ps k).st=1):ad7 Ok st (mv o st k):=by
 have hl:=ij k hk h1;have hm:=ho.load st.mem _ k (aK st.ps k).pc 8 2 h.mem hl;have hft:=ho.fault st.mem _ k (aK st.ps k).pc 8 2 h.mem hl;have hsz:=ho.size st.mem _ k (aK st.ps k).pc 8 2 h.mem hl (by omega) (by omega);unfold mv;simp only;obtain⟨x,hx⟩:=ex (o.load st.mem k (aK st.ps k).pc 8 2);rw[<- hx] at hm hft hsz ⊢;clear hx;have g1:dK Ok { st with mem:=x.2 }:=Bj h hm;by_cases c:x.1.2.1=0
 · rw[au (fun g=>g c)];have hfits:(iB x.1.1).fits:=Az _ (by have:=hsz c;omega);obtain⟨i,hi⟩:=ex (iB x.1.1);rw[<- hi] at hfits ⊢;have hL:=Gn ho g1 k hk h1 i hfits;obtain⟨y,hy⟩:=ex (gq o { st with mem:=x.2 } k i);rw[<- hy] at hL ⊢;clear hi hy;by_cases d:y.1.2.1=0
   · rw[au (fun g=>g d)];obtain⟨hp,hv,hb⟩:=hL.plain d;have hw:∀z∈y.2.out,0<=z.proc/\z.proc<(st.ps.length:Int):=hL.words;have E1:y.2.out.length<=2000:=by have:=hL.out;simp only at this;omega
     refine⟨?_,fun g=>(g rfl).elim,fun g=>(g rfl).elim⟩;rcases hp with⟨e,hm2⟩ | ⟨hne,e,hm2⟩
     · have e':y.2.ps=st.ps:=e;have hlen:st.ps.length=(y.2.ps.set k (cX (aK y.2.ps k) i y.1.1)).length:=by rw[fC,e']
       rw[WR _ _ _ hlen,e'];have base:dK Ok { st with out:=y.2.out }:=⟨h.mem,h.fit,h.right,hw,E1⟩;exact Rb base k hk h1 hv hb hfits (m:=y.2.mem) hm2
     · have e':y.2.ps=st.ps++[aK st.ps k]:=e;have hlen:st.ps.length=(st.ps.set k (cX (aK st.ps k) i y.1.1)).length:=by rw[fC]
       have hpk:aK (st.ps++[aK st.ps k]) k=aK st.ps k:=by rw[Ek,aB hk]
       rw[e',hpk,ZN _ _ _ _ hk,WO _ _ _ _ hlen];have hcs:(cX (aK st.ps k) i 0).st=1:=by rw[Jm hb hne];exact h1
       have base:dK Ok { st with out:=y.2.out }:=⟨h.mem,h.fit,h.right,hw,E1⟩;have hz:cK 0:=by unfold cK;omega
       have d1:=Rb base k hk h1 hv hb hfits (m:=st.mem) (by rw[au hne];exact h.mem);have hr:bX (st.ps.set k (cX (aK st.ps k) i y.1.1))=bX st.ps:=by
        rw[zX,Jm hb hne,gU h1];apply Df;intro j;rw[GJ];by_cases e:k=j
        · subst e;have hk':k<(bX st.ps).length:=by unfold bX;rw[gV];exact hk
          have hg:=ij k hk h1;rw[fy,lR hk'] at hg;rw[aB rfl,aB hk',lR hk'];exact dY some hg.symm
        · rw[au e]
       exact abW d1 (NI (h.fit k hk) hz hb hfits) (ID hb h1 (h.right k hk)) (m:=y.2.mem) (by
        show Ok y.2.mem (bX (st.ps.set k (cX (aK st.ps k) i y.1.1))++_);rw[hr,hcs];exact hm2)
   · rw[aB d];obtain⟨e,g2⟩:=hL.fault d;exact⟨g2,fun _=>e,fun _=>hL.kind d⟩
 · rw[aB c];exact⟨g1,fun _=>rfl,fun _=>⟨by show 1<=x.1.2.1;omega,hft.2.1⟩⟩
theorem Tp {p:bO} {x:Int×Int} (h:p.st=1) (hr:fp p=true) (h1:1<=x.1) (h4:x.1<=4):fp (ym p x)=true:=by
 have h2:p.cd=0:=by
  unfold fp at hr;rw[aB h] at hr;simp only[eG,kR] at hr;exact hr.1
 unfold fp ym;simp only;rw[au (by decide),au (by decide),aB trivial,h2,gU (show 1<=x.1/\x.1<=4 from⟨h1,h4⟩)];rfl
theorem abV {o:gN σ} (ho:qp o Ok) {st:dA σ} (h:dK Ok st) (pick:Int):dK Ok (jt o st pick).2:=by
 unfold jt;by_cases c:0<=pick/\pick<(st.ps.length:Int)
 · rw[au (fun g=>g c)];by_cases c1:(aK st.ps pick.toNat).st=1
   · rw[au (fun g=>g c1)];by_cases c2:2000<=st.out.length
     · rw[aB c2];exact h
     · rw[au c2];have hk:pick.toNat<st.ps.length:=by omega
       have hd:=Jn ho h (by omega) pick.toNat hk c1;simp only;obtain⟨r,hr⟩:=ex (mv o st pick.toNat);rw[<- hr] at hd ⊢;clear hr;by_cases c3:r.1.1=0
       · rw[aB c3];exact hd.ok
       · rw[au c3];have e:=hd.same c3;have hk2:pick.toNat<r.2.ps.length:=by rw[e];exact hk
         have c4:(aK r.2.ps pick.toNat).st=1:=by rw[e];exact c1
         have hlen:(r.2.ps.set pick.toNat (ym (aK r.2.ps pick.toNat) r.1)).length=r.2.ps.length:=fC;refine⟨?_,fun j hj=>?_,fun j hj=>?_,fun x hx=>?_,hd.ok.out⟩
         · show Ok _ (bX (r.2.ps.set _ _));rw[zX];exact ho.drop _ _ _ hd.ok.mem (ij _ hk2 c4)
         · have hj':j<r.2.ps.length:=hlen ▸ hj;show rX (aK (r.2.ps.set _ _) j);rw[Bi _ _ _ _ hk2];split
           · exact hd.ok.fit _ hk2
           · exact hd.ok.fit j hj'
         · have hj':j<r.2.ps.length:=hlen ▸ hj;show fp (aK (r.2.ps.set _ _) j)=true;rw[Bi _ _ _ _ hk2];split
           · exact Tp c4 (hd.ok.right _ hk2) (hd.kind c3).1 (hd.kind c3).2
           · exact hd.ok.right j hj'
         · have:=hd.ok.words x hx;show 0<=x.proc/\x.proc<((r.2.ps.set _ _).length:Int);rw[hlen];exact this
   · rw[aB c1];exact h
 · rw[aB c];exact h
theorem yl {o:gN σ} (ho:qp o Ok) {st:dA σ} (h:dK Ok st) (picks:List Int):∀n s,fe o picks n (some st)=some s->dK Ok s
 | 0,s,e=>by injection e with e;rw[<- e];exact h
 | n+1,s,e=>by
  unfold fe at e;cases hq:fe o picks n (some st) with
  | none=>rw[hq] at e;cases e
  | some q =>
   rw[hq] at e;have hq':=yl ho h picks n q hq;simp only at e;by_cases c:(jt o q (picks.getD n 0)).1=2
   · rw[aB c] at e;cases e
   · rw[au c] at e;injection e with e;rw[<- e];exact abV ho hq' _
open Go.RowKit
variable {σ τ:Type}
structure Cc (o:gN σ) (o':gN τ) (Ok:σ->List Bool->Prop) (f:σ->τ):Prop where
 load:∀s fl k a n way,Ok s fl->fl.getD k false=true->1<=n->n<=8->o'.load (f s) k a n way=((o.load s k a n way).1,f (o.load s k a n way).2)
 store:∀s fl k a d,Ok s fl->fl.getD k false=true->1<=d.size->d.size<=8->o'.store (f s) k a d=((o.store s k a d).1,f (o.store s k a d).2)
 map:∀s fl k p n q,Ok s fl->fl.getD k false=true->o'.map (f s) k p n q=((o.map s k p n q).1,f (o.map s k p n q).2)
 oW:∀s fl k p n,Ok s fl->fl.getD k false=true->o'.oW (f s) k p n=((o.oW s k p n).1,f (o.oW s k p n).2)
 jl:∀s fl k p n q,Ok s fl->fl.getD k false=true->o'.jl (f s) k p n q=((o.jl s k p n q).1,f (o.jl s k p n q).2)
 fork:∀s fl k,Ok s fl->fl.getD k false=true->o'.fork (f s) k=((o.fork s k).1,f (o.fork s k).2)
 drop:∀s fl k,Ok s fl->fl.getD k false=true->o'.drop (f s) k=f (o.drop s k)
def gj (f:σ->τ) (st:dA σ):dA τ:=⟨f st.mem,st.ps,st.out⟩
variable {o:gN σ} {o':gN τ} {Ok:σ->List Bool->Prop} {f:σ->τ}
theorem Zp (S:Cc o o' Ok f) {st:dA σ} (h:Ok st.mem (bX st.ps)) {k:Nat} (hk:(bX st.ps).getD k false=true) (c:Int):fh o' (gj f st) k c=((fh o st k c).1,gj f (fh o st k c).2):=by
 unfold fh;simp only[gj,S.map _ _ _ _ _ _ h hk,S.oW _ _ _ _ _ h hk,S.jl _ _ _ _ _ _ h hk,S.fork _ _ _ h hk,S.drop _ _ _ h hk]
 repeat' split
 all_goals rfl
theorem Tb (S:Cc o o' Ok f) {st:dA σ} (h:Ok st.mem (bX st.ps)) {k:Nat} (hk:(bX st.ps).getD k false=true) (i:dR):gq o' (gj f st) k i=((gq o st k i).1,gj f (gq o st k i).2):=by
 unfold gq;by_cases hb:i.bad=true
 · rw[aB hb,aB hb];rfl
 rw[au hb,au hb];have hb:i.bad=false:=by simpa using hb
 by_cases h9:i.op=9
 · have hc:=Bk hb (.inl h9);rw[aB h9,aB h9];simp only[gj,S.load _ _ _ _ _ _ h hk hc.1 hc.2]
 rw[au h9,au h9];by_cases h10:i.op=10
 · have hc:=Bk hb (.inr h10);have hp:=Ej ((aK st.ps k).r i.a.toNat) i.c;rw[aB h10,aB h10];simp only[gj,S.store _ _ _ _ _ h hk (show 1<=(mP ((aK st.ps k).r i.a.toNat) i.c).size by omega) (by omega)]
 rw[au h10,au h10];by_cases h16:i.op=16
 · rw[aB h16,aB h16,Zp S h hk]
 · rw[au h16,au h16]
theorem adQ (S:Cc o o' Ok f) (ho:qp o Ok) {st:dA σ} (h:Ok st.mem (bX st.ps)) {k:Nat} (hk:(bX st.ps).getD k false=true):mv o' (gj f st) k=((mv o st k).1,gj f (mv o st k).2):=by
 unfold mv;have e:=S.load _ _ k (aK st.ps k).pc 8 2 h hk (by omega) (by omega);have h1:=ho.load _ _ k (aK st.ps k).pc 8 2 h hk;simp only[show(gj f st).mem=f st.mem from rfl,show(gj f st).ps=st.ps from rfl,e];by_cases c:(o.load st.mem k (aK st.ps k).pc 8 2).1.2.1=0
 · simp only[c,De,tq];have ha:=Tb S (st:={ st with mem:=(o.load st.mem k (aK st.ps k).pc 8 2).2 }) h1 hk (iB (o.load st.mem k (aK st.ps k).pc 8 2).1.1);simp only[gj] at ha ⊢;by_cases c2:(gq o { mem:=(o.load st.mem k (aK st.ps k).pc 8 2).2,ps:=st.ps,out:=st.out } k (iB (o.load st.mem k (aK st.ps k).pc 8 2).1.1)).1.2.1=0
   · simp only[ha,c2,De,tq]
   · simp only[ha,c2,C9,tj]
 · simp only[c,C9,tj,gj]
theorem Zo (S:Cc o o' Ok f) (ho:qp o Ok) {st:dA σ} (h:dK Ok st) (pick:Int):jt o' (gj f st) pick=((jt o st pick).1,gj f (jt o st pick).2):=by
 unfold jt;simp only[show(gj f st).ps=st.ps from rfl,show(gj f st).out=st.out from rfl];by_cases c1:0<=pick/\pick<(st.ps.length:Int)
 · simp only[c1,De,tq,and_self];by_cases c2:(aK st.ps pick.toNat).st=1
   · simp only[c2,De,tq];by_cases c3:2000<=st.out.length
     · simp only[c3,tj]
     · simp only[c3,tq];have hk:pick.toNat<st.ps.length:=by omega
       have hl:=ij pick.toNat hk c2;have hd:=Jn ho h (by omega) pick.toNat hk c2;have e:=adQ S ho h.mem hl;by_cases c4:(mv o st pick.toNat).1.1=0
       · simp only[e,c4,tj]
       · have hm:=hd.ok.mem;rw[hd.same c4] at hm;simp only[e,c4,tq];simp only[gj,S.drop _ _ _ hm hl]
   · simp only[c2,C9,tj]
 · simp only[c1,C9,tj]
theorem zg (S:Cc o o' Ok f) (ho:qp o Ok) {st:dA σ} (h:dK Ok st) (picks:List Int):∀n,fe o' picks n (some (gj f st))=(fe o picks n (some st)).map (gj f)
 | 0=>rfl
 | n+1=>by
  have ih:=zg S ho h picks n;have hk:=yl ho h picks n;show(match fe o' picks n (some (gj f st)) with | none=>none | some s=>_)=Option.map _ (match fe o picks n (some st) with | none=>none | some s=>_);rw[ih];cases e:fe o picks n (some st) with
  | none=>rfl
  | some s =>
   show(if (jt o' (gj f s) (picks.getD n 0)).1=2 then none else some (jt o' (gj f s) (picks.getD n 0)).2)=_;rw[Zo S ho (hk s e)];show _=Option.map _ (if (jt o s (picks.getD n 0)).1=2 then none else some (jt o s (picks.getD n 0)).2);split <;> rfl
open Go.RowKit Go.Lib
theorem yn (P:Program) (g o:Nat) (t:TypeId) (m1 m2:Nat):∀(vs:List Value) (i:Nat) (cur:Array Value) (w:World),w.heap[g]?=some (.cells cur t (m1,m2))->cur.size<=m1->o+i+vs.length<=cur.size->(∀v∈vs,v.oneCell'=true) ->
  (storeCells (Ad g o) vs i).run P w=.ok () (w.setRow g (cur.toList.take (o+i)++vs++cur.toList.drop (o+i+vs.length)).toArray)
 | [],i,cur,w,hg,_,_,_=>by
  simp only[storeCells,C6,OJ,mA,UG,Array.toArray_toList];rw[setRow_self w g cur t (m1,m2) hg];rfl
 | v::rest,i,cur,w,hg,hm,hl,h1=>by
  have hi:o+i<cur.size:=by grind
  have hadd:((Ad g o):Addr).add i=(Ad g (o+i)):=by grind [Addr.add]
  have hcell:w.cell? (Ad g (o+i))=some cur[o+i]:=by grind [World.cell?]
  have hfro:w.frozen? (Ad g (o+i))=false:=by grind [World.frozen?]
  have hst:(store (((Ad g o):Addr).add i) v).run P w=.ok () (w.setRow g (cur.setIfInBounds (o+i) v)):=by
   grind [run_store,setCell_eq_setRow]
  have ih:=yn P g o t m1 m2 rest (i+1) (cur.setIfInBounds (o+i) v) (w.setRow g (cur.setIfInBounds (o+i) v)) (tu w g cur _ t _ hg) (by grind) (by grind) (fun x hx=>h1 x (by simp[hx]));simp only[storeCells,Sem.run_bind,hst,Us,ih,setRow_setRow];congr 3;have e:=list_seg_step cur.toList (o+i) v rest (by omega)
  simp_all [yL]
theorem Ro {P:Program} (w:World) (dT sT ty elem:TypeId) (g o dLen dCap:Nat) (s:ByteArray) (cur:Array Value) (t:TypeId) (m1 m2:Nat)
  (hu:P.underlying dT=some (.slice elem)) (hs:(P.info? elem).map (·.size)=some 1) (hg:w.heap[g]?=some (.cells cur t (m1,m2))) (hm:cur.size<=m1) (hle:s.size<=dLen) (hfit:o+s.size<=cur.size) :
  (Builtin.copy_ #[dT,sT] ty #[.slice (some (Ad g o)) dLen dCap,.string s]).run P w =
   .ok (goInt s.size) (w.setRow g (cur.toList.take o++Lib.byteCells s.data.toList++cur.toList.drop (o+s.size)).toArray):=by
 have hlen:(Lib.byteCells s.data.toList).length=s.size:=by rw[acn,<- size_eq]
 have hst:=yn P g o t m1 m2 (Lib.byteCells s.data.toList) 0 cur w hg hm (by omega) (Lib.byteCells_one _);have hmin:Nat.min s.size dLen=s.size:=Um hle;have htk:List.take s.size (List.map (fun b:UInt8=>Value.int IntKind.u8 (b.toNat:Int)) s.data.toList)=Lib.byteCells s.data.toList:=by
  rw[List.take_of_length_le (by simp_all)];rfl
 rw[hlen] at hst;simp only[mA] at hst;cases hq:P.info? elem with
 | none=>grind
 | some i =>
  simp_all [Builtin.copy_,Jy,Builtin.lenOf,Builtin.firstCells,sizeOf,typeInfo]
theorem MC (s:ByteArray) (c:Nat):(bytesRow s c).size=s.size+(c-s.size):=by
 simp[bytesRow]
def iw (s:ByteArray) (o:Nat) (t:ByteArray):ByteArray:=⟨(s.data.toList.take o++t.data.toList++s.data.toList.drop (o+t.size)).toArray⟩
theorem Tw (s:ByteArray) (o:Nat) (t:ByteArray) (c:Nat) (h:o+t.size<=s.size) (i:Nat) (hi:i<s.size) :
  ((bytesRow s c).toList.take o++Lib.byteCells t.data.toList++(bytesRow s c).toList.drop (o+t.size))[i]?=some (.int .u8 (((iw s o t).data.toList.map fun b=>(b.toNat:Int)).getD i 0)):=by
 have hts:t.size=t.data.toList.length:=size_eq t;have hss:s.size=s.data.toList.length:=size_eq s;have hr:(bytesRow s c).toList=Lib.byteCells s.data.toList++List.replicate (c-s.size) (.int .u8 0):=by
  simp[bytesRow,Lib.byteCells]
 have e:(bytesRow s c).toList.take o++Lib.byteCells t.data.toList++(bytesRow s c).toList.drop (o+t.size)=Lib.byteCells (iw s o t).data.toList++List.replicate (c-s.size) (.int .u8 0):=by
  grind [iw,Lib.byteCells,List.map_take,List.map_drop]
 have hol:(iw s o t).data.toList.length=s.size:=by
  grind [iw]
 grind [Lib.byteCells_length,CT]
theorem LJ (s:ByteArray) (o:Nat) (t:ByteArray) (h:o+t.size<=s.size):(iw s o t).data.toList.length=s.size:=by
 grind [size_eq,iw]
theorem Z0 (s:ByteArray) (o:Nat) (t:ByteArray) (h:t.size=0):iw s o t=s:=by
 have hts:t.data.toList=[]:=kT (by simp_all)
 simp_all [iw]
theorem IK (s:ByteArray) (o:Nat) (t:ByteArray) (h:o+t.size<=s.size):(iw s o t).size=s.size:=by
 grind [size_eq,LJ]
open Go.RowKit
structure mI where
 off:Int
 bytes:ByteArray
structure bG where
 page:Int
 data:ByteArray
 eO:List mI
 ao:Option Addr
 cap:Nat
def Qi:mI:=⟨0,⟨#[]⟩⟩
def nN (l:List mI) (i:Nat):mI:=l.getD i Qi
def Bv:bG:=⟨0,⟨#[]⟩,[],none,0⟩
def bu (l:List bG) (i:Nat):bG:=l.getD i Bv
def Du (w:World) (b off:Nat) (l:List mI):Prop:=∀i,i<l.length->w.cell? (Ad b (off+i*2))=some (I (nN l i).off)/\w.cell? (Ad b (off+i*2+1))=some (.string (nN l i).bytes)
theorem acC {w w':World} {b off:Nat} {l:List mI} (hb:Below w.heap.size w w') (hlt:b<w.heap.size) (h:Du w b off l):Du w' b off l:=fun i hi=>by
 obtain⟨c0,c1⟩:=h i hi
 grind [cJ]
def qG (w:World) (ao:Option Addr) (l:List mI):Prop:=gJ Du w ao l
theorem qG.below {w w':World} {ao:Option Addr} {l:List mI} (h:qG w ao l) (hb:Below w.heap.size w w'):qG w' ao l:=gJ.below (lie:=Du) (fun hb hlt h=>acC hb hlt h) h hb
def Vj (f:mI):Prop:=cK f.off/\cu f.bytes.size
structure Dw (s:bG):Prop where
 page:cK s.page
 data:cu s.data.size
 eO:cu s.eO.length
 fix:∀k,k<s.eO.length->Vj (nN s.eO k)
def uT (s:bG):Array Value:=#[I s.page,.string s.data,.slice s.ao s.eO.length s.cap]
def qX (l:List mI):Nat->Int
 | 0=>0
 | k+1=>(nN l k).off+((nN l k).bytes.size:Int)
def yU (e:Int) (f:mI):Bool:=decide (e<=f.off/\f.off<=16/\1<=(f.bytes.size:Int)/\(f.bytes.size:Int)<=16-f.off)
def fJ (l:List mI):Nat->Bool
 | 0=>true
 | k+1=>fJ l k&&yU (qX l k) (nN l k)
def oY (s:bG):Bool:=decide (1<=s.page/\s.page<=255/\s.data.size=16)
def df (s:bG):Bool:=oY s&&fJ s.eO s.eO.length
def tE (d:ByteArray) (l:List mI):Nat->ByteArray
 | 0=>d
 | k+1=>iw (tE d l k) (nN l k).off.toNat (nN l k).bytes
def qW (s:bG):ByteArray:=tE s.data s.eO s.eO.length
def mH (s:bG):ByteArray×Int:=if df s then (qW s,0) else (⟨#[]⟩,1)
theorem wP (l:List mI):∀(k n:Nat),k<=n->fJ l k=false->fJ l n=false
 | k,0,h,hk=>by grind
 | k,n+1,h,hk=>by
  by_cases e:k=n+1
  · grind
  · simp[fJ,wP l k n (by omega) hk]
theorem yT (l:List mI) (k:Nat) (hk:k<l.length) (h:yU (qX l k) (nN l k)=false):fJ l l.length=false :=
 wP l (k+1) l.length (by omega) (by simp[fJ,h])
theorem Hr (l:List mI):∀(n:Nat),fJ l n=true->∀i,i<n->yU (qX l i) (nN l i)=true
 | 0,_,i,hi=>by omega
 | n+1,h,i,hi=>by
  simp only[fJ,eG] at h;by_cases e:i=n
  · grind
  · exact Hr l n h.1 i (by omega)
theorem AH (e:Int) (f:mI):yU e f=true↔(e<=f.off/\f.off<=16/\1<=(f.bytes.size:Int)/\(f.bytes.size:Int)<=16-f.off):=by simp[yU]
theorem Ds {e:Int} {f:mI} (h:¬(e<=f.off/\f.off<=16/\1<=(f.bytes.size:Int)/\(f.bytes.size:Int)<=16-f.off)):yU e f=false:=by grind [yU]
theorem sF (l:List mI):∀k,fJ l k=true->(k:Int)<=qX l k/\qX l k<=16
 | 0,_=>by simp[qX]
 | k+1,h=>by
  simp only[fJ,eG] at h;have ih:=sF l k h.1
  grind [AH,qX]
theorem zF (d:ByteArray) (l:List mI) (hd:d.size=16):∀k,fJ l k=true->(tE d l k).size=16
 | 0,_=>hd
 | k+1,h=>by
  simp only[fJ,eG] at h;have ih:=zF d l hd k h.1;have hf:=(AH _ _).1 h.2;have he:=sF l k h.1
  grind [tE,IK]
open Go.RowKit
def kG (a:aX) (n:Nat):List Int:=(List.range n).map (fun m:Nat=>a.page+(m:Int))
def ft (l:List aX):Nat->List Int
 | 0=>[]
 | i+1=>ft l i++kG (bB l i) (bB l i).aO.toNat
def mK (l:List aX):List Int:=ft l l.length
def jG (l:List aX) (hs:List bG):Bool:=decide (hs.map (·.page)=mK l)
def od (l:List aX):Nat->Bool
 | 0=>false
 | k+1=>od l k || (bB l k).zero
def mo (l:List aX):Bool:=od l l.length
def lh (hs:List bG):Nat->Bool
 | 0=>true
 | k+1=>lh hs k&&df (bu hs k)
def sB (hs:List bG):Bool:=lh hs hs.length
def AJ (l:List aX) (en:Int):Bool:=(bV l (en.tdiv 16)).2&&(decide (2<=(bV l (en.tdiv 16)).1.jE)&&decide (en.tmod 8=0))
def kI (l:List aX) (hs:List bG) (en:Int):Int:=if bj l=0 then (if !mo l&&(jG l hs&&(sB hs&&AJ l en)) then 0 else 1) else bj l
theorem vD (a:aX) (n:Nat):kG a (n+1)=kG a n++[a.page+(n:Int)]:=by
 grind [kG,List.range_succ]
theorem N2 (a:aX) (n m:Nat) (h:n<m):∃t,kG a m=kG a n++(a.page+(n:Int))::t:=by
 induction m with
 | zero=>omega
 | succ m ih =>
  by_cases e:n=m
  · simp_all [vD]
  grind [vD]
theorem Ew (l:List aX) (i:Nat):∀n,i<=n->∃t,ft l n=ft l i++t
 | 0,h=>by simp_all
 | n+1,h=>by
  by_cases e:i=n+1
  · simp_all
  · obtain⟨t,ht⟩:=Ew l i n (by omega)
    grind [ft]
theorem Qd (l:List aX) (i:Nat) (hi:i<l.length) (n:Nat) (hn:n<(bB l i).aO.toNat):∃t,mK l=(ft l i++kG (bB l i) n)++((bB l i).page+(n:Int))::t:=by
 obtain⟨t,ht⟩:=Ew l (i+1) l.length (by omega);obtain⟨u,hu⟩:=N2 (bB l i) n _ hn
 grind [mK,ft]
theorem E4 (l:List aX):∀(k n:Nat),k<=n->od l k=true->od l n=true
 | k,0,h,hk=>by grind
 | k,n+1,h,hk=>by
  by_cases e:k=n+1
  · grind
  · simp[od,E4 l k n (by omega) hk]
theorem aaI (l:List aX) (k:Nat) (hk:k<l.length) (h:(bB l k).zero=true):mo l=true:=E4 l (k+1) l.length (by omega) (by simp[od,h])
theorem J4 (l:List aX):∀n,od l n=false->∀i,i<n->(bB l i).zero=false
 | 0,_,i,hi=>by omega
 | n+1,h,i,hi=>by
  simp only[od,JF] at h;by_cases e:i=n
  · grind
  · exact J4 l n h.1 i (by omega)
theorem AE (l:List bG):∀(k n:Nat),k<=n->lh l k=false->lh l n=false
 | k,0,h,hk=>by grind
 | k,n+1,h,hk=>by
  by_cases e:k=n+1
  · grind
  · simp[lh,AE l k n (by omega) hk]
theorem Sa (l:List bG) (k:Nat) (hk:k<l.length) (h:df (bu l k)=false):sB l=false:=AE l (k+1) l.length (by omega) (by simp[lh,h])
theorem E5 (l:List bG):∀n,lh l n=true->∀i,i<n->df (bu l i)=true
 | 0,_,i,hi=>by omega
 | n+1,h,i,hi=>by
  simp only[lh,eG] at h;by_cases e:i=n
  · grind
  · exact E5 l n h.1 i (by omega)
theorem CF (hs:List bG) (c:Nat) (h:c<hs.length):(hs.take (c+1)).map (·.page)=(hs.take c).map (·.page)++[(bu hs c).page]:=by
 grind [List.take_succ_eq_append_getElem,bu]
theorem Si {l:List aX} {hs:List bG} {pre t:List Int} {x:Int} (hp:(hs.take hs.length).map (·.page)=pre) (ho:mK l=pre++x::t):jG l hs=false:=by
 simp_all [jG]
theorem Sj {l:List aX} {hs:List bG} {pre t:List Int} {x:Int} {c:Nat} (hc:c<hs.length) (hp:(hs.take c).map (·.page)=pre) (ho:mK l=pre++x::t) (hx:(bu hs c).page≠x):jG l hs=false:=by
 unfold jG;refine je (fun e=>?_);have h1:=CF hs c hc
 grind [List.take_append_drop,List.append_cancel_left]
theorem Vf {l:List aX} {hs:List bG} {c:Nat} (hc:c<=hs.length) (hp:(hs.take c).map (·.page)=ft l l.length):jG l hs=decide (c=hs.length):=by
 grind [jG,mK,List.length_map]
def Km (w:World) (b off:Nat) (l:List bG):Prop:=∀i,i<l.length ->
 w.cell? (Ad b (off+i*3))=some (I (bu l i).page)/\w.cell? (Ad b (off+i*3+1))=some (.string (bu l i).data)/\w.cell? (Ad b (off+i*3+2))=some (.slice (bu l i).ao (bu l i).eO.length (bu l i).cap)/\qG w (bu l i).ao (bu l i).eO
theorem acB {w w':World} {b off:Nat} {l:List bG} (hb:Below w.heap.size w w') (hlt:b<w.heap.size) (h:Km w b off l):Km w' b off l:=fun i hi=>by
 obtain⟨c0,c1,c2,c3⟩:=h i hi
 grind [cJ,qG.below]
def jn (w:World) (ao:Option Addr) (l:List bG):Prop:=gJ Km w ao l
theorem jn.below {w w':World} {ao:Option Addr} {l:List bG} (h:jn w ao l) (hb:Below w.heap.size w w'):jn w' ao l:=gJ.below (lie:=Km) (fun hb hlt h=>acB hb hlt h) h hb
def qZ (l:List bG):Prop:=cu l.length/\∀k,k<l.length->Dw (bu l k)
theorem Sc {p:Int} (h:0<=p/\p<=3):p=0∨p=1∨p=2∨p=3:=by omega
theorem Sh (l:List aX) (hc:bj l=0) (p:Int) (h:(bV l p).2=true):0<=(bV l p).1.jE/\(bV l p).1.jE<=3:=by
 by_cases e:∃k,k<l.length/\iJ (bB l k) p=true
 · obtain⟨k,hk,hh⟩:=e;have:∃k,k<l.length/\iJ (bB l k) p=true/\∀i,i<k->iJ (bB l i) p=false:=by
    induction k using Nat.strongRecOn with
    | _ k ih =>
     grind
   obtain⟨k,hk,h1,h2⟩:=this;rw[s8 l p k hk h2 h1]
   simp_all [il,gQ]
 grind [tW]
open Go.RowKit
def rA (hs:List bG) (k:Nat):Bool:=k==0 || decide ((bu hs (k-1)).page<(bu hs k).page)
def jT (hs:List bG):Nat->Bool
 | 0=>true
 | k+1=>jT hs k&&(df (bu hs k)&&rA hs k)
def gS (hs:List bG):Bool:=jT hs hs.length
theorem Ev (l:List bG):∀(k n:Nat),k<=n->jT l k=false->jT l n=false
 | k,0,h,hk=>by grind
 | k,n+1,h,hk=>by
  by_cases e:k=n+1
  · grind
  · simp[jT,Ev l k n (by omega) hk]
theorem Yj (l:List bG) (k:Nat) (hk:k<l.length) (h:(df (bu l k)&&rA l k)=false):gS l=false:=Ev l (k+1) l.length (by omega) (by grind [jT])
theorem qF (l:List bG):∀n,jT l n=true->∀i,i<n->df (bu l i)=true/\rA l i=true
 | 0,_,i,hi=>by omega
 | n+1,h,i,hi=>by
  simp only[jT,eG] at h;by_cases e:i=n
  · grind
  · exact qF l n h.1 i (by omega)
theorem J7 (l:List bG):∀n,(∀i,i<n->df (bu l i)=true/\rA l i=true)->jT l n=true
 | 0,_=>rfl
 | n+1,h=>by
  simp only[jT,eG];exact⟨J7 l n (fun i hi=>h i (by omega)),h n (by omega)⟩
def Dq (l:List aX) (hs:List bG) (k:Nat):Bool:=(bV l (bu hs k).page).2&&!(bV l (bu hs k).page).1.zero
def yS (l:List aX) (hs:List bG):Nat->Bool
 | 0=>true
 | k+1=>yS l hs k&&Dq l hs k
theorem Dp (l:List aX) (hs:List bG):∀n,yS l hs n=true->∀i,i<n->Dq l hs i=true
 | 0,_,i,hi=>by omega
 | n+1,h,i,hi=>by
  simp only[yS,eG] at h;by_cases e:i=n
  · grind
  · exact Dp l hs n h.1 i (by omega)
theorem Qg (l:List aX) (hs:List bG):∀n,(∀i,i<n->Dq l hs i=true)->yS l hs n=true
 | 0,_=>rfl
 | n+1,h=>by
  simp only[yS,eG];exact⟨Qg l hs n (fun i hi=>h i (by omega)),h n (by omega)⟩
def GZ (l:List aX) (hs:List bG) (en:Int):Int:=if bj l=0 then (if decide ((hs.length:Int)=kP l l.length)&&(gS hs&&(yS l hs hs.length&&AJ l en)) then 0 else 1) else bj l
/-! the pages of areas that are right rise -/
def lj (L:List Int):Prop:=L.Pairwise (·<·)
theorem xB (a:aX) (n:Nat) (x:Int):x∈kG a n↔a.page<=x/\x<a.page+(n:Int):=by
 unfold kG;rw[vd];constructor
 · grind
 · rintro⟨h1,h2⟩;exact⟨(x-a.page).toNat,uy.2 (by omega),by omega⟩
theorem CE (a:aX):∀n,lj (kG a n)
 | 0=>by simp[kG,lj]
 | n+1=>by
  rw[vD];unfold lj;rw[GL];refine⟨CE a n,by simp,fun x hx y hy=>?_⟩
  grind [xB]
theorem L8 (a:aX) (n:Nat):(kG a n).length=n:=by simp[kG]
theorem Qe (l:List aX) (hc:bj l=0) (i:Nat) (hi:i+1<l.length):(bB l i).page+(bB l i).aO<=(bB l (i+1)).page:=by
 have h:=gQ l hc (i+1) hi
 grind [nB,mi,aX.wH]
theorem Bx (l:List aX) (hc:bj l=0):∀i,i<=l.length->∀x∈ft l i,∀j,j<l.length->i<=j->x<(bB l j).page
 | 0,_,x,hx,j,_,_=>by grind [ft]
 | i+1,hi,x,hx,j,hj,hij=>by
  simp only[ft,lQ] at hx;rcases hx with hx | hx
  · exact Bx l hc i (by omega) x hx j hj (by omega)
  · have hk:=il l i (gQ l hc i (by omega));have h1:=(xB _ _ _).1 hx;have step:∀d,i+1+d<l.length->(bB l i).page+(bB l i).aO<=(bB l (i+1+d)).page:=by
     intro d;induction d with
     | zero=>simp_all [Qe]
     | succ d ih =>
      intro h;have h2:=ih (by omega);have h3:=Qe l hc (i+1+d) h;have h4:=il l (i+1+d) (gQ l hc (i+1+d) (by omega))
      grind
    have:=step (j-(i+1)) (by omega)
    grind
theorem vB (l:List aX) (hc:bj l=0):∀i,i<=l.length->lj (ft l i)
 | 0,_=>by simp[ft,lj]
 | i+1,hi=>by
  simp only[ft];unfold lj;rw[GL];refine⟨vB l hc i (by omega),CE _ _,fun x hx y hy=>?_⟩;have h1:=Bx l hc i (by omega) x hx i (by omega) (aH _)
  grind [xB]
theorem vC (l:List aX) (hc:bj l=0):∀i,i<=l.length->((ft l i).length:Int)=kP l i
 | 0,_=>rfl
 | i+1,hi=>by
  have ih:=vC l hc i (by omega);have hk:=il l i (gQ l hc i (by omega))
  grind [ft,kP,L8]
theorem sD (l:List aX) (x:Int):∀i,x∈ft l i↔∃k,k<i/\iJ (bB l k) x=true
 | 0=>by simp[ft]
 | i+1=>by
  simp only[ft,lQ];rw[sD l x i,xB]
  grind [iJ,aX.wH]
theorem vv {x:Int} {L:List Int} (h:lj (x::L)):lj L/\∀z∈L,x<z:=⟨(Av.1 h).2,(Av.1 h).1⟩
theorem Bw:∀(K L:List Int),lj L->lj K->(∀z∈L,z∈K)->L.length<=K.length
 | [],L,_,_,hm=>by
  cases L with
  | nil=>omega
  | cons x L=>grind [List.mem_cons_self]
 | y::K,L,hL,hK,hm=>by
  cases L with
  | nil=>grind
  | cons x L =>
   obtain⟨hL1,hL2⟩:=vv hL;obtain⟨hK1,hK2⟩:=vv hK;by_cases e:x=y
   · subst e;have:=Bw K L hL1 hK1 (fun z hz=>by
      grind)
     grind
   · have hx:x∈K:=by
      grind
     have hyx:=hK2 x hx;have:=Bw K (x::L) hL hK1 (fun z hz=>by
      grind)
     grind
theorem J6:∀(L K:List Int),lj L->lj K->(∀z∈L,z∈K)->K.length<=L.length->L=K
 | [],K,_,_,_,hl=>by
  simp_all
 | x::L,K,hL,hK,hm,hl=>by
  cases K with
  | nil=>grind [List.mem_cons_self]
  | cons y K =>
   obtain⟨hL1,hL2⟩:=vv hL;obtain⟨hK1,hK2⟩:=vv hK;have e:x=y:=by
    rcases ux.1 (hm x Dh) with g | g
    · exact g
    · have hyx:=hK2 x g;have:=Bw K (x::L) hL hK1 (fun z hz=>by
       grind)
      grind
   subst e;rw[J6 L K hL1 hK1 (fun z hz=>by
    grind) (by grind)]
theorem E6 (hs:List bG) (h:gS hs=true):lj (hs.map (·.page)):=by
 have step:∀i j,i<j->j<hs.length->(bu hs i).page<(bu hs j).page:=by
  intro i j hij hj;induction j with
  | zero=>omega
  | succ j ih =>
   have h1:=(qF hs hs.length h (j+1) hj).2
   grind [rA]
 grind [lj,List.pairwise_iff_getElem,bu]
theorem Qb (hs:List bG) (h:lj (hs.map (·.page))) (k:Nat) (hk:k<hs.length):rA hs k=true:=by
 grind [rA,lj,List.pairwise_iff_getElem,bu]
theorem MS (l:List aX) (p:Int) (k:Nat) (hk:k<l.length) (h:iJ (bB l k) p=true):∃j,j<l.length/\bV l p=(bB l j,true):=by
 induction k using Nat.strongRecOn with
 | _ k ih =>
  grind [s8]
theorem Ve (l:List aX) (p:Int) (h:(bV l p).2=true):∃k,k<l.length/\iJ (bB l k) p=true:=by
 grind [tW]
theorem adq (hs:List bG) (k:Nat) (h:k<hs.length):(bu hs k).page∈hs.map (·.page):=by
 grind [bu]
theorem L9 (hs:List bG) (x:Int) (h:x∈hs.map (·.page)):∃k,k<hs.length/\(bu hs k).page=x:=by
 obtain⟨s,hs1,rfl⟩:=vd.1 h;obtain⟨k,hk,e⟩:=List.getElem_of_mem hs1;refine⟨k,hk,?_⟩
 grind [bu]
theorem Qh (l:List aX) (hc:bj l=0) (p:Int) (j k:Nat) (hj:j<l.length) (hk:k<l.length) (h1:iJ (bB l j) p=true) (h2:iJ (bB l k) p=true):j=k:=by
 have key:∀j k,j<k->k<l.length->iJ (bB l j) p=true->iJ (bB l k) p=true->False:=by
  intro j k hjk hk h1 h2;have hm:p∈ft l k:=(sD l p k).2 ⟨j,hjk,h1⟩;have:=Bx l hc k (by omega) p hm k hk (aH _)
  grind [iJ]
 grind
theorem U9 (l:List aX) (hs:List bG) (hc:bj l=0) :
  (!mo l&&(jG l hs&&sB hs))=(decide ((hs.length:Int)=kP l l.length)&&(gS hs&&yS l hs hs.length)):=by
 rw[Bool.eq_iff_iff];simp only[eG,Bool.not_eq_true',kR];constructor
 · rintro⟨hz,he,hsh⟩;have he':hs.map (·.page)=mK l:=oI he;have hlen:=dY List.length he';rw[gV] at hlen;have hr:lj (hs.map (·.page)):=by rw[he'];exact vB l hc l.length (aH _)
   refine⟨by rw[hlen];exact vC l hc l.length (aH _),?_,?_⟩
   · exact J7 hs hs.length (fun i hi=>⟨E5 hs hs.length hsh i hi,Qb hs hr i hi⟩)
   · refine Qg l hs hs.length (fun i hi=>?_);have hm:(bu hs i).page∈ft l l.length:=by
      have:=adq hs i hi;rw[he'] at this;exact this
     obtain⟨k,hk,hh⟩:=(sD l _ _).1 hm;obtain⟨j,hj,e⟩:=MS l _ k hk hh;unfold Dq;rw[e];simp[J4 l l.length hz j hj]
 · rintro⟨hlen,hr,hin⟩;have hsub:∀z∈hs.map (·.page),z∈mK l:=fun z hz=>by
    obtain⟨k,hk,rfl⟩:=L9 hs z hz;have:=Dp l hs hs.length hin k hk;unfold Dq at this;simp only[eG] at this;obtain⟨j,hj,hh⟩:=Ve l _ this.1;exact(sD l _ _).2 ⟨j,hj,hh⟩
   have he':hs.map (·.page)=mK l:=J6 _ _ (E6 hs hr) (vB l hc l.length (aH _)) hsub (by
    grind [vC,mK])
   refine⟨?_,gU he',?_⟩
   · cases hz:mo l
     · rfl
     · exfalso;have:∃i,i<l.length/\(bB l i).zero=true:=by
        by_cases g:∃i,i<l.length/\(bB l i).zero=true
        · exact g
        · have key:∀n,n<=l.length->od l n=false:=by
           intro n;induction n with
           | zero=>intro _;rfl
           | succ n ih =>
            grind [od]
          grind [mo]
       obtain⟨i,hi,hzi⟩:=this;have hk:=il l i (gQ l hc i hi);have hh:iJ (bB l i) (bB l i).page=true:=by
        grind [iJ,aX.wH]
       have hm:(bB l i).page∈hs.map (·.page):=by
        rw[he'];exact(sD l _ _).2 ⟨i,hi,hh⟩
       obtain⟨k,hk1,hk2⟩:=L9 hs _ hm;have auL:=Dp l hs hs.length hin k hk1
       grind [Dq,Qh,s8]
   · have key:∀n,n<=hs.length->lh hs n=true:=by
      intro n;induction n with
      | zero=>intro _;rfl
      | succ n ih =>
       intro hn;simp only[lh,eG];exact⟨ih (by omega),(qF hs hs.length hr n (by omega)).1⟩
     exact key hs.length (aH _)
theorem Ht (l:List aX) (hs:List bG) (en:Int):kI l hs en=GZ l hs en:=by
 grind [kI,GZ,U9]
end Go.Proofs.YtlgoihmkgaaemaaGreat
