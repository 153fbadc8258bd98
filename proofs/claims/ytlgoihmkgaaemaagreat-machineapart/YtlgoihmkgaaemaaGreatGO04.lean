import Derived.Test.YtlgoihmkgaaemaaGreatGO03
import Derived.Lib.Walk
import Derived.Lib.BufferWrite
set_option maxHeartbeats 20000000
set_option linter.unusedVariables false
set_option maxRecDepth 100000
set_option linter.unusedSimpArgs false
namespace Go.Proofs.YtlgoihmkgaaemaaGreat
open Go.RowKit
variable {σ:Type}
structure dh (Ok:σ->List Bool->Prop) (st:df σ):Prop where
 mem:Ok st.mem (bV st.ps)
 fit:∀k,k<st.ps.length->sO (aI st.ps k)
 right:∀k,k<st.ps.length->fA (aI st.ps k)=true
 words:∀x∈st.out,0<=x.proc/\x.proc<(st.ps.length:Int)
 out:st.out.length<=2000
theorem BC (ps:List bO) (k j:Nat) (p:bO) (hk:k<ps.length):aI (ps.set k p) j=if j=k then p else aI ps j:=by
 unfold aI;rw[fK,fK,Ha];by_cases h:j=k
 · rw[aB h,aB h.symm];subst h;rw[aB hk];rfl
 · rw[au h,au (fun g=>h g.symm)]
theorem wK (ps:List bO) (p:bO) (j:Nat):aI (ps++[p]) j=if j<ps.length then aI ps j else if j=ps.length then p else CA:=by
 unfold aI;rw[fK,fK];by_cases h:j<ps.length
 · rw[aB h,Hf h]
 · rw[au h,zj (by omega)];by_cases h2:j=ps.length
   · rw[aB h2,h2,G6];rfl
   · rw[au h2];obtain⟨d,hd⟩:∃d,j-ps.length=d+1:=⟨j-ps.length-1,by omega⟩;rw[hd];rfl
theorem Uc (i:dU) (ps:List bO):kQ i ps.length ps=ps:=by
 unfold kQ;rw[vQ,Vg];simp
theorem XJ (i:dU) (ps:List bO) (n:Nat) (h:n=ps.length):kQ i n ps=ps:=by rw[h];exact Uc i ps
theorem XI (i:dU) (ps:List bO) (p:bO) (n:Nat) (h:n=ps.length):kQ i n (ps++[p])=ps++[dg p i 0]:=by
 subst h;unfold kQ;rw[List.take_left,List.drop_left];rfl
theorem aau (ps:List bO) (p q:bO) (k:Nat) (h:k<ps.length):(ps++[p]).set k q=ps.set k q++[p]:=by
 rw[J2 _ _ h]
section
variable {Ok:σ->List Bool->Prop}
theorem BG {st:df σ} {m:σ} (h:dh Ok st) (hm:Ok m (bV st.ps)):dh Ok { st with mem:=m }:=⟨hm,h.fit,h.right,h.words,h.out⟩
theorem iu {st:df σ} (k:Nat) (hk:k<st.ps.length) (h1:(aI st.ps k).st=1):(bV st.ps).getD k false=true:=by
 rw[I7,ic hk,ic h1];rfl
theorem RY {st:df σ} (h:dh Ok st) (k:Nat) (hk:k<st.ps.length) (h1:(aI st.ps k).st=1) {i:dU} {v:Int} (hv:cN v) (hb:i.bad=false) (hf:i.fits) {m:σ} (hm:Ok m (if i.op=16/\i.m=6 then (bV st.ps).set k false else bV st.ps)) :
  dh Ok { st with mem:=m,ps:=st.ps.set k (dg (aI st.ps k) i v) }:=by
 have hlen:(st.ps.set k (dg (aI st.ps k) i v)).length=st.ps.length:=fC;refine⟨?_,fun j hj=>?_,fun j hj=>?_,fun x hx=>?_,h.out⟩
 · show Ok m (bV (st.ps.set k (dg (aI st.ps k) i v)));rw[Ar];by_cases c:i.op=16/\i.m=6
   · rw[aB c] at hm;rw[XH c.1 c.2];exact hm
   · rw[au c] at hm;rw[JI hb c,ic h1];have e:(bV st.ps).set k true=bV st.ps:=by
      apply Dw;intro j;rw[Ha];by_cases e:k=j
      · subst e;have hk':k<(bV st.ps).length:=by unfold bV;rw[ie];exact hk
        have hg:=iu k hk h1;rw[fK,l6 hk'] at hg;rw[aB rfl,aB hk',l6 hk'];exact ed some hg.symm
      · rw[au e]
     rw[e];exact hm
 · have hj':j<st.ps.length:=hlen ▸ hj;show sO (aI (st.ps.set k _) j);rw[BC _ _ _ _ hk];split
   · exact Oe (h.fit k hk) hv hb hf
   · exact h.fit j hj'
 · have hj':j<st.ps.length:=hlen ▸ hj;show fA (aI (st.ps.set k _) j)=true;rw[BC _ _ _ _ hk];split
   · exact I8 hb h1 (h.right k hk)
   · exact h.right j hj'
 · have:=h.words x hx;show 0<=x.proc/\x.proc<((st.ps.set k _).length:Int);rw[hlen];exact this
theorem acD {st:df σ} (h:dh Ok st) {p:bO} (hf:sO p) (hr:fA p=true) {m:σ} (hm:Ok m (bV st.ps++[decide (p.st=1)])):dh Ok { st with mem:=m,ps:=st.ps++[p] }:=by
 have hlen:(st.ps++[p]).length=st.ps.length+1:=by simp
 refine⟨?_,fun j hj=>?_,fun j hj=>?_,fun x hx=>?_,h.out⟩
 · show Ok m (bV (st.ps++[p]));rw[O0];exact hm
 · have hj':j<st.ps.length+1:=hlen ▸ hj;show sO (aI (st.ps++[p]) j);rw[wK];by_cases c:j<st.ps.length
   · rw[aB c];exact h.fit j c
   · rw[au c,aB (by omega)];exact hf
 · have hj':j<st.ps.length+1:=hlen ▸ hj;show fA (aI (st.ps++[p]) j)=true;rw[wK];by_cases c:j<st.ps.length
   · rw[aB c];exact h.right j c
   · rw[au c,aB (by omega)];exact hr
 · have:=h.words x hx;show 0<=x.proc/\x.proc<((st.ps++[p]).length:Int);rw[hlen];omega
theorem aav (s:ByteArray):cN (EC s):=by
 unfold EC;split
 · exact pZ _
 · unfold cN;omega
theorem BH {i:dU} (hb:i.bad=false) (h:i.op=9∨i.op=10):1<=i.c/\i.c<=8:=by
 unfold dU.bad at hb;rw[au (by omega),au (by omega),au (by omega),au (by omega),au (by omega),aB h] at hb;unfold oD at hb;simp at hb;omega
theorem EA (v n:Int):(mS v n).size=n.toNat:=by
 unfold mS;show(Lib.leBytes n.toNat (mE v)).toArray.size=n.toNat
 simp[Lib.leBytes_length]
structure aiI (Ok:σ->List Bool->Prop) (st:df σ) (k:Nat) (i:dU) (y:(Int×(Int×Int))×df σ):Prop where
 fault:¬y.1.2.1=0->y.2.ps=st.ps/\dh Ok y.2
 plain:y.1.2.1=0->(y.2.ps=st.ps/\Ok y.2.mem (if i.op=16/\i.m=6 then (bV st.ps).set k false else bV st.ps)∨(¬(i.op=16/\i.m=6))/\y.2.ps=st.ps++[aI st.ps k]/\Ok y.2.mem (bV st.ps++[true]))/\cN y.1.1/\i.bad=false
 words:∀x∈y.2.out,0<=x.proc/\x.proc<(st.ps.length:Int)
 out:y.2.out.length<=st.out.length+1
 kind:¬y.1.2.1=0->1<=y.1.2.1/\y.1.2.1<=4
theorem GI {o:gH σ} (ho:qL o Ok) {st:df σ} (h:dh Ok st) (k:Nat) (hk:k<st.ps.length) (h1:(aI st.ps k).st=1) (i:dU) (hf:i.fits):aiI Ok st k i (eX o st k i):=by
 have hl:=iu k hk h1;have hi0:cN 0:=by unfold cN;omega
 have h4:=ho.few _ _ h.mem;have hps:st.ps.length<=4:=by unfold bV at h4;rw[ie] at h4;exact h4
 unfold eX;by_cases hb:i.bad=true
 · rw[aB hb];exact⟨fun _=>⟨rfl,h⟩,fun g=>by simp at g,h.words,kZ _,fun _=>by simp⟩
 · have hbf:i.bad=false:=by simpa using hb
   rw[au hb];by_cases c9:i.op=9
   · rw[aB c9];have hm:=ho.load st.mem _ k (wrap64 ((aI st.ps k).r i.b.toNat+i.m)) i.c 0 h.mem hl;have hft:=ho.fault st.mem _ k (wrap64 ((aI st.ps k).r i.b.toNat+i.m)) i.c 0 h.mem hl;exact⟨fun _=>⟨rfl,BG h hm⟩,fun g=>⟨.inl ⟨rfl,by rw[au (by omega)];exact hm⟩,aav _,hbf⟩,h.words,kZ _,fun g=>⟨by have:¬(o.load st.mem k (wrap64 ((aI st.ps k).r i.b.toNat+i.m)) i.c 0).1.2.1=0:=g;show 1<=(o.load st.mem k (wrap64 ((aI st.ps k).r i.b.toNat+i.m)) i.c 0).1.2.1;omega,hft.2.1⟩⟩
   · rw[au c9];by_cases c10:i.op=10
     · rw[aB c10];have hm:=ho.store st.mem _ k (wrap64 ((aI st.ps k).r i.b.toNat+i.m)) (mS ((aI st.ps k).r i.a.toNat) i.c) h.mem hl (by rw[EA];have:=BH hbf (.inr c10);omega) (by rw[EA];have:=BH hbf (.inr c10);omega);have hft:=ho.Qh st.mem _ k (wrap64 ((aI st.ps k).r i.b.toNat+i.m)) (mS ((aI st.ps k).r i.a.toNat) i.c) h.mem hl;exact⟨fun _=>⟨rfl,BG h hm⟩,fun g=>⟨.inl ⟨rfl,by rw[au (by omega)];exact hm⟩,hi0,hbf⟩,h.words,kZ _,fun g=>⟨by have:¬(o.store st.mem k (wrap64 ((aI st.ps k).r i.b.toNat+i.m)) (mS ((aI st.ps k).r i.a.toNat) i.c)).1.1=0:=g;show 1<=(o.store st.mem k (wrap64 ((aI st.ps k).r i.b.toNat+i.m)) (mS ((aI st.ps k).r i.a.toNat) i.c)).1.1;omega,hft.2.1⟩⟩
     · rw[au c10];by_cases c16:i.op=16
       · rw[aB c16];unfold eu;by_cases d1:i.m=1
         · rw[aB d1];refine⟨fun g=>(g rfl).elim,fun _=>⟨.inl ⟨rfl,by rw[au (by omega)];exact h.mem⟩,hi0,hbf⟩,fun x hx=>?_,by simp,fun g=>(g rfl).elim⟩;rcases l5.1 hx with g | g
           · exact h.words x g
           · rw[List.mem_singleton.1 g];show 0<=(k:Int)/\(k:Int)<_;omega
         · rw[au d1];by_cases d2:i.m=2
           · rw[aB d2];have hm:=ho.map st.mem _ k ((aI st.ps k).r 0) ((aI st.ps k).r 1) ((aI st.ps k).r 2) h.mem hl;have hv:=ho.afe st.mem _ k ((aI st.ps k).r 0) ((aI st.ps k).r 1) ((aI st.ps k).r 2) h.mem hl;exact⟨fun g=>(g rfl).elim,fun _=>⟨.inl ⟨rfl,by rw[au (by omega)];exact hm⟩,by unfold cN;show -9223372036854775808<=(o.map st.mem k ((aI st.ps k).r 0) ((aI st.ps k).r 1) ((aI st.ps k).r 2)).1/\(o.map st.mem k ((aI st.ps k).r 0) ((aI st.ps k).r 1) ((aI st.ps k).r 2)).1<=_;omega,hbf⟩,h.words,kZ _,fun g=>(g rfl).elim⟩
           · rw[au d2];by_cases d3:i.m=3
             · rw[aB d3];have hm:=ho.pC st.mem _ k ((aI st.ps k).r 0) ((aI st.ps k).r 1) h.mem hl;have hv:=ho.P4 st.mem _ k ((aI st.ps k).r 0) ((aI st.ps k).r 1) h.mem hl;exact⟨fun g=>(g rfl).elim,fun _=>⟨.inl ⟨rfl,by rw[au (by omega)];exact hm⟩,by unfold cN;show -9223372036854775808<=(o.pC st.mem k ((aI st.ps k).r 0) ((aI st.ps k).r 1)).1/\(o.pC st.mem k ((aI st.ps k).r 0) ((aI st.ps k).r 1)).1<=_;omega,hbf⟩,h.words,kZ _,fun g=>(g rfl).elim⟩
             · rw[au d3];by_cases d4:i.m=4
               · rw[aB d4];have hm:=ho.jx st.mem _ k ((aI st.ps k).r 0) ((aI st.ps k).r 1) ((aI st.ps k).r 2) h.mem hl;have hv:=ho.Ff st.mem _ k ((aI st.ps k).r 0) ((aI st.ps k).r 1) ((aI st.ps k).r 2) h.mem hl;exact⟨fun g=>(g rfl).elim,fun _=>⟨.inl ⟨rfl,by rw[au (by omega)];exact hm⟩,by unfold cN;show -9223372036854775808<=(o.jx st.mem k ((aI st.ps k).r 0) ((aI st.ps k).r 1) ((aI st.ps k).r 2)).1/\(o.jx st.mem k ((aI st.ps k).r 0) ((aI st.ps k).r 1) ((aI st.ps k).r 2)).1<=_;omega,hbf⟩,h.words,kZ _,fun g=>(g rfl).elim⟩
               · rw[au d4];by_cases d5:i.m=5
                 · rw[aB d5];by_cases f0:(o.fork st.mem k).1=0
                   · rw[aB f0];have hm:=ho.J7 st.mem _ k h.mem hl f0;exact⟨fun g=>(g rfl).elim,fun _=>⟨.inr ⟨by omega,rfl,hm⟩,by unfold cN;show -9223372036854775808<=(st.ps.length:Int)/\(st.ps.length:Int)<=_;omega,hbf⟩,h.words,kZ _,fun g=>(g rfl).elim⟩
                   · rw[au f0];have hm:=ho.Qg st.mem _ k h.mem hl f0;exact⟨fun g=>(g rfl).elim,fun _=>⟨.inl ⟨rfl,by rw[au (by omega)];exact hm⟩,by unfold cN;show -9223372036854775808<=(-1:Int)/\(-1:Int)<=_;omega,hbf⟩,h.words,kZ _,fun g=>(g rfl).elim⟩
                 · rw[au d5];by_cases d6:i.m=6
                   · rw[aB d6];have hm:=ho.drop st.mem _ k h.mem hl;exact⟨fun g=>(g rfl).elim,fun _=>⟨.inl ⟨rfl,by rw[aB ⟨c16,d6⟩];exact hm⟩,hi0,hbf⟩,h.words,kZ _,fun g=>(g rfl).elim⟩
                   · rw[au d6];exact⟨fun g=>(g rfl).elim,fun _=>⟨.inl ⟨rfl,by rw[au (by omega)];exact h.mem⟩,hi0,hbf⟩,h.words,kZ _,fun g=>(g rfl).elim⟩
       · rw[au c16];exact⟨fun g=>(g rfl).elim,fun _=>⟨.inl ⟨rfl,by rw[au (by omega)];exact h.mem⟩,hi0,hbf⟩,h.words,kZ _,fun g=>(g rfl).elim⟩
end
open Go.RowKit
variable {σ:Type} {Ok:σ->List Bool->Prop}
structure aeJ (Ok:σ->List Bool->Prop) (st:df σ) (r:(Int×Int)×df σ):Prop where
 ok:dh Ok r.2
 same:¬r.1.1=0->r.2.ps=st.ps
 kind:¬r.1.1=0->1<=r.1.1/\r.1.1<=4
theorem JJ {o:gH σ} (ho:qL o Ok) {st:df σ} (h:dh Ok st) (hout:st.out.length<2000) (k:Nat) (hk:k<st.ps.length) (h1:(aI st.ps k).st=1):aeJ Ok st (kX o st k):=by
 have hl:=iu k hk h1;have hm:=ho.load st.mem _ k (aI st.ps k).pc 8 2 h.mem hl;have hft:=ho.fault st.mem _ k (aI st.ps k).pc 8 2 h.mem hl;have hsz:=ho.size st.mem _ k (aI st.ps k).pc 8 2 h.mem hl (by omega) (by omega);unfold kX;simp only;obtain⟨x,hx⟩:=ex (o.load st.mem k (aI st.ps k).pc 8 2);rw[<- hx] at hm hft hsz ⊢;clear hx;have g1:dh Ok { st with mem:=x.2 }:=BG h hm;by_cases c:x.1.2.1=0
 · rw[au (fun g=>g c)];have hfits:(ik x.1.1).fits:=A4 _ (by have:=hsz c;omega);obtain⟨i,hi⟩:=ex (ik x.1.1);rw[<- hi] at hfits ⊢;have hL:=GI ho g1 k hk h1 i hfits;obtain⟨y,hy⟩:=ex (eX o { st with mem:=x.2 } k i);rw[<- hy] at hL ⊢;clear hi hy;by_cases d:y.1.2.1=0
   · rw[au (fun g=>g d)];obtain⟨hp,hv,hb⟩:=hL.plain d;have hw:∀z∈y.2.out,0<=z.proc/\z.proc<(st.ps.length:Int):=hL.words;have Fj:y.2.out.length<=2000:=by have:=hL.out;simp only at this;omega
     refine⟨?_,fun g=>(g rfl).elim,fun g=>(g rfl).elim⟩;rcases hp with⟨e,hm2⟩ | ⟨hne,e,hm2⟩
     · have e':y.2.ps=st.ps:=e;have hlen:st.ps.length=(y.2.ps.set k (dg (aI y.2.ps k) i y.1.1)).length:=by rw[fC,e']
       rw[XJ _ _ _ hlen,e'];have base:dh Ok { st with out:=y.2.out }:=⟨h.mem,h.fit,h.right,hw,Fj⟩;exact RY base k hk h1 hv hb hfits (m:=y.2.mem) hm2
     · have e':y.2.ps=st.ps++[aI st.ps k]:=e;have hlen:st.ps.length=(st.ps.set k (dg (aI st.ps k) i y.1.1)).length:=by rw[fC]
       have hpk:aI (st.ps++[aI st.ps k]) k=aI st.ps k:=by rw[wK,aB hk]
       rw[e',hpk,aau _ _ _ _ hk,XI _ _ _ _ hlen];have hcs:(dg (aI st.ps k) i 0).st=1:=by rw[JI hb hne];exact h1
       have base:dh Ok { st with out:=y.2.out }:=⟨h.mem,h.fit,h.right,hw,Fj⟩;have hz:cN 0:=by unfold cN;omega
       have d1:=RY base k hk h1 hv hb hfits (m:=st.mem) (by rw[au hne];exact h.mem);have hr:bV (st.ps.set k (dg (aI st.ps k) i y.1.1))=bV st.ps:=by
        rw[Ar,JI hb hne,ic h1];apply Dw;intro j;rw[Ha];by_cases e:k=j
        · subst e;have hk':k<(bV st.ps).length:=by unfold bV;rw[ie];exact hk
          have hg:=iu k hk h1;rw[fK,l6 hk'] at hg;rw[aB rfl,aB hk',l6 hk'];exact ed some hg.symm
        · rw[au e]
       exact acD d1 (Oe (h.fit k hk) hz hb hfits) (I8 hb h1 (h.right k hk)) (m:=y.2.mem) (by
        show Ok y.2.mem (bV (st.ps.set k (dg (aI st.ps k) i y.1.1))++_);rw[hr,hcs];exact hm2)
   · rw[aB d];obtain⟨e,g2⟩:=hL.fault d;exact⟨g2,fun _=>e,fun _=>hL.kind d⟩
 · rw[aB c];exact⟨g1,fun _=>rfl,fun _=>⟨by show 1<=x.1.2.1;omega,hft.2.1⟩⟩
theorem Ub {p:bO} {x:Int×Int} (h:p.st=1) (hr:fA p=true) (h1:1<=x.1) (h4:x.1<=4):fA (yJ p x)=true:=by
 have h2:p.cd=0:=by
  unfold fA at hr;rw[aB h] at hr;simp only[eO,lh] at hr;exact hr.1
 unfold fA yJ;simp only;rw[au (by decide),au (by decide),aB trivial,h2,ic (show 1<=x.1/\x.1<=4 from⟨h1,h4⟩)];rfl
theorem JH {o:gH σ} (ho:qL o Ok) {st:df σ} (h:dh Ok st) (pick:Int):dh Ok (dm o st pick).2:=by
 unfold dm;by_cases c:0<=pick/\pick<(st.ps.length:Int)
 · rw[au (fun g=>g c)];by_cases c1:(aI st.ps pick.toNat).st=1
   · rw[au (fun g=>g c1)];by_cases c2:2000<=st.out.length
     · rw[aB c2];exact h
     · rw[au c2];have hk:pick.toNat<st.ps.length:=by omega
       have hd:=JJ ho h (by omega) pick.toNat hk c1;simp only;obtain⟨r,hr⟩:=ex (kX o st pick.toNat);rw[<- hr] at hd ⊢;clear hr;by_cases c3:r.1.1=0
       · rw[aB c3];exact hd.ok
       · rw[au c3];have e:=hd.same c3;have hk2:pick.toNat<r.2.ps.length:=by rw[e];exact hk
         have c4:(aI r.2.ps pick.toNat).st=1:=by rw[e];exact c1
         have hlen:(r.2.ps.set pick.toNat (yJ (aI r.2.ps pick.toNat) r.1)).length=r.2.ps.length:=fC;refine⟨?_,fun j hj=>?_,fun j hj=>?_,fun x hx=>?_,hd.ok.out⟩
         · show Ok _ (bV (r.2.ps.set _ _));rw[Ar];exact ho.drop _ _ _ hd.ok.mem (iu _ hk2 c4)
         · have hj':j<r.2.ps.length:=hlen ▸ hj;show sO (aI (r.2.ps.set _ _) j);rw[BC _ _ _ _ hk2];split
           · exact hd.ok.fit _ hk2
           · exact hd.ok.fit j hj'
         · have hj':j<r.2.ps.length:=hlen ▸ hj;show fA (aI (r.2.ps.set _ _) j)=true;rw[BC _ _ _ _ hk2];split
           · exact Ub c4 (hd.ok.right _ hk2) (hd.kind c3).1 (hd.kind c3).2
           · exact hd.ok.right j hj'
         · have:=hd.ok.words x hx;show 0<=x.proc/\x.proc<((r.2.ps.set _ _).length:Int);rw[hlen];exact this
   · rw[aB c1];exact h
 · rw[aB c];exact h
theorem yI {o:gH σ} (ho:qL o Ok) {st:df σ} (h:dh Ok st) (picks:List Int):∀n s,fZ o picks n (some st)=some s->dh Ok s
 | 0,s,e=>by injection e with e;rw[<- e];exact h
 | n+1,s,e=>by
  unfold fZ at e;cases hq:fZ o picks n (some st) with
  | none=>rw[hq] at e;cases e
  | some q =>
   rw[hq] at e;have hq':=yI ho h picks n q hq;simp only at e;by_cases c:(dm o q (picks.getD n 0)).1=2
   · rw[aB c] at e;cases e
   · rw[au c] at e;injection e with e;rw[<- e];exact JH ho hq' _
open Go.RowKit
variable {σ τ:Type}
structure Cu (o:gH σ) (o':gH τ) (Ok:σ->List Bool->Prop) (f:σ->τ):Prop where
 load:∀s fl k a n way,Ok s fl->fl.getD k false=true->1<=n->n<=8->o'.load (f s) k a n way=((o.load s k a n way).1,f (o.load s k a n way).2)
 store:∀s fl k a d,Ok s fl->fl.getD k false=true->1<=d.size->d.size<=8->o'.store (f s) k a d=((o.store s k a d).1,f (o.store s k a d).2)
 map:∀s fl k p n q,Ok s fl->fl.getD k false=true->o'.map (f s) k p n q=((o.map s k p n q).1,f (o.map s k p n q).2)
 pC:∀s fl k p n,Ok s fl->fl.getD k false=true->o'.pC (f s) k p n=((o.pC s k p n).1,f (o.pC s k p n).2)
 jx:∀s fl k p n q,Ok s fl->fl.getD k false=true->o'.jx (f s) k p n q=((o.jx s k p n q).1,f (o.jx s k p n q).2)
 fork:∀s fl k,Ok s fl->fl.getD k false=true->o'.fork (f s) k=((o.fork s k).1,f (o.fork s k).2)
 drop:∀s fl k,Ok s fl->fl.getD k false=true->o'.drop (f s) k=f (o.drop s k)
def iN (f:σ->τ) (st:df σ):df τ:=⟨f st.mem,st.ps,st.out⟩
variable {o:gH σ} {o':gH τ} {Ok:σ->List Bool->Prop} {f:σ->τ}
theorem Z2 (S:Cu o o' Ok f) {st:df σ} (h:Ok st.mem (bV st.ps)) {k:Nat} (hk:(bV st.ps).getD k false=true) (c:Int):eu o' (iN f st) k c=((eu o st k c).1,iN f (eu o st k c).2):=by
 unfold eu;simp only[iN,S.map _ _ _ _ _ _ h hk,S.pC _ _ _ _ _ h hk,S.jx _ _ _ _ _ _ h hk,S.fork _ _ _ h hk,S.drop _ _ _ h hk]
 repeat' split
 all_goals rfl
theorem TS (S:Cu o o' Ok f) {st:df σ} (h:Ok st.mem (bV st.ps)) {k:Nat} (hk:(bV st.ps).getD k false=true) (i:dU):eX o' (iN f st) k i=((eX o st k i).1,iN f (eX o st k i).2):=by
 unfold eX;by_cases hb:i.bad=true
 · rw[aB hb,aB hb];rfl
 rw[au hb,au hb];have hb:i.bad=false:=by simpa using hb
 by_cases h9:i.op=9
 · have hc:=BH hb (.inl h9);rw[aB h9,aB h9];simp only[iN,S.load _ _ _ _ _ _ h hk hc.1 hc.2]
 rw[au h9,au h9];by_cases h10:i.op=10
 · have hc:=BH hb (.inr h10);have hp:=EA ((aI st.ps k).r i.a.toNat) i.c;rw[aB h10,aB h10];simp only[iN,S.store _ _ _ _ _ h hk (show 1<=(mS ((aI st.ps k).r i.a.toNat) i.c).size by omega) (by omega)]
 rw[au h10,au h10];by_cases h16:i.op=16
 · rw[aB h16,aB h16,Z2 S h hk]
 · rw[au h16,au h16]
theorem aer (S:Cu o o' Ok f) (ho:qL o Ok) {st:df σ} (h:Ok st.mem (bV st.ps)) {k:Nat} (hk:(bV st.ps).getD k false=true):kX o' (iN f st) k=((kX o st k).1,iN f (kX o st k).2):=by
 unfold kX;have e:=S.load _ _ k (aI st.ps k).pc 8 2 h hk (by omega) (by omega);have h1:=ho.load _ _ k (aI st.ps k).pc 8 2 h hk;simp only[show(iN f st).mem=f st.mem from rfl,show(iN f st).ps=st.ps from rfl,e];by_cases c:(o.load st.mem k (aI st.ps k).pc 8 2).1.2.1=0
 · simp only[c,Dv,tL];have ha:=TS S (st:={ st with mem:=(o.load st.mem k (aI st.ps k).pc 8 2).2 }) h1 hk (ik (o.load st.mem k (aI st.ps k).pc 8 2).1.1);simp only[iN] at ha ⊢;by_cases c2:(eX o { mem:=(o.load st.mem k (aI st.ps k).pc 8 2).2,ps:=st.ps,out:=st.out } k (ik (o.load st.mem k (aI st.ps k).pc 8 2).1.1)).1.2.1=0
   · simp only[ha,c2,Dv,tL]
   · simp only[ha,c2,Du,tK]
 · simp only[c,Du,tK,iN]
theorem Gr (S:Cu o o' Ok f) (ho:qL o Ok) {st:df σ} (h:dh Ok st) (pick:Int):dm o' (iN f st) pick=((dm o st pick).1,iN f (dm o st pick).2):=by
 unfold dm;simp only[show(iN f st).ps=st.ps from rfl,show(iN f st).out=st.out from rfl];by_cases c1:0<=pick/\pick<(st.ps.length:Int)
 · simp only[c1,Dv,tL,and_self];by_cases c2:(aI st.ps pick.toNat).st=1
   · simp only[c2,Dv,tL];by_cases c3:2000<=st.out.length
     · simp only[c3,tK]
     · simp only[c3,tL];have hk:pick.toNat<st.ps.length:=by omega
       have hl:=iu pick.toNat hk c2;have hd:=JJ ho h (by omega) pick.toNat hk c2;have e:=aer S ho h.mem hl;by_cases c4:(kX o st pick.toNat).1.1=0
       · simp only[e,c4,tK]
       · have hm:=hd.ok.mem;rw[hd.same c4] at hm;simp only[e,c4,tL];simp only[iN,S.drop _ _ _ hm hl]
   · simp only[c2,Du,tK]
 · simp only[c1,Du,tK]
theorem zE (S:Cu o o' Ok f) (ho:qL o Ok) {st:df σ} (h:dh Ok st) (picks:List Int):∀n,fZ o' picks n (some (iN f st))=(fZ o picks n (some st)).map (iN f)
 | 0=>rfl
 | n+1=>by
  have ih:=zE S ho h picks n;have hk:=yI ho h picks n;show(match fZ o' picks n (some (iN f st)) with | none=>none | some s=>_)=Option.map _ (match fZ o picks n (some st) with | none=>none | some s=>_);rw[ih];cases e:fZ o picks n (some st) with
  | none=>rfl
  | some s =>
   show(if (dm o' (iN f s) (picks.getD n 0)).1=2 then none else some (dm o' (iN f s) (picks.getD n 0)).2)=_;rw[Gr S ho (hk s e)];show _=Option.map _ (if (dm o s (picks.getD n 0)).1=2 then none else some (dm o s (picks.getD n 0)).2);split <;> rfl
open Go.RowKit Go.Lib
theorem yK (P:Program) (g o:Nat) (t:TypeId) (m1 m2:Nat):∀(vs:List Value) (i:Nat) (cur:Array Value) (w:World),w.heap[g]?=some (.cells cur t (m1,m2))->cur.size<=m1->o+i+vs.length<=cur.size->(∀v∈vs,v.oneCell'=true) ->
  (storeCells (Ad g o) vs i).run P w=.ok () (w.setRow g (cur.toList.take (o+i)++vs++cur.toList.drop (o+i+vs.length)).toArray)
 | [],i,cur,w,hg,_,_,_=>by
  simp only[storeCells,Dq,Ph,mF,Vw,Array.toArray_toList];rw[setRow_self w g cur t (m1,m2) hg];rfl
 | v::rest,i,cur,w,hg,hm,hl,h1=>by
  have hi:o+i<cur.size:=by grind
  have hadd:((Ad g o):Addr).add i=(Ad g (o+i)):=by grind [Addr.add]
  have hcell:w.cell? (Ad g (o+i))=some cur[o+i]:=by grind [World.cell?]
  have hfro:w.frozen? (Ad g (o+i))=false:=by grind [World.frozen?]
  have hst:(store (((Ad g o):Addr).add i) v).run P w=.ok () (w.setRow g (cur.setIfInBounds (o+i) v)):=by
   grind [run_store,setCell_eq_setRow]
  have ih:=yK P g o t m1 m2 rest (i+1) (cur.setIfInBounds (o+i) v) (w.setRow g (cur.setIfInBounds (o+i) v)) (tM w g cur _ t _ hg) (by grind) (by grind) (fun x hx=>h1 x (by simp[hx]));simp only[storeCells,Sem.run_bind,hst,Vi,ih,setRow_setRow];congr 3;have e:=list_seg_step cur.toList (o+i) v rest (by omega)
  simp_all [za]
theorem Sh {P:Program} (w:World) (dT sT ty elem:TypeId) (g o dLen dCap:Nat) (s:ByteArray) (cur:Array Value) (t:TypeId) (m1 m2:Nat)
  (hu:P.underlying dT=some (.slice elem)) (hs:(P.info? elem).map (·.size)=some 1) (hg:w.heap[g]?=some (.cells cur t (m1,m2))) (hm:cur.size<=m1) (hle:s.size<=dLen) (hfit:o+s.size<=cur.size) :
  (Builtin.copy_ #[dT,sT] ty #[.slice (some (Ad g o)) dLen dCap,.string s]).run P w =
   .ok (goInt s.size) (w.setRow g (cur.toList.take o++Lib.byteCells s.data.toList++cur.toList.drop (o+s.size)).toArray):=by
 have hlen:(Lib.byteCells s.data.toList).length=s.size:=by rw[ac2,<- size_eq]
 have hst:=yK P g o t m1 m2 (Lib.byteCells s.data.toList) 0 cur w hg hm (by omega) (Lib.byteCells_one _);have hmin:Nat.min s.size dLen=s.size:=Vb hle;have htk:List.take s.size (List.map (fun b:UInt8=>Value.int IntKind.u8 (b.toNat:Int)) s.data.toList)=Lib.byteCells s.data.toList:=by
  rw[List.take_of_length_le (by simp_all)];rfl
 rw[hlen] at hst;simp only[mF] at hst;cases hq:P.info? elem with
 | none=>grind
 | some i =>
  simp_all [Builtin.copy_,JW,Builtin.lenOf,Builtin.firstCells,sizeOf,typeInfo]
theorem M8 (s:ByteArray) (c:Nat):(bytesRow s c).size=s.size+(c-s.size):=by
 simp[bytesRow]
def iD (s:ByteArray) (o:Nat) (t:ByteArray):ByteArray:=⟨(s.data.toList.take o++t.data.toList++s.data.toList.drop (o+t.size)).toArray⟩
theorem Ug (s:ByteArray) (o:Nat) (t:ByteArray) (c:Nat) (h:o+t.size<=s.size) (i:Nat) (hi:i<s.size) :
  ((bytesRow s c).toList.take o++Lib.byteCells t.data.toList++(bytesRow s c).toList.drop (o+t.size))[i]?=some (.int .u8 (((iD s o t).data.toList.map fun b=>(b.toNat:Int)).getD i 0)):=by
 have hts:t.size=t.data.toList.length:=size_eq t;have hss:s.size=s.data.toList.length:=size_eq s;have hr:(bytesRow s c).toList=Lib.byteCells s.data.toList++List.replicate (c-s.size) (.int .u8 0):=by
  simp[bytesRow,Lib.byteCells]
 have e:(bytesRow s c).toList.take o++Lib.byteCells t.data.toList++(bytesRow s c).toList.drop (o+t.size)=Lib.byteCells (iD s o t).data.toList++List.replicate (c-s.size) (.int .u8 0):=by
  grind [iD,Lib.byteCells,List.map_take,List.map_drop]
 have hol:(iD s o t).data.toList.length=s.size:=by
  grind [iD]
 grind [Lib.byteCells_length,De]
theorem Ma (s:ByteArray) (o:Nat) (t:ByteArray) (h:o+t.size<=s.size):(iD s o t).data.toList.length=s.size:=by
 grind [size_eq,iD]
theorem aaG (s:ByteArray) (o:Nat) (t:ByteArray) (h:t.size=0):iD s o t=s:=by
 have hts:t.data.toList=[]:=lj (by simp_all)
 simp_all [iD]
theorem Je (s:ByteArray) (o:Nat) (t:ByteArray) (h:o+t.size<=s.size):(iD s o t).size=s.size:=by
 grind [size_eq,Ma]
open Go.RowKit
structure mL where
 off:Int
 bytes:ByteArray
structure bG where
 page:Int
 data:ByteArray
 eZ:List mL
 ao:Option Addr
 cap:Nat
def QJ:mL:=⟨0,⟨#[]⟩⟩
def nX (l:List mL) (i:Nat):mL:=l.getD i QJ
def Ce:bG:=⟨0,⟨#[]⟩,[],none,0⟩
def bu (l:List bG) (i:Nat):bG:=l.getD i Ce
def DL (w:World) (b off:Nat) (l:List mL):Prop:=∀i,i<l.length->w.cell? (Ad b (off+i*2))=some (I (nX l i).off)/\w.cell? (Ad b (off+i*2+1))=some (.string (nX l i).bytes)
theorem adi {w w':World} {b off:Nat} {l:List mL} (hb:Below w.heap.size w w') (hlt:b<w.heap.size) (h:DL w b off l):DL w' b off l:=fun i hi=>by
 obtain⟨c0,c1⟩:=h i hi
 grind [cM]
def qZ (w:World) (ao:Option Addr) (l:List mL):Prop:=gU DL w ao l
theorem qZ.below {w w':World} {ao:Option Addr} {l:List mL} (h:qZ w ao l) (hb:Below w.heap.size w w'):qZ w' ao l:=gU.below (lie:=DL) (fun hb hlt h=>adi hb hlt h) h hb
def VZ (f:mL):Prop:=cN f.off/\b7 f.bytes.size
structure DN (s:bG):Prop where
 page:cN s.page
 data:b7 s.data.size
 eZ:b7 s.eZ.length
 fix:∀k,k<s.eZ.length->VZ (nX s.eZ k)
def vw (s:bG):Array Value:=#[I s.page,.string s.data,.slice s.ao s.eZ.length s.cap]
def rJ (l:List mL):Nat->Int
 | 0=>0
 | k+1=>(nX l k).off+((nX l k).bytes.size:Int)
def zo (e:Int) (f:mL):Bool:=decide (e<=f.off/\f.off<=16/\1<=(f.bytes.size:Int)/\(f.bytes.size:Int)<=16-f.off)
def fU (l:List mL):Nat->Bool
 | 0=>true
 | k+1=>fU l k&&zo (rJ l k) (nX l k)
def pE (s:bG):Bool:=decide (1<=s.page/\s.page<=255/\s.data.size=16)
def dw (s:bG):Bool:=pE s&&fU s.eZ s.eZ.length
def tS (d:ByteArray) (l:List mL):Nat->ByteArray
 | 0=>d
 | k+1=>iD (tS d l k) (nX l k).off.toNat (nX l k).bytes
def rI (s:bG):ByteArray:=tS s.data s.eZ s.eZ.length
def mK (s:bG):ByteArray×Int:=if dw s then (rI s,0) else (⟨#[]⟩,1)
theorem xj (l:List mL):∀(k n:Nat),k<=n->fU l k=false->fU l n=false
 | k,0,h,hk=>by grind
 | k,n+1,h,hk=>by
  by_cases e:k=n+1
  · grind
  · simp[fU,xj l k n (by omega) hk]
theorem zn (l:List mL) (k:Nat) (hk:k<l.length) (h:zo (rJ l k) (nX l k)=false):fU l l.length=false :=
 xj l (k+1) l.length (by omega) (by simp[fU,h])
theorem Ik (l:List mL):∀(n:Nat),fU l n=true->∀i,i<n->zo (rJ l i) (nX l i)=true
 | 0,_,i,hi=>by omega
 | n+1,h,i,hi=>by
  simp only[fU,eO] at h;by_cases e:i=n
  · grind
  · exact Ik l n h.1 i (by omega)
theorem A9 (e:Int) (f:mL):zo e f=true↔(e<=f.off/\f.off<=16/\1<=(f.bytes.size:Int)/\(f.bytes.size:Int)<=16-f.off):=by simp[zo]
theorem DJ {e:Int} {f:mL} (h:¬(e<=f.off/\f.off<=16/\1<=(f.bytes.size:Int)/\(f.bytes.size:Int)<=16-f.off)):zo e f=false:=by grind [zo]
theorem sY (l:List mL):∀k,fU l k=true->(k:Int)<=rJ l k/\rJ l k<=16
 | 0,_=>by simp[rJ]
 | k+1,h=>by
  simp only[fU,eO] at h;have ih:=sY l k h.1
  grind [A9,rJ]
theorem zY (d:ByteArray) (l:List mL) (hd:d.size=16):∀k,fU l k=true->(tS d l k).size=16
 | 0,_=>hd
 | k+1,h=>by
  simp only[fU,eO] at h;have ih:=zY d l hd k h.1;have hf:=(A9 _ _).1 h.2;have he:=sY l k h.1
  grind [tS,Je]
open Go.RowKit
def kN (a:aY) (n:Nat):List Int:=(List.range n).map (fun m:Nat=>a.page+(m:Int))
def fG (l:List aY):Nat->List Int
 | 0=>[]
 | i+1=>fG l i++kN (bC l i) (bC l i).aQ.toNat
def mM (l:List aY):List Int:=fG l l.length
def jN (l:List aY) (hs:List bG):Bool:=decide (hs.map (·.page)=mM l)
def oF (l:List aY):Nat->Bool
 | 0=>false
 | k+1=>oF l k || (bC l k).zero
def mA (l:List aY):Bool:=oF l l.length
def lD (hs:List bG):Nat->Bool
 | 0=>true
 | k+1=>lD hs k&&dw (bu hs k)
def sW (hs:List bG):Bool:=lD hs hs.length
def Bb (l:List aY) (en:Int):Bool:=(bW l (en.tdiv 16)).2&&(decide (2<=(bW l (en.tdiv 16)).1.jL)&&decide (en.tmod 8=0))
def lG (l:List aY) (hs:List bG) (en:Int):Int:=if bj l=0 then (if !mA l&&(jN l hs&&(sW hs&&Bb l en)) then 0 else 1) else bj l
theorem wh (a:aY) (n:Nat):kN a (n+1)=kN a n++[a.page+(n:Int)]:=by
 grind [kN,List.range_succ]
theorem OD (a:aY) (n m:Nat) (h:n<m):∃t,kN a m=kN a n++(a.page+(n:Int))::t:=by
 induction m with
 | zero=>omega
 | succ m ih =>
  by_cases e:n=m
  · simp_all [wh]
  grind [wh]
theorem EO (l:List aY) (i:Nat):∀n,i<=n->∃t,fG l n=fG l i++t
 | 0,h=>by simp_all
 | n+1,h=>by
  by_cases e:i=n+1
  · simp_all
  · obtain⟨t,ht⟩:=EO l i n (by omega)
    grind [fG]
theorem QE (l:List aY) (i:Nat) (hi:i<l.length) (n:Nat) (hn:n<(bC l i).aQ.toNat):∃t,mM l=(fG l i++kN (bC l i) n)++((bC l i).page+(n:Int))::t:=by
 obtain⟨t,ht⟩:=EO l (i+1) l.length (by omega);obtain⟨u,hu⟩:=OD (bC l i) n _ hn
 grind [mM,fG]
theorem Fq (l:List aY):∀(k n:Nat),k<=n->oF l k=true->oF l n=true
 | k,0,h,hk=>by grind
 | k,n+1,h,hk=>by
  by_cases e:k=n+1
  · grind
  · simp[oF,Fq l k n (by omega) hk]
theorem abv (l:List aY) (k:Nat) (hk:k<l.length) (h:(bC l k).zero=true):mA l=true:=Fq l (k+1) l.length (by omega) (by simp[oF,h])
theorem Kq (l:List aY):∀n,oF l n=false->∀i,i<n->(bC l i).zero=false
 | 0,_,i,hi=>by omega
 | n+1,h,i,hi=>by
  simp only[oF,J1] at h;by_cases e:i=n
  · grind
  · exact Kq l n h.1 i (by omega)
theorem A7 (l:List bG):∀(k n:Nat),k<=n->lD l k=false->lD l n=false
 | k,0,h,hk=>by grind
 | k,n+1,h,hk=>by
  by_cases e:k=n+1
  · grind
  · simp[lD,A7 l k n (by omega) hk]
theorem SQ (l:List bG) (k:Nat) (hk:k<l.length) (h:dw (bu l k)=false):sW l=false:=A7 l (k+1) l.length (by omega) (by simp[lD,h])
theorem Fs (l:List bG):∀n,lD l n=true->∀i,i<n->dw (bu l i)=true
 | 0,_,i,hi=>by omega
 | n+1,h,i,hi=>by
  simp only[lD,eO] at h;by_cases e:i=n
  · grind
  · exact Fs l n h.1 i (by omega)
theorem CW (hs:List bG) (c:Nat) (h:c<hs.length):(hs.take (c+1)).map (·.page)=(hs.take c).map (·.page)++[(bu hs c).page]:=by
 grind [List.take_succ_eq_append_getElem,bu]
theorem SZ {l:List aY} {hs:List bG} {pre t:List Int} {x:Int} (hp:(hs.take hs.length).map (·.page)=pre) (ho:mM l=pre++x::t):jN l hs=false:=by
 simp_all [jN]
theorem S0 {l:List aY} {hs:List bG} {pre t:List Int} {x:Int} {c:Nat} (hc:c<hs.length) (hp:(hs.take c).map (·.page)=pre) (ho:mM l=pre++x::t) (hx:(bu hs c).page≠x):jN l hs=false:=by
 unfold jN;refine jq (fun e=>?_);have h1:=CW hs c hc
 grind [List.take_append_drop,List.append_cancel_left]
theorem VV {l:List aY} {hs:List bG} {c:Nat} (hc:c<=hs.length) (hp:(hs.take c).map (·.page)=fG l l.length):jN l hs=decide (c=hs.length):=by
 grind [jN,mM,List.length_map]
def KJ (w:World) (b off:Nat) (l:List bG):Prop:=∀i,i<l.length ->
 w.cell? (Ad b (off+i*3))=some (I (bu l i).page)/\w.cell? (Ad b (off+i*3+1))=some (.string (bu l i).data)/\w.cell? (Ad b (off+i*3+2))=some (.slice (bu l i).ao (bu l i).eZ.length (bu l i).cap)/\qZ w (bu l i).ao (bu l i).eZ
theorem adh {w w':World} {b off:Nat} {l:List bG} (hb:Below w.heap.size w w') (hlt:b<w.heap.size) (h:KJ w b off l):KJ w' b off l:=fun i hi=>by
 obtain⟨c0,c1,c2,c3⟩:=h i hi
 grind [cM,qZ.below]
def jB (w:World) (ao:Option Addr) (l:List bG):Prop:=gU KJ w ao l
theorem jB.below {w w':World} {ao:Option Addr} {l:List bG} (h:jB w ao l) (hb:Below w.heap.size w w'):jB w' ao l:=gU.below (lie:=KJ) (fun hb hlt h=>adh hb hlt h) h hb
def rM (l:List bG):Prop:=b7 l.length/\∀k,k<l.length->DN (bu l k)
theorem SU {p:Int} (h:0<=p/\p<=3):p=0∨p=1∨p=2∨p=3:=by omega
theorem SY (l:List aY) (hc:bj l=0) (p:Int) (h:(bW l p).2=true):0<=(bW l p).1.jL/\(bW l p).1.jL<=3:=by
 by_cases e:∃k,k<l.length/\iU (bC l k) p=true
 · obtain⟨k,hk,hh⟩:=e;have:∃k,k<l.length/\iU (bC l k) p=true/\∀i,i<k->iU (bC l i) p=false:=by
    induction k using Nat.strongRecOn with
    | _ k ih =>
     grind
   obtain⟨k,hk,h1,h2⟩:=this;rw[tJ l p k hk h2 h1]
   simp_all [iy,gZ]
 grind [uq]
open Go.RowKit
def rX (hs:List bG) (k:Nat):Bool:=k==0 || decide ((bu hs (k-1)).page<(bu hs k).page)
def ki (hs:List bG):Nat->Bool
 | 0=>true
 | k+1=>ki hs k&&(dw (bu hs k)&&rX hs k)
def ia (hs:List bG):Bool:=ki hs hs.length
theorem EM (l:List bG):∀(k n:Nat),k<=n->ki l k=false->ki l n=false
 | k,0,h,hk=>by grind
 | k,n+1,h,hk=>by
  by_cases e:k=n+1
  · grind
  · simp[ki,EM l k n (by omega) hk]
theorem YZ (l:List bG) (k:Nat) (hk:k<l.length) (h:(dw (bu l k)&&rX l k)=false):ia l=false:=EM l (k+1) l.length (by omega) (by grind [ki])
theorem qY (l:List bG):∀n,ki l n=true->∀i,i<n->dw (bu l i)=true/\rX l i=true
 | 0,_,i,hi=>by omega
 | n+1,h,i,hi=>by
  simp only[ki,eO] at h;by_cases e:i=n
  · grind
  · exact qY l n h.1 i (by omega)
theorem Ku (l:List bG):∀n,(∀i,i<n->dw (bu l i)=true/\rX l i=true)->ki l n=true
 | 0,_=>rfl
 | n+1,h=>by
  simp only[ki,eO];exact⟨Ku l n (fun i hi=>h i (by omega)),h n (by omega)⟩
def DI (l:List aY) (hs:List bG) (k:Nat):Bool:=(bW l (bu hs k).page).2&&!(bW l (bu hs k).page).1.zero
def zm (l:List aY) (hs:List bG):Nat->Bool
 | 0=>true
 | k+1=>zm l hs k&&DI l hs k
theorem DG (l:List aY) (hs:List bG):∀n,zm l hs n=true->∀i,i<n->DI l hs i=true
 | 0,_,i,hi=>by omega
 | n+1,h,i,hi=>by
  simp only[zm,eO] at h;by_cases e:i=n
  · grind
  · exact DG l hs n h.1 i (by omega)
theorem QH (l:List aY) (hs:List bG):∀n,(∀i,i<n->DI l hs i=true)->zm l hs n=true
 | 0,_=>rfl
 | n+1,h=>by
  simp only[zm,eO];exact⟨QH l hs n (fun i hi=>h i (by omega)),h n (by omega)⟩
def Hm (l:List aY) (hs:List bG) (en:Int):Int:=if bj l=0 then (if decide ((hs.length:Int)=kY l l.length)&&(ia hs&&(zm l hs hs.length&&Bb l en)) then 0 else 1) else bj l
/-! the pages of areas that are right rise -/
def lI (L:List Int):Prop:=L.Pairwise (·<·)
theorem xS (a:aY) (n:Nat) (x:Int):x∈kN a n↔a.page<=x/\x<a.page+(n:Int):=by
 unfold kN;rw[vM];constructor
 · grind
 · rintro⟨h1,h2⟩;exact⟨(x-a.page).toNat,uR.2 (by omega),by omega⟩
theorem CV (a:aY):∀n,lI (kN a n)
 | 0=>by simp[kN,lI]
 | n+1=>by
  rw[wh];unfold lI;rw[Hc];refine⟨CV a n,by simp,fun x hx y hy=>?_⟩
  grind [xS]
theorem Mz (a:aY) (n:Nat):(kN a n).length=n:=by simp[kN]
theorem QF (l:List aY) (hc:bj l=0) (i:Nat) (hi:i+1<l.length):(bC l i).page+(bC l i).aQ<=(bC l (i+1)).page:=by
 have h:=gZ l hc (i+1) hi
 grind [nH,mz,aY.wX]
theorem Cg (l:List aY) (hc:bj l=0):∀i,i<=l.length->∀x∈fG l i,∀j,j<l.length->i<=j->x<(bC l j).page
 | 0,_,x,hx,j,_,_=>by grind [fG]
 | i+1,hi,x,hx,j,hj,hij=>by
  simp only[fG,l5] at hx;rcases hx with hx | hx
  · exact Cg l hc i (by omega) x hx j hj (by omega)
  · have hk:=iy l i (gZ l hc i (by omega));have h1:=(xS _ _ _).1 hx;have step:∀d,i+1+d<l.length->(bC l i).page+(bC l i).aQ<=(bC l (i+1+d)).page:=by
     intro d;induction d with
     | zero=>simp_all [QF]
     | succ d ih =>
      intro h;have h2:=ih (by omega);have h3:=QF l hc (i+1+d) h;have h4:=iy l (i+1+d) (gZ l hc (i+1+d) (by omega))
      grind
    have:=step (j-(i+1)) (by omega)
    grind
theorem vY (l:List aY) (hc:bj l=0):∀i,i<=l.length->lI (fG l i)
 | 0,_=>by simp[fG,lI]
 | i+1,hi=>by
  simp only[fG];unfold lI;rw[Hc];refine⟨vY l hc i (by omega),CV _ _,fun x hx y hy=>?_⟩;have h1:=Cg l hc i (by omega) x hx i (by omega) (aD _)
  grind [xS]
theorem vZ (l:List aY) (hc:bj l=0):∀i,i<=l.length->((fG l i).length:Int)=kY l i
 | 0,_=>rfl
 | i+1,hi=>by
  have ih:=vZ l hc i (by omega);have hk:=iy l i (gZ l hc i (by omega))
  grind [fG,kY,Mz]
theorem sX (l:List aY) (x:Int):∀i,x∈fG l i↔∃k,k<i/\iU (bC l k) x=true
 | 0=>by simp[fG]
 | i+1=>by
  simp only[fG,l5];rw[sX l x i,xS]
  grind [iU,aY.wX]
theorem vV {x:Int} {L:List Int} (h:lI (x::L)):lI L/\∀z∈L,x<z:=⟨(AW.1 h).2,(AW.1 h).1⟩
theorem Cf:∀(K L:List Int),lI L->lI K->(∀z∈L,z∈K)->L.length<=K.length
 | [],L,_,_,hm=>by
  cases L with
  | nil=>omega
  | cons x L=>grind [List.mem_cons_self]
 | y::K,L,hL,hK,hm=>by
  cases L with
  | nil=>grind
  | cons x L =>
   obtain⟨hL1,hL2⟩:=vV hL;obtain⟨hK1,hK2⟩:=vV hK;by_cases e:x=y
   · subst e;have:=Cf K L hL1 hK1 (fun z hz=>by
      grind)
     grind
   · have hx:x∈K:=by
      grind
     have hyx:=hK2 x hx;have:=Cf K (x::L) hL hK1 (fun z hz=>by
      grind)
     grind
theorem Kt:∀(L K:List Int),lI L->lI K->(∀z∈L,z∈K)->K.length<=L.length->L=K
 | [],K,_,_,_,hl=>by
  simp_all
 | x::L,K,hL,hK,hm,hl=>by
  cases K with
  | nil=>grind [List.mem_cons_self]
  | cons y K =>
   obtain⟨hL1,hL2⟩:=vV hL;obtain⟨hK1,hK2⟩:=vV hK;have e:x=y:=by
    rcases uQ.1 (hm x Dy) with g | g
    · exact g
    · have hyx:=hK2 x g;have:=Cf K (x::L) hL hK1 (fun z hz=>by
       grind)
      grind
   subst e;rw[Kt L K hL1 hK1 (fun z hz=>by
    grind) (by grind)]
theorem Fu (hs:List bG) (h:ia hs=true):lI (hs.map (·.page)):=by
 have step:∀i j,i<j->j<hs.length->(bu hs i).page<(bu hs j).page:=by
  intro i j hij hj;induction j with
  | zero=>omega
  | succ j ih =>
   have h1:=(qY hs hs.length h (j+1) hj).2
   grind [rX]
 grind [lI,List.pairwise_iff_getElem,bu]
theorem QC (hs:List bG) (h:lI (hs.map (·.page))) (k:Nat) (hk:k<hs.length):rX hs k=true:=by
 grind [rX,lI,List.pairwise_iff_getElem,bu]
theorem Ns (l:List aY) (p:Int) (k:Nat) (hk:k<l.length) (h:iU (bC l k) p=true):∃j,j<l.length/\bW l p=(bC l j,true):=by
 induction k using Nat.strongRecOn with
 | _ k ih =>
  grind [tJ]
theorem VU (l:List aY) (p:Int) (h:(bW l p).2=true):∃k,k<l.length/\iU (bC l k) p=true:=by
 grind [uq]
theorem ad4 (hs:List bG) (k:Nat) (h:k<hs.length):(bu hs k).page∈hs.map (·.page):=by
 grind [bu]
theorem MB (hs:List bG) (x:Int) (h:x∈hs.map (·.page)):∃k,k<hs.length/\(bu hs k).page=x:=by
 obtain⟨s,hs1,rfl⟩:=vM.1 h;obtain⟨k,hk,e⟩:=List.getElem_of_mem hs1;refine⟨k,hk,?_⟩
 grind [bu]
theorem QI (l:List aY) (hc:bj l=0) (p:Int) (j k:Nat) (hj:j<l.length) (hk:k<l.length) (h1:iU (bC l j) p=true) (h2:iU (bC l k) p=true):j=k:=by
 have key:∀j k,j<k->k<l.length->iU (bC l j) p=true->iU (bC l k) p=true->False:=by
  intro j k hjk hk h1 h2;have hm:p∈fG l k:=(sX l p k).2 ⟨j,hjk,h1⟩;have:=Cg l hc k (by omega) p hm k hk (aD _)
  grind [iU]
 grind
theorem VT (l:List aY) (hs:List bG) (hc:bj l=0) :
  (!mA l&&(jN l hs&&sW hs))=(decide ((hs.length:Int)=kY l l.length)&&(ia hs&&zm l hs hs.length)):=by
 rw[Bool.eq_iff_iff];simp only[eO,Bool.not_eq_true',lh];constructor
 · rintro⟨hz,he,hsh⟩;have he':hs.map (·.page)=mM l:=o5 he;have hlen:=ed List.length he';rw[ie] at hlen;have hr:lI (hs.map (·.page)):=by rw[he'];exact vY l hc l.length (aD _)
   refine⟨by rw[hlen];exact vZ l hc l.length (aD _),?_,?_⟩
   · exact Ku hs hs.length (fun i hi=>⟨Fs hs hs.length hsh i hi,QC hs hr i hi⟩)
   · refine QH l hs hs.length (fun i hi=>?_);have hm:(bu hs i).page∈fG l l.length:=by
      have:=ad4 hs i hi;rw[he'] at this;exact this
     obtain⟨k,hk,hh⟩:=(sX l _ _).1 hm;obtain⟨j,hj,e⟩:=Ns l _ k hk hh;unfold DI;rw[e];simp[Kq l l.length hz j hj]
 · rintro⟨hlen,hr,hin⟩;have hsub:∀z∈hs.map (·.page),z∈mM l:=fun z hz=>by
    obtain⟨k,hk,rfl⟩:=MB hs z hz;have:=DG l hs hs.length hin k hk;unfold DI at this;simp only[eO] at this;obtain⟨j,hj,hh⟩:=VU l _ this.1;exact(sX l _ _).2 ⟨j,hj,hh⟩
   have he':hs.map (·.page)=mM l:=Kt _ _ (Fu hs hr) (vY l hc l.length (aD _)) hsub (by
    grind [vZ,mM])
   refine⟨?_,ic he',?_⟩
   · cases hz:mA l
     · rfl
     · exfalso;have:∃i,i<l.length/\(bC l i).zero=true:=by
        by_cases g:∃i,i<l.length/\(bC l i).zero=true
        · exact g
        · have key:∀n,n<=l.length->oF l n=false:=by
           intro n;induction n with
           | zero=>intro _;rfl
           | succ n ih =>
            grind [oF]
          grind [mA]
       obtain⟨i,hi,hzi⟩:=this;have hk:=iy l i (gZ l hc i hi);have hh:iU (bC l i) (bC l i).page=true:=by
        grind [iU,aY.wX]
       have hm:(bC l i).page∈hs.map (·.page):=by
        rw[he'];exact(sX l _ _).2 ⟨i,hi,hh⟩
       obtain⟨k,hk1,hk2⟩:=MB hs _ hm;have au6:=DG l hs hs.length hin k hk1
       grind [DI,QI,tJ]
   · have key:∀n,n<=hs.length->lD hs n=true:=by
      intro n;induction n with
      | zero=>intro _;rfl
      | succ n ih =>
       intro hn;simp only[lD,eO];exact⟨ih (by omega),(qY hs hs.length hr n (by omega)).1⟩
     exact key hs.length (aD _)
theorem Im (l:List aY) (hs:List bG) (en:Int):lG l hs en=Hm l hs en:=by
 grind [lG,Hm,VT]
end Go.Proofs.YtlgoihmkgaaemaaGreat
