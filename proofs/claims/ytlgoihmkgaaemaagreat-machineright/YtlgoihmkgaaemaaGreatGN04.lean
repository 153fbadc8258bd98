import Derived.Test.YtlgoihmkgaaemaaGreatGN03
import Derived.Lib.Walk
import Derived.Lib.BufferWrite
set_option maxHeartbeats 20000000
set_option linter.unusedVariables false
set_option maxRecDepth 100000
set_option linter.unusedSimpArgs false
namespace Go.Proofs.YtlgoihmkgaaemaaGreat
open Go.RowKit
variable {σ:Type}
structure dh (Ok:σ->List Bool->Prop) (st:dE σ):Prop where
 mem:Ok st.mem (b7 st.ps)
 fit:∀k,k<st.ps.length->sH (aN st.ps k)
 right:∀k,k<st.ps.length->fA (aN st.ps k)=true
 words:∀x∈st.out,0<=x.proc/\x.proc<(st.ps.length:Int)
 out:st.out.length<=2000
theorem Bz (ps:List bT) (k j:Nat) (p:bT) (hk:k<ps.length):aN (ps.set k p) j=if j=k then p else aN ps j:=by
 unfold aN;rw[fG,fG,G5];by_cases h:j=k
 · rw[aC h,aC h.symm];subst h;rw[aC hk];rfl
 · rw[aA h,aA (fun g=>h g.symm)]
theorem Ew (ps:List bT) (p:bT) (j:Nat):aN (ps++[p]) j=if j<ps.length then aN ps j else if j=ps.length then p else Cy:=by
 unfold aN;rw[fG,fG];by_cases h:j<ps.length
 · rw[aC h,G9 h]
 · rw[aA h,ze (by omega)];by_cases h2:j=ps.length
   · rw[aC h2,h2,GY];rfl
   · rw[aA h2];obtain⟨d,hd⟩:∃d,j-ps.length=d+1:=⟨j-ps.length-1,by omega⟩;rw[hd];rfl
theorem TM (i:ed) (ps:List bT):o9 i ps.length ps=ps:=by
 unfold o9;rw[vK,UL];simp
theorem Xk (i:ed) (ps:List bT) (n:Nat) (h:n=ps.length):o9 i n ps=ps:=by rw[h];exact TM i ps
theorem Xj (i:ed) (ps:List bT) (p:bT) (n:Nat) (h:n=ps.length):o9 i n (ps++[p])=ps++[cZ p i 0]:=by
 subst h;unfold o9;rw[List.take_left,List.drop_left];rfl
theorem aak (ps:List bT) (p q:bT) (k:Nat) (h:k<ps.length):(ps++[p]).set k q=ps.set k q++[p]:=by
 rw[JS _ _ h]
section
variable {Ok:σ->List Bool->Prop}
theorem BB {st:dE σ} {m:σ} (h:dh Ok st) (hm:Ok m (b7 st.ps)):dh Ok { st with mem:=m }:=⟨hm,h.fit,h.right,h.words,h.out⟩
theorem ir {st:dE σ} (k:Nat) (hk:k<st.ps.length) (h1:(aN st.ps k).st=1):(b7 st.ps).getD k false=true:=by
 rw[I1,gZ hk,gZ h1];rfl
theorem Ru {st:dE σ} (h:dh Ok st) (k:Nat) (hk:k<st.ps.length) (h1:(aN st.ps k).st=1) {i:ed} {v:Int} (hv:cO v) (hb:i.bad=false) (hf:i.fits) {m:σ} (hm:Ok m (if i.op=16/\i.m=6 then (b7 st.ps).set k false else b7 st.ps)) :
  dh Ok { st with mem:=m,ps:=st.ps.set k (cZ (aN st.ps k) i v) }:=by
 have hlen:(st.ps.set k (cZ (aN st.ps k) i v)).length=st.ps.length:=fJ;refine⟨?_,fun j hj=>?_,fun j hj=>?_,fun x hx=>?_,h.out⟩
 · show Ok m (b7 (st.ps.set k (cZ (aN st.ps k) i v)));rw[Al];by_cases c:i.op=16/\i.m=6
   · rw[aC c] at hm;rw[Xi c.1 c.2];exact hm
   · rw[aA c] at hm;rw[Jx hb c,gZ h1];have e:(b7 st.ps).set k true=b7 st.ps:=by
      apply AJ;intro j;rw[G5];by_cases e:k=j
      · subst e;have hk':k<(b7 st.ps).length:=by unfold b7;rw[ia];exact hk
        have hg:=ir k hk h1;rw[fG,lW hk'] at hg;rw[aC rfl,aC hk',lW hk'];exact dI some hg.symm
      · rw[aA e]
     rw[e];exact hm
 · have hj':j<st.ps.length:=hlen ▸ hj;show sH (aN (st.ps.set k _) j);rw[Bz _ _ _ _ hk];split
   · exact N0 (h.fit k hk) hv hb hf
   · exact h.fit j hj'
 · have hj':j<st.ps.length:=hlen ▸ hj;show fA (aN (st.ps.set k _) j)=true;rw[Bz _ _ _ _ hk];split
   · exact I2 hb h1 (h.right k hk)
   · exact h.right j hj'
 · have:=h.words x hx;show 0<=x.proc/\x.proc<((st.ps.set k _).length:Int);rw[hlen];exact this
theorem acA {st:dE σ} (h:dh Ok st) {p:bT} (hf:sH p) (hr:fA p=true) {m:σ} (hm:Ok m (b7 st.ps++[decide (p.st=1)])):dh Ok { st with mem:=m,ps:=st.ps++[p] }:=by
 have hlen:(st.ps++[p]).length=st.ps.length+1:=by simp
 refine⟨?_,fun j hj=>?_,fun j hj=>?_,fun x hx=>?_,h.out⟩
 · show Ok m (b7 (st.ps++[p]));rw[OL];exact hm
 · have hj':j<st.ps.length+1:=hlen ▸ hj;show sH (aN (st.ps++[p]) j);rw[Ew];by_cases c:j<st.ps.length
   · rw[aC c];exact h.fit j c
   · rw[aA c,aC (by omega)];exact hf
 · have hj':j<st.ps.length+1:=hlen ▸ hj;show fA (aN (st.ps++[p]) j)=true;rw[Ew];by_cases c:j<st.ps.length
   · rw[aC c];exact h.right j c
   · rw[aA c,aC (by omega)];exact hr
 · have:=h.words x hx;show 0<=x.proc/\x.proc<((st.ps++[p]).length:Int);rw[hlen];omega
theorem aal (s:ByteArray):cO (Ex s):=by
 unfold Ex;split
 · exact pR _
 · unfold cO;omega
theorem BC {i:ed} (hb:i.bad=false) (h:i.op=9∨i.op=10):1<=i.c/\i.c<=8:=by
 unfold ed.bad at hb;rw[aA (by omega),aA (by omega),aA (by omega),aA (by omega),aA (by omega),aC h] at hb;unfold ot at hb;simp at hb;omega
theorem Ev (v n:Int):(mS v n).size=n.toNat:=by
 unfold mS;show(Lib.leBytes n.toNat (mD v)).toArray.size=n.toNat
 simp[Lib.leBytes_length]
structure aiG (Ok:σ->List Bool->Prop) (st:dE σ) (k:Nat) (i:ed) (y:(Int×(Int×Int))×dE σ):Prop where
 fault:¬y.1.2.1=0->y.2.ps=st.ps/\dh Ok y.2
 plain:y.1.2.1=0->(y.2.ps=st.ps/\Ok y.2.mem (if i.op=16/\i.m=6 then (b7 st.ps).set k false else b7 st.ps)∨(¬(i.op=16/\i.m=6))/\y.2.ps=st.ps++[aN st.ps k]/\Ok y.2.mem (b7 st.ps++[true]))/\cO y.1.1/\i.bad=false
 words:∀x∈y.2.out,0<=x.proc/\x.proc<(st.ps.length:Int)
 out:y.2.out.length<=st.out.length+1
 kind:¬y.1.2.1=0->1<=y.1.2.1/\y.1.2.1<=4
theorem GA {o:gH σ} (ho:qE o Ok) {st:dE σ} (h:dh Ok st) (k:Nat) (hk:k<st.ps.length) (h1:(aN st.ps k).st=1) (i:ed) (hf:i.fits):aiG Ok st k i (gy o st k i):=by
 have hl:=ir k hk h1;have hi0:cO 0:=by unfold cO;omega
 have h4:=ho.few _ _ h.mem;have hps:st.ps.length<=4:=by unfold b7 at h4;rw[ia] at h4;exact h4
 unfold gy;by_cases hb:i.bad=true
 · rw[aC hb];exact⟨fun _=>⟨rfl,h⟩,fun g=>by simp at g,h.words,kV _,fun _=>by simp⟩
 · have hbf:i.bad=false:=by simpa using hb
   rw[aA hb];by_cases c9:i.op=9
   · rw[aC c9];have hm:=ho.load st.mem _ k (wrap64 ((aN st.ps k).r i.b.toNat+i.m)) i.c 0 h.mem hl;have hft:=ho.fault st.mem _ k (wrap64 ((aN st.ps k).r i.b.toNat+i.m)) i.c 0 h.mem hl;exact⟨fun _=>⟨rfl,BB h hm⟩,fun g=>⟨.inl ⟨rfl,by rw[aA (by omega)];exact hm⟩,aal _,hbf⟩,h.words,kV _,fun g=>⟨by have:¬(o.load st.mem k (wrap64 ((aN st.ps k).r i.b.toNat+i.m)) i.c 0).1.2.1=0:=g;show 1<=(o.load st.mem k (wrap64 ((aN st.ps k).r i.b.toNat+i.m)) i.c 0).1.2.1;omega,hft.2.1⟩⟩
   · rw[aA c9];by_cases c10:i.op=10
     · rw[aC c10];have hm:=ho.store st.mem _ k (wrap64 ((aN st.ps k).r i.b.toNat+i.m)) (mS ((aN st.ps k).r i.a.toNat) i.c) h.mem hl (by rw[Ev];have:=BC hbf (.inr c10);omega) (by rw[Ev];have:=BC hbf (.inr c10);omega);have hft:=ho.P5 st.mem _ k (wrap64 ((aN st.ps k).r i.b.toNat+i.m)) (mS ((aN st.ps k).r i.a.toNat) i.c) h.mem hl;exact⟨fun _=>⟨rfl,BB h hm⟩,fun g=>⟨.inl ⟨rfl,by rw[aA (by omega)];exact hm⟩,hi0,hbf⟩,h.words,kV _,fun g=>⟨by have:¬(o.store st.mem k (wrap64 ((aN st.ps k).r i.b.toNat+i.m)) (mS ((aN st.ps k).r i.a.toNat) i.c)).1.1=0:=g;show 1<=(o.store st.mem k (wrap64 ((aN st.ps k).r i.b.toNat+i.m)) (mS ((aN st.ps k).r i.a.toNat) i.c)).1.1;omega,hft.2.1⟩⟩
     · rw[aA c10];by_cases c16:i.op=16
       · rw[aC c16];unfold fy;by_cases d1:i.m=1
         · rw[aC d1];refine⟨fun g=>(g rfl).elim,fun _=>⟨.inl ⟨rfl,by rw[aA (by omega)];exact h.mem⟩,hi0,hbf⟩,fun x hx=>?_,by simp,fun g=>(g rfl).elim⟩;rcases lV.1 hx with g | g
           · exact h.words x g
           · rw[List.mem_singleton.1 g];show 0<=(k:Int)/\(k:Int)<_;omega
         · rw[aA d1];by_cases d2:i.m=2
           · rw[aC d2];have hm:=ho.map st.mem _ k ((aN st.ps k).r 0) ((aN st.ps k).r 1) ((aN st.ps k).r 2) h.mem hl;have hv:=ho.afj st.mem _ k ((aN st.ps k).r 0) ((aN st.ps k).r 1) ((aN st.ps k).r 2) h.mem hl;exact⟨fun g=>(g rfl).elim,fun _=>⟨.inl ⟨rfl,by rw[aA (by omega)];exact hm⟩,by unfold cO;show -9223372036854775808<=(o.map st.mem k ((aN st.ps k).r 0) ((aN st.ps k).r 1) ((aN st.ps k).r 2)).1/\(o.map st.mem k ((aN st.ps k).r 0) ((aN st.ps k).r 1) ((aN st.ps k).r 2)).1<=_;omega,hbf⟩,h.words,kV _,fun g=>(g rfl).elim⟩
           · rw[aA d2];by_cases d3:i.m=3
             · rw[aC d3];have hm:=ho.pd st.mem _ k ((aN st.ps k).r 0) ((aN st.ps k).r 1) h.mem hl;have hv:=ho.PL st.mem _ k ((aN st.ps k).r 0) ((aN st.ps k).r 1) h.mem hl;exact⟨fun g=>(g rfl).elim,fun _=>⟨.inl ⟨rfl,by rw[aA (by omega)];exact hm⟩,by unfold cO;show -9223372036854775808<=(o.pd st.mem k ((aN st.ps k).r 0) ((aN st.ps k).r 1)).1/\(o.pd st.mem k ((aN st.ps k).r 0) ((aN st.ps k).r 1)).1<=_;omega,hbf⟩,h.words,kV _,fun g=>(g rfl).elim⟩
             · rw[aA d3];by_cases d4:i.m=4
               · rw[aC d4];have hm:=ho.jt st.mem _ k ((aN st.ps k).r 0) ((aN st.ps k).r 1) ((aN st.ps k).r 2) h.mem hl;have hv:=ho.Fa st.mem _ k ((aN st.ps k).r 0) ((aN st.ps k).r 1) ((aN st.ps k).r 2) h.mem hl;exact⟨fun g=>(g rfl).elim,fun _=>⟨.inl ⟨rfl,by rw[aA (by omega)];exact hm⟩,by unfold cO;show -9223372036854775808<=(o.jt st.mem k ((aN st.ps k).r 0) ((aN st.ps k).r 1) ((aN st.ps k).r 2)).1/\(o.jt st.mem k ((aN st.ps k).r 0) ((aN st.ps k).r 1) ((aN st.ps k).r 2)).1<=_;omega,hbf⟩,h.words,kV _,fun g=>(g rfl).elim⟩
               · rw[aA d4];by_cases d5:i.m=5
                 · rw[aC d5];by_cases f0:(o.fork st.mem k).1=0
                   · rw[aC f0];have hm:=ho.JW st.mem _ k h.mem hl f0;exact⟨fun g=>(g rfl).elim,fun _=>⟨.inr ⟨by omega,rfl,hm⟩,by unfold cO;show -9223372036854775808<=(st.ps.length:Int)/\(st.ps.length:Int)<=_;omega,hbf⟩,h.words,kV _,fun g=>(g rfl).elim⟩
                   · rw[aA f0];have hm:=ho.P4 st.mem _ k h.mem hl f0;exact⟨fun g=>(g rfl).elim,fun _=>⟨.inl ⟨rfl,by rw[aA (by omega)];exact hm⟩,by unfold cO;show -9223372036854775808<=(-1:Int)/\(-1:Int)<=_;omega,hbf⟩,h.words,kV _,fun g=>(g rfl).elim⟩
                 · rw[aA d5];by_cases d6:i.m=6
                   · rw[aC d6];have hm:=ho.drop st.mem _ k h.mem hl;exact⟨fun g=>(g rfl).elim,fun _=>⟨.inl ⟨rfl,by rw[aC ⟨c16,d6⟩];exact hm⟩,hi0,hbf⟩,h.words,kV _,fun g=>(g rfl).elim⟩
                   · rw[aA d6];exact⟨fun g=>(g rfl).elim,fun _=>⟨.inl ⟨rfl,by rw[aA (by omega)];exact h.mem⟩,hi0,hbf⟩,h.words,kV _,fun g=>(g rfl).elim⟩
       · rw[aA c16];exact⟨fun g=>(g rfl).elim,fun _=>⟨.inl ⟨rfl,by rw[aA (by omega)];exact h.mem⟩,hi0,hbf⟩,h.words,kV _,fun g=>(g rfl).elim⟩
end
open Go.RowKit
variable {σ:Type} {Ok:σ->List Bool->Prop}
structure aeL (Ok:σ->List Bool->Prop) (st:dE σ) (r:(Int×Int)×dE σ):Prop where
 ok:dh Ok r.2
 same:¬r.1.1=0->r.2.ps=st.ps
 kind:¬r.1.1=0->1<=r.1.1/\r.1.1<=4
theorem Jy {o:gH σ} (ho:qE o Ok) {st:dE σ} (h:dh Ok st) (hout:st.out.length<2000) (k:Nat) (hk:k<st.ps.length) (h1:(aN st.ps k).st=1):aeL Ok st (mC o st k):=by
 have hl:=ir k hk h1;have hm:=ho.load st.mem _ k (aN st.ps k).pc 8 2 h.mem hl;have hft:=ho.fault st.mem _ k (aN st.ps k).pc 8 2 h.mem hl;have hsz:=ho.size st.mem _ k (aN st.ps k).pc 8 2 h.mem hl (by omega) (by omega);unfold mC;simp only;obtain⟨x,hx⟩:=ex (o.load st.mem k (aN st.ps k).pc 8 2);rw[<- hx] at hm hft hsz ⊢;clear hx;have g1:dh Ok { st with mem:=x.2 }:=BB h hm;by_cases c:x.1.2.1=0
 · rw[aA (fun g=>g c)];have hfits:(iG x.1.1).fits:=AZ _ (by have:=hsz c;omega);obtain⟨i,hi⟩:=ex (iG x.1.1);rw[<- hi] at hfits ⊢;have hL:=GA ho g1 k hk h1 i hfits;obtain⟨y,hy⟩:=ex (gy o { st with mem:=x.2 } k i);rw[<- hy] at hL ⊢;clear hi hy;by_cases d:y.1.2.1=0
   · rw[aA (fun g=>g d)];obtain⟨hp,hv,hb⟩:=hL.plain d;have hw:∀z∈y.2.out,0<=z.proc/\z.proc<(st.ps.length:Int):=hL.words;have Ff:y.2.out.length<=2000:=by have:=hL.out;simp only at this;omega
     refine⟨?_,fun g=>(g rfl).elim,fun g=>(g rfl).elim⟩;rcases hp with⟨e,hm2⟩ | ⟨hne,e,hm2⟩
     · have e':y.2.ps=st.ps:=e;have hlen:st.ps.length=(y.2.ps.set k (cZ (aN y.2.ps k) i y.1.1)).length:=by rw[fJ,e']
       rw[Xk _ _ _ hlen,e'];have base:dh Ok { st with out:=y.2.out }:=⟨h.mem,h.fit,h.right,hw,Ff⟩;exact Ru base k hk h1 hv hb hfits (m:=y.2.mem) hm2
     · have e':y.2.ps=st.ps++[aN st.ps k]:=e;have hlen:st.ps.length=(st.ps.set k (cZ (aN st.ps k) i y.1.1)).length:=by rw[fJ]
       have hpk:aN (st.ps++[aN st.ps k]) k=aN st.ps k:=by rw[Ew,aC hk]
       rw[e',hpk,aak _ _ _ _ hk,Xj _ _ _ _ hlen];have hcs:(cZ (aN st.ps k) i 0).st=1:=by rw[Jx hb hne];exact h1
       have base:dh Ok { st with out:=y.2.out }:=⟨h.mem,h.fit,h.right,hw,Ff⟩;have hz:cO 0:=by unfold cO;omega
       have d1:=Ru base k hk h1 hv hb hfits (m:=st.mem) (by rw[aA hne];exact h.mem);have hr:b7 (st.ps.set k (cZ (aN st.ps k) i y.1.1))=b7 st.ps:=by
        rw[Al,Jx hb hne,gZ h1];apply AJ;intro j;rw[G5];by_cases e:k=j
        · subst e;have hk':k<(b7 st.ps).length:=by unfold b7;rw[ia];exact hk
          have hg:=ir k hk h1;rw[fG,lW hk'] at hg;rw[aC rfl,aC hk',lW hk'];exact dI some hg.symm
        · rw[aA e]
       exact acA d1 (N0 (h.fit k hk) hz hb hfits) (I2 hb h1 (h.right k hk)) (m:=y.2.mem) (by
        show Ok y.2.mem (b7 (st.ps.set k (cZ (aN st.ps k) i y.1.1))++_);rw[hr,hcs];exact hm2)
   · rw[aC d];obtain⟨e,g2⟩:=hL.fault d;exact⟨g2,fun _=>e,fun _=>hL.kind d⟩
 · rw[aC c];exact⟨g1,fun _=>rfl,fun _=>⟨by show 1<=x.1.2.1;omega,hft.2.1⟩⟩
theorem TL {p:bT} {x:Int×Int} (h:p.st=1) (hr:fA p=true) (h1:1<=x.1) (h4:x.1<=4):fA (yG p x)=true:=by
 have h2:p.cd=0:=by
  unfold fA at hr;rw[aC h] at hr;simp only[eQ,kX] at hr;exact hr.1
 unfold fA yG;simp only;rw[aA (by decide),aA (by decide),aC trivial,h2,gZ (show 1<=x.1/\x.1<=4 from⟨h1,h4⟩)];rfl
theorem acz {o:gH σ} (ho:qE o Ok) {st:dE σ} (h:dh Ok st) (pick:Int):dh Ok (jz o st pick).2:=by
 unfold jz;by_cases c:0<=pick/\pick<(st.ps.length:Int)
 · rw[aA (fun g=>g c)];by_cases c1:(aN st.ps pick.toNat).st=1
   · rw[aA (fun g=>g c1)];by_cases c2:2000<=st.out.length
     · rw[aC c2];exact h
     · rw[aA c2];have hk:pick.toNat<st.ps.length:=by omega
       have hd:=Jy ho h (by omega) pick.toNat hk c1;simp only;obtain⟨r,hr⟩:=ex (mC o st pick.toNat);rw[<- hr] at hd ⊢;clear hr;by_cases c3:r.1.1=0
       · rw[aC c3];exact hd.ok
       · rw[aA c3];have e:=hd.same c3;have hk2:pick.toNat<r.2.ps.length:=by rw[e];exact hk
         have c4:(aN r.2.ps pick.toNat).st=1:=by rw[e];exact c1
         have hlen:(r.2.ps.set pick.toNat (yG (aN r.2.ps pick.toNat) r.1)).length=r.2.ps.length:=fJ;refine⟨?_,fun j hj=>?_,fun j hj=>?_,fun x hx=>?_,hd.ok.out⟩
         · show Ok _ (b7 (r.2.ps.set _ _));rw[Al];exact ho.drop _ _ _ hd.ok.mem (ir _ hk2 c4)
         · have hj':j<r.2.ps.length:=hlen ▸ hj;show sH (aN (r.2.ps.set _ _) j);rw[Bz _ _ _ _ hk2];split
           · exact hd.ok.fit _ hk2
           · exact hd.ok.fit j hj'
         · have hj':j<r.2.ps.length:=hlen ▸ hj;show fA (aN (r.2.ps.set _ _) j)=true;rw[Bz _ _ _ _ hk2];split
           · exact TL c4 (hd.ok.right _ hk2) (hd.kind c3).1 (hd.kind c3).2
           · exact hd.ok.right j hj'
         · have:=hd.ok.words x hx;show 0<=x.proc/\x.proc<((r.2.ps.set _ _).length:Int);rw[hlen];exact this
   · rw[aC c1];exact h
 · rw[aC c];exact h
theorem vw {o:gH σ} (ho:qE o Ok) {st:dE σ} (h:dh Ok st) (picks:List Int):∀n s,dG o picks n (some st)=some s->dh Ok s
 | 0,s,e=>by injection e with e;rw[<- e];exact h
 | n+1,s,e=>by
  unfold dG at e;cases hq:dG o picks n (some st) with
  | none=>rw[hq] at e;cases e
  | some q =>
   rw[hq] at e;have hq':=vw ho h picks n q hq;simp only at e;by_cases c:(jz o q (picks.getD n 0)).1=2
   · rw[aC c] at e;cases e
   · rw[aA c] at e;injection e with e;rw[<- e];exact acz ho hq' _
open Go.RowKit
variable {σ τ:Type}
structure Ct (o:gH σ) (o':gH τ) (Ok:σ->List Bool->Prop) (f:σ->τ):Prop where
 load:∀s fl k a n way,Ok s fl->fl.getD k false=true->1<=n->n<=8->o'.load (f s) k a n way=((o.load s k a n way).1,f (o.load s k a n way).2)
 store:∀s fl k a d,Ok s fl->fl.getD k false=true->1<=d.size->d.size<=8->o'.store (f s) k a d=((o.store s k a d).1,f (o.store s k a d).2)
 map:∀s fl k p n q,Ok s fl->fl.getD k false=true->o'.map (f s) k p n q=((o.map s k p n q).1,f (o.map s k p n q).2)
 pd:∀s fl k p n,Ok s fl->fl.getD k false=true->o'.pd (f s) k p n=((o.pd s k p n).1,f (o.pd s k p n).2)
 jt:∀s fl k p n q,Ok s fl->fl.getD k false=true->o'.jt (f s) k p n q=((o.jt s k p n q).1,f (o.jt s k p n q).2)
 fork:∀s fl k,Ok s fl->fl.getD k false=true->o'.fork (f s) k=((o.fork s k).1,f (o.fork s k).2)
 drop:∀s fl k,Ok s fl->fl.getD k false=true->o'.drop (f s) k=f (o.drop s k)
def jf (f:σ->τ) (st:dE σ):dE τ:=⟨f st.mem,st.ps,st.out⟩
variable {o:gH σ} {o':gH τ} {Ok:σ->List Bool->Prop} {f:σ->τ}
theorem ZU (S:Ct o o' Ok f) {st:dE σ} (h:Ok st.mem (b7 st.ps)) {k:Nat} (hk:(b7 st.ps).getD k false=true) (c:Int):fy o' (jf f st) k c=((fy o st k c).1,jf f (fy o st k c).2):=by
 unfold fy;simp only[jf,S.map _ _ _ _ _ _ h hk,S.pd _ _ _ _ _ h hk,S.jt _ _ _ _ _ _ h hk,S.fork _ _ _ h hk,S.drop _ _ _ h hk]
 repeat' split
 all_goals rfl
theorem Ty (S:Ct o o' Ok f) {st:dE σ} (h:Ok st.mem (b7 st.ps)) {k:Nat} (hk:(b7 st.ps).getD k false=true) (i:ed):gy o' (jf f st) k i=((gy o st k i).1,jf f (gy o st k i).2):=by
 unfold gy;by_cases hb:i.bad=true
 · rw[aC hb,aC hb];rfl
 rw[aA hb,aA hb];have hb:i.bad=false:=by simpa using hb
 by_cases h9:i.op=9
 · have hc:=BC hb (.inl h9);rw[aC h9,aC h9];simp only[jf,S.load _ _ _ _ _ _ h hk hc.1 hc.2]
 rw[aA h9,aA h9];by_cases h10:i.op=10
 · have hc:=BC hb (.inr h10);have hp:=Ev ((aN st.ps k).r i.a.toNat) i.c;rw[aC h10,aC h10];simp only[jf,S.store _ _ _ _ _ h hk (show 1<=(mS ((aN st.ps k).r i.a.toNat) i.c).size by omega) (by omega)]
 rw[aA h10,aA h10];by_cases h16:i.op=16
 · rw[aC h16,aC h16,ZU S h hk]
 · rw[aA h16,aA h16]
theorem aes (S:Ct o o' Ok f) (ho:qE o Ok) {st:dE σ} (h:Ok st.mem (b7 st.ps)) {k:Nat} (hk:(b7 st.ps).getD k false=true):mC o' (jf f st) k=((mC o st k).1,jf f (mC o st k).2):=by
 unfold mC;have e:=S.load _ _ k (aN st.ps k).pc 8 2 h hk (by omega) (by omega);have h1:=ho.load _ _ k (aN st.ps k).pc 8 2 h hk;simp only[show(jf f st).mem=f st.mem from rfl,show(jf f st).ps=st.ps from rfl,e];by_cases c:(o.load st.mem k (aN st.ps k).pc 8 2).1.2.1=0
 · simp only[c,Dq,tI];have ha:=Ty S (st:={ st with mem:=(o.load st.mem k (aN st.ps k).pc 8 2).2 }) h1 hk (iG (o.load st.mem k (aN st.ps k).pc 8 2).1.1);simp only[jf] at ha ⊢;by_cases c2:(gy o { mem:=(o.load st.mem k (aN st.ps k).pc 8 2).2,ps:=st.ps,out:=st.out } k (iG (o.load st.mem k (aN st.ps k).pc 8 2).1.1)).1.2.1=0
   · simp only[ha,c2,Dq,tI]
   · simp only[ha,c2,Dp,tH]
 · simp only[c,Dp,tH,jf]
theorem ZT (S:Ct o o' Ok f) (ho:qE o Ok) {st:dE σ} (h:dh Ok st) (pick:Int):jz o' (jf f st) pick=((jz o st pick).1,jf f (jz o st pick).2):=by
 unfold jz;simp only[show(jf f st).ps=st.ps from rfl,show(jf f st).out=st.out from rfl];by_cases c1:0<=pick/\pick<(st.ps.length:Int)
 · simp only[c1,Dq,tI,and_self];by_cases c2:(aN st.ps pick.toNat).st=1
   · simp only[c2,Dq,tI];by_cases c3:2000<=st.out.length
     · simp only[c3,tH]
     · simp only[c3,tI];have hk:pick.toNat<st.ps.length:=by omega
       have hl:=ir pick.toNat hk c2;have hd:=Jy ho h (by omega) pick.toNat hk c2;have e:=aes S ho h.mem hl;by_cases c4:(mC o st pick.toNat).1.1=0
       · simp only[e,c4,tH]
       · have hm:=hd.ok.mem;rw[hd.same c4] at hm;simp only[e,c4,tI];simp only[jf,S.drop _ _ _ hm hl]
   · simp only[c2,Dp,tH]
 · simp only[c1,Dp,tH]
theorem zy (S:Ct o o' Ok f) (ho:qE o Ok) {st:dE σ} (h:dh Ok st) (picks:List Int):∀n,dG o' picks n (some (jf f st))=(dG o picks n (some st)).map (jf f)
 | 0=>rfl
 | n+1=>by
  have ih:=zy S ho h picks n;have hk:=vw ho h picks n;show(match dG o' picks n (some (jf f st)) with | none=>none | some s=>_)=Option.map _ (match dG o picks n (some st) with | none=>none | some s=>_);rw[ih];cases e:dG o picks n (some st) with
  | none=>rfl
  | some s =>
   show(if (jz o' (jf f s) (picks.getD n 0)).1=2 then none else some (jz o' (jf f s) (picks.getD n 0)).2)=_;rw[ZT S ho (hk s e)];show _=Option.map _ (if (jz o s (picks.getD n 0)).1=2 then none else some (jz o s (picks.getD n 0)).2);split <;> rfl
open Go.RowKit Go.Lib
theorem yH (P:Program) (g o:Nat) (t:TypeId) (m1 m2:Nat):∀(vs:List Value) (i:Nat) (cur:Array Value) (w:World),w.heap[g]?=some (.cells cur t (m1,m2))->cur.size<=m1->o+i+vs.length<=cur.size->(∀v∈vs,v.oneCell'=true) ->
  (storeCells (Ad g o) vs i).run P w=.ok () (w.setRow g (cur.toList.take (o+i)++vs++cur.toList.drop (o+i+vs.length)).toArray)
 | [],i,cur,w,hg,_,_,_=>by
  simp only[storeCells,Dl,O5,kW,U8,Array.toArray_toList];rw[setRow_self w g cur t (m1,m2) hg];rfl
 | v::rest,i,cur,w,hg,hm,hl,h1=>by
  have hi:o+i<cur.size:=by grind
  have hadd:((Ad g o):Addr).add i=(Ad g (o+i)):=by grind [Addr.add]
  have hcell:w.cell? (Ad g (o+i))=some cur[o+i]:=by grind [World.cell?]
  have hfro:w.frozen? (Ad g (o+i))=false:=by grind [World.frozen?]
  have hst:(store (((Ad g o):Addr).add i) v).run P w=.ok () (w.setRow g (cur.setIfInBounds (o+i) v)):=by
   grind [run_store,setCell_eq_setRow]
  have ih:=yH P g o t m1 m2 rest (i+1) (cur.setIfInBounds (o+i) v) (w.setRow g (cur.setIfInBounds (o+i) v)) (tJ w g cur _ t _ hg) (by grind) (by grind) (fun x hx=>h1 x (by simp[hx]));simp only[storeCells,Sem.run_bind,hst,UN,ih,setRow_setRow];congr 3;have e:=list_seg_step cur.toList (o+i) v rest (by omega)
  simp_all [xL]
theorem RO {P:Program} (w:World) (dT sT ty elem:TypeId) (g o dLen dCap:Nat) (s:ByteArray) (cur:Array Value) (t:TypeId) (m1 m2:Nat)
  (hu:P.underlying dT=some (.slice elem)) (hs:(P.info? elem).map (·.size)=some 1) (hg:w.heap[g]?=some (.cells cur t (m1,m2))) (hm:cur.size<=m1) (hle:s.size<=dLen) (hfit:o+s.size<=cur.size) :
  (Builtin.copy_ #[dT,sT] ty #[.slice (some (Ad g o)) dLen dCap,.string s]).run P w =
   .ok (goInt s.size) (w.setRow g (cur.toList.take o++Lib.byteCells s.data.toList++cur.toList.drop (o+s.size)).toArray):=by
 have hlen:(Lib.byteCells s.data.toList).length=s.size:=by rw[acY,<- size_eq]
 have hst:=yH P g o t m1 m2 (Lib.byteCells s.data.toList) 0 cur w hg hm (by omega) (Lib.byteCells_one _);have hmin:Nat.min s.size dLen=s.size:=UI hle;have htk:List.take s.size (List.map (fun b:UInt8=>Value.int IntKind.u8 (b.toNat:Int)) s.data.toList)=Lib.byteCells s.data.toList:=by
  rw[List.take_of_length_le (by simp_all)];rfl
 rw[hlen] at hst;simp only[kW] at hst;cases hq:P.info? elem with
 | none=>grind
 | some i =>
  simp_all [Builtin.copy_,JO,Builtin.lenOf,Builtin.firstCells,sizeOf,typeInfo]
theorem MQ (s:ByteArray) (c:Nat):(bytesRow s c).size=s.size+(c-s.size):=by
 simp[bytesRow]
def iC (s:ByteArray) (o:Nat) (t:ByteArray):ByteArray:=⟨(s.data.toList.take o++t.data.toList++s.data.toList.drop (o+t.size)).toArray⟩
theorem TR (s:ByteArray) (o:Nat) (t:ByteArray) (c:Nat) (h:o+t.size<=s.size) (i:Nat) (hi:i<s.size) :
  ((bytesRow s c).toList.take o++Lib.byteCells t.data.toList++(bytesRow s c).toList.drop (o+t.size))[i]?=some (.int .u8 (((iC s o t).data.toList.map fun b=>(b.toNat:Int)).getD i 0)):=by
 have hts:t.size=t.data.toList.length:=size_eq t;have hss:s.size=s.data.toList.length:=size_eq s;have hr:(bytesRow s c).toList=Lib.byteCells s.data.toList++List.replicate (c-s.size) (.int .u8 0):=by
  simp[bytesRow,Lib.byteCells]
 have e:(bytesRow s c).toList.take o++Lib.byteCells t.data.toList++(bytesRow s c).toList.drop (o+t.size)=Lib.byteCells (iC s o t).data.toList++List.replicate (c-s.size) (.int .u8 0):=by
  grind [iC,Lib.byteCells,List.map_take,List.map_drop]
 have hol:(iC s o t).data.toList.length=s.size:=by
  grind [iC]
 grind [Lib.byteCells_length,C8]
theorem LW (s:ByteArray) (o:Nat) (t:ByteArray) (h:o+t.size<=s.size):(iC s o t).data.toList.length=s.size:=by
 grind [size_eq,iC]
theorem aaw (s:ByteArray) (o:Nat) (t:ByteArray) (h:t.size=0):iC s o t=s:=by
 have hts:t.data.toList=[]:=jY (by simp_all)
 simp_all [iC]
theorem I8 (s:ByteArray) (o:Nat) (t:ByteArray) (h:o+t.size<=s.size):(iC s o t).size=s.size:=by
 grind [size_eq,LW]
open Go.RowKit
structure mL where
 off:Int
 bytes:ByteArray
structure bJ where
 page:Int
 data:ByteArray
 dZ:List mL
 ao:Option Addr
 cap:Nat
def Qx:mL:=⟨0,⟨#[]⟩⟩
def ng (l:List mL) (i:Nat):mL:=l.getD i Qx
def Cb:bJ:=⟨0,⟨#[]⟩,[],none,0⟩
def bl (l:List bJ) (i:Nat):bJ:=l.getD i Cb
def DF (w:World) (b off:Nat) (l:List mL):Prop:=∀i,i<l.length->w.cell? (Ad b (off+i*2))=some (I (ng l i).off)/\w.cell? (Ad b (off+i*2+1))=some (.string (ng l i).bytes)
theorem ada {w w':World} {b off:Nat} {l:List mL} (hb:Below w.heap.size w w') (hlt:b<w.heap.size) (h:DF w b off l):DF w' b off l:=fun i hi=>by
 obtain⟨c0,c1⟩:=h i hi
 grind [cQ]
def pA (w:World) (ao:Option Addr) (l:List mL):Prop:=gS DF w ao l
theorem pA.below {w w':World} {ao:Option Addr} {l:List mL} (h:pA w ao l) (hb:Below w.heap.size w w'):pA w' ao l:=gS.below (lie:=DF) (fun hb hlt h=>ada hb hlt h) h hb
def VE (f:mL):Prop:=cO f.off/\cB f.bytes.size
structure DI (s:bJ):Prop where
 page:cO s.page
 data:cB s.data.size
 dZ:cB s.dZ.length
 fix:∀k,k<s.dZ.length->VE (ng s.dZ k)
def vh (s:bJ):Array Value:=#[I s.page,.string s.data,.slice s.ao s.dZ.length s.cap]
def rB (l:List mL):Nat->Int
 | 0=>0
 | k+1=>(ng l k).off+((ng l k).bytes.size:Int)
def zk (e:Int) (f:mL):Bool:=decide (e<=f.off/\f.off<=16/\1<=(f.bytes.size:Int)/\(f.bytes.size:Int)<=16-f.off)
def fQ (l:List mL):Nat->Bool
 | 0=>true
 | k+1=>fQ l k&&zk (rB l k) (ng l k)
def pq (s:bJ):Bool:=decide (1<=s.page/\s.page<=255/\s.data.size=16)
def di (s:bJ):Bool:=pq s&&fQ s.dZ s.dZ.length
def tO (d:ByteArray) (l:List mL):Nat->ByteArray
 | 0=>d
 | k+1=>iC (tO d l k) (ng l k).off.toNat (ng l k).bytes
def rA (s:bJ):ByteArray:=tO s.data s.dZ s.dZ.length
def mK (s:bJ):ByteArray×Int:=if di s then (rA s,0) else (⟨#[]⟩,1)
theorem xg (l:List mL):∀(k n:Nat),k<=n->fQ l k=false->fQ l n=false
 | k,0,h,hk=>by grind
 | k,n+1,h,hk=>by
  by_cases e:k=n+1
  · grind
  · simp[fQ,xg l k n (by omega) hk]
theorem zj (l:List mL) (k:Nat) (hk:k<l.length) (h:zk (rB l k) (ng l k)=false):fQ l l.length=false :=
 xg l (k+1) l.length (by omega) (by simp[fQ,h])
theorem Ie (l:List mL):∀(n:Nat),fQ l n=true->∀i,i<n->zk (rB l i) (ng l i)=true
 | 0,_,i,hi=>by omega
 | n+1,h,i,hi=>by
  simp only[fQ,eQ] at h;by_cases e:i=n
  · grind
  · exact Ie l n h.1 i (by omega)
theorem A6 (e:Int) (f:mL):zk e f=true↔(e<=f.off/\f.off<=16/\1<=(f.bytes.size:Int)/\(f.bytes.size:Int)<=16-f.off):=by simp[zk]
theorem DC {e:Int} {f:mL} (h:¬(e<=f.off/\f.off<=16/\1<=(f.bytes.size:Int)/\(f.bytes.size:Int)<=16-f.off)):zk e f=false:=by grind [zk]
theorem sQ (l:List mL):∀k,fQ l k=true->(k:Int)<=rB l k/\rB l k<=16
 | 0,_=>by simp[rB]
 | k+1,h=>by
  simp only[fQ,eQ] at h;have ih:=sQ l k h.1
  grind [A6,rB]
theorem zU (d:ByteArray) (l:List mL) (hd:d.size=16):∀k,fQ l k=true->(tO d l k).size=16
 | 0,_=>hd
 | k+1,h=>by
  simp only[fQ,eQ] at h;have ih:=zU d l hd k h.1;have hf:=(A6 _ _).1 h.2;have he:=sQ l k h.1
  grind [tO,I8]
open Go.RowKit
def kK (a:aX) (n:Nat):List Int:=(List.range n).map (fun m:Nat=>a.page+(m:Int))
def fC (l:List aX):Nat->List Int
 | 0=>[]
 | i+1=>fC l i++kK (bC l i) (bC l i).aQ.toNat
def mM (l:List aX):List Int:=fC l l.length
def jK (l:List aX) (hs:List bJ):Bool:=decide (hs.map (·.page)=mM l)
def ou (l:List aX):Nat->Bool
 | 0=>false
 | k+1=>ou l k || (bC l k).zero
def mv (l:List aX):Bool:=ou l l.length
def lq (hs:List bJ):Nat->Bool
 | 0=>true
 | k+1=>lq hs k&&di (bl hs k)
def sO (hs:List bJ):Bool:=lq hs hs.length
def A7 (l:List aX) (en:Int):Bool:=(bY l (en.tdiv 16)).2&&(decide (2<=(bY l (en.tdiv 16)).1.jG)&&decide (en.tmod 8=0))
def lu (l:List aX) (hs:List bJ) (en:Int):Int:=if bk l=0 then (if !mv l&&(jK l hs&&(sO hs&&A7 l en)) then 0 else 1) else bk l
theorem vV (a:aX) (n:Nat):kK a (n+1)=kK a n++[a.page+(n:Int)]:=by
 grind [kK,List.range_succ]
theorem Oj (a:aX) (n m:Nat) (h:n<m):∃t,kK a m=kK a n++(a.page+(n:Int))::t:=by
 induction m with
 | zero=>omega
 | succ m ih =>
  by_cases e:n=m
  · simp_all [vV]
  grind [vV]
theorem EJ (l:List aX) (i:Nat):∀n,i<=n->∃t,fC l n=fC l i++t
 | 0,h=>by simp_all
 | n+1,h=>by
  by_cases e:i=n+1
  · simp_all
  · obtain⟨t,ht⟩:=EJ l i n (by omega)
    grind [fC]
theorem Qs (l:List aX) (i:Nat) (hi:i<l.length) (n:Nat) (hn:n<(bC l i).aQ.toNat):∃t,mM l=(fC l i++kK (bC l i) n)++((bC l i).page+(n:Int))::t:=by
 obtain⟨t,ht⟩:=EJ l (i+1) l.length (by omega);obtain⟨u,hu⟩:=Oj (bC l i) n _ hn
 grind [mM,fC]
theorem Fi (l:List aX):∀(k n:Nat),k<=n->ou l k=true->ou l n=true
 | k,0,h,hk=>by grind
 | k,n+1,h,hk=>by
  by_cases e:k=n+1
  · grind
  · simp[ou,Fi l k n (by omega) hk]
theorem abk (l:List aX) (k:Nat) (hk:k<l.length) (h:(bC l k).zero=true):mv l=true:=Fi l (k+1) l.length (by omega) (by simp[ou,h])
theorem Ki (l:List aX):∀n,ou l n=false->∀i,i<n->(bC l i).zero=false
 | 0,_,i,hi=>by omega
 | n+1,h,i,hi=>by
  simp only[ou,JQ] at h;by_cases e:i=n
  · grind
  · exact Ki l n h.1 i (by omega)
theorem A4 (l:List bJ):∀(k n:Nat),k<=n->lq l k=false->lq l n=false
 | k,0,h,hk=>by grind
 | k,n+1,h,hk=>by
  by_cases e:k=n+1
  · grind
  · simp[lq,A4 l k n (by omega) hk]
theorem Sw (l:List bJ) (k:Nat) (hk:k<l.length) (h:di (bl l k)=false):sO l=false:=A4 l (k+1) l.length (by omega) (by simp[lq,h])
theorem Fj (l:List bJ):∀n,lq l n=true->∀i,i<n->di (bl l i)=true
 | 0,_,i,hi=>by omega
 | n+1,h,i,hi=>by
  simp only[lq,eQ] at h;by_cases e:i=n
  · grind
  · exact Fj l n h.1 i (by omega)
theorem CU (hs:List bJ) (c:Nat) (h:c<hs.length):(hs.take (c+1)).map (·.page)=(hs.take c).map (·.page)++[(bl hs c).page]:=by
 grind [List.take_succ_eq_append_getElem,bl]
theorem SF {l:List aX} {hs:List bJ} {pre t:List Int} {x:Int} (hp:(hs.take hs.length).map (·.page)=pre) (ho:mM l=pre++x::t):jK l hs=false:=by
 simp_all [jK]
theorem SG {l:List aX} {hs:List bJ} {pre t:List Int} {x:Int} {c:Nat} (hc:c<hs.length) (hp:(hs.take c).map (·.page)=pre) (ho:mM l=pre++x::t) (hx:(bl hs c).page≠x):jK l hs=false:=by
 unfold jK;refine jl (fun e=>?_);have h1:=CU hs c hc
 grind [List.take_append_drop,List.append_cancel_left]
theorem VA {l:List aX} {hs:List bJ} {c:Nat} (hc:c<=hs.length) (hp:(hs.take c).map (·.page)=fC l l.length):jK l hs=decide (c=hs.length):=by
 grind [jK,mM,List.length_map]
def Ky (w:World) (b off:Nat) (l:List bJ):Prop:=∀i,i<l.length ->
 w.cell? (Ad b (off+i*3))=some (I (bl l i).page)/\w.cell? (Ad b (off+i*3+1))=some (.string (bl l i).data)/\w.cell? (Ad b (off+i*3+2))=some (.slice (bl l i).ao (bl l i).dZ.length (bl l i).cap)/\pA w (bl l i).ao (bl l i).dZ
theorem PA {w w':World} {b off:Nat} {l:List bJ} (hb:Below w.heap.size w w') (hlt:b<w.heap.size) (h:Ky w b off l):Ky w' b off l:=fun i hi=>by
 obtain⟨c0,c1,c2,c3⟩:=h i hi
 grind [cQ,pA.below]
def iT (w:World) (ao:Option Addr) (l:List bJ):Prop:=gS Ky w ao l
theorem iT.below {w w':World} {ao:Option Addr} {l:List bJ} (h:iT w ao l) (hb:Below w.heap.size w w'):iT w' ao l:=gS.below (lie:=Ky) (fun hb hlt h=>PA hb hlt h) h hb
def rD (l:List bJ):Prop:=cB l.length/\∀k,k<l.length->DI (bl l k)
theorem Sz {p:Int} (h:0<=p/\p<=3):p=0∨p=1∨p=2∨p=3:=by omega
theorem SE (l:List aX) (hc:bk l=0) (p:Int) (h:(bY l p).2=true):0<=(bY l p).1.jG/\(bY l p).1.jG<=3:=by
 by_cases e:∃k,k<l.length/\iQ (bC l k) p=true
 · obtain⟨k,hk,hh⟩:=e;have:∃k,k<l.length/\iQ (bC l k) p=true/\∀i,i<k->iQ (bC l i) p=false:=by
    induction k using Nat.strongRecOn with
    | _ k ih =>
     grind
   obtain⟨k,hk,h1,h2⟩:=this;rw[tG l p k hk h2 h1]
   simp_all [iw,gW]
 grind [uh]
open Go.RowKit
def rO (hs:List bJ) (k:Nat):Bool:=k==0 || decide ((bl hs (k-1)).page<(bl hs k).page)
def jZ (hs:List bJ):Nat->Bool
 | 0=>true
 | k+1=>jZ hs k&&(di (bl hs k)&&rO hs k)
def gX (hs:List bJ):Bool:=jZ hs hs.length
theorem EI (l:List bJ):∀(k n:Nat),k<=n->jZ l k=false->jZ l n=false
 | k,0,h,hk=>by grind
 | k,n+1,h,hk=>by
  by_cases e:k=n+1
  · grind
  · simp[jZ,EI l k n (by omega) hk]
theorem YK (l:List bJ) (k:Nat) (hk:k<l.length) (h:(di (bl l k)&&rO l k)=false):gX l=false:=EI l (k+1) l.length (by omega) (by grind [jZ])
theorem qR (l:List bJ):∀n,jZ l n=true->∀i,i<n->di (bl l i)=true/\rO l i=true
 | 0,_,i,hi=>by omega
 | n+1,h,i,hi=>by
  simp only[jZ,eQ] at h;by_cases e:i=n
  · grind
  · exact qR l n h.1 i (by omega)
theorem Kl (l:List bJ):∀n,(∀i,i<n->di (bl l i)=true/\rO l i=true)->jZ l n=true
 | 0,_=>rfl
 | n+1,h=>by
  simp only[jZ,eQ];exact⟨Kl l n (fun i hi=>h i (by omega)),h n (by omega)⟩
def DB (l:List aX) (hs:List bJ) (k:Nat):Bool:=(bY l (bl hs k).page).2&&!(bY l (bl hs k).page).1.zero
def zi (l:List aX) (hs:List bJ):Nat->Bool
 | 0=>true
 | k+1=>zi l hs k&&DB l hs k
theorem DA (l:List aX) (hs:List bJ):∀n,zi l hs n=true->∀i,i<n->DB l hs i=true
 | 0,_,i,hi=>by omega
 | n+1,h,i,hi=>by
  simp only[zi,eQ] at h;by_cases e:i=n
  · grind
  · exact DA l hs n h.1 i (by omega)
theorem Qv (l:List aX) (hs:List bJ):∀n,(∀i,i<n->DB l hs i=true)->zi l hs n=true
 | 0,_=>rfl
 | n+1,h=>by
  simp only[zi,eQ];exact⟨Qv l hs n (fun i hi=>h i (by omega)),h n (by omega)⟩
def Hg (l:List aX) (hs:List bJ) (en:Int):Int:=if bk l=0 then (if decide ((hs.length:Int)=kT l l.length)&&(gX hs&&(zi l hs hs.length&&A7 l en)) then 0 else 1) else bk l
/-! the pages of areas that are right rise -/
def lB (L:List Int):Prop:=L.Pairwise (·<·)
theorem xR (a:aX) (n:Nat) (x:Int):x∈kK a n↔a.page<=x/\x<a.page+(n:Int):=by
 unfold kK;rw[vH];constructor
 · grind
 · rintro⟨h1,h2⟩;exact⟨(x-a.page).toNat,uJ.2 (by omega),by omega⟩
theorem CT (a:aX):∀n,lB (kK a n)
 | 0=>by simp[kK,lB]
 | n+1=>by
  rw[vV];unfold lB;rw[G7];refine⟨CT a n,by simp,fun x hx y hy=>?_⟩
  grind [xR]
theorem Ml (a:aX) (n:Nat):(kK a n).length=n:=by simp[kK]
theorem Qt (l:List aX) (hc:bk l=0) (i:Nat) (hi:i+1<l.length):(bC l i).page+(bC l i).aQ<=(bC l (i+1)).page:=by
 have h:=gW l hc (i+1) hi
 grind [nI,mq,aX.wU]
theorem Ce (l:List aX) (hc:bk l=0):∀i,i<=l.length->∀x∈fC l i,∀j,j<l.length->i<=j->x<(bC l j).page
 | 0,_,x,hx,j,_,_=>by grind [fC]
 | i+1,hi,x,hx,j,hj,hij=>by
  simp only[fC,lV] at hx;rcases hx with hx | hx
  · exact Ce l hc i (by omega) x hx j hj (by omega)
  · have hk:=iw l i (gW l hc i (by omega));have h1:=(xR _ _ _).1 hx;have step:∀d,i+1+d<l.length->(bC l i).page+(bC l i).aQ<=(bC l (i+1+d)).page:=by
     intro d;induction d with
     | zero=>simp_all [Qt]
     | succ d ih =>
      intro h;have h2:=ih (by omega);have h3:=Qt l hc (i+1+d) h;have h4:=iw l (i+1+d) (gW l hc (i+1+d) (by omega))
      grind
    have:=step (j-(i+1)) (by omega)
    grind
theorem vT (l:List aX) (hc:bk l=0):∀i,i<=l.length->lB (fC l i)
 | 0,_=>by simp[fC,lB]
 | i+1,hi=>by
  simp only[fC];unfold lB;rw[G7];refine⟨vT l hc i (by omega),CT _ _,fun x hx y hy=>?_⟩;have h1:=Ce l hc i (by omega) x hx i (by omega) (aI _)
  grind [xR]
theorem vU (l:List aX) (hc:bk l=0):∀i,i<=l.length->((fC l i).length:Int)=kT l i
 | 0,_=>rfl
 | i+1,hi=>by
  have ih:=vU l hc i (by omega);have hk:=iw l i (gW l hc i (by omega))
  grind [fC,kT,Ml]
theorem sP (l:List aX) (x:Int):∀i,x∈fC l i↔∃k,k<i/\iQ (bC l k) x=true
 | 0=>by simp[fC]
 | i+1=>by
  simp only[fC,lV];rw[sP l x i,xR]
  grind [iQ,aX.wU]
theorem vO {x:Int} {L:List Int} (h:lB (x::L)):lB L/\∀z∈L,x<z:=⟨(AU.1 h).2,(AU.1 h).1⟩
theorem Cc:∀(K L:List Int),lB L->lB K->(∀z∈L,z∈K)->L.length<=K.length
 | [],L,_,_,hm=>by
  cases L with
  | nil=>omega
  | cons x L=>grind [List.mem_cons_self]
 | y::K,L,hL,hK,hm=>by
  cases L with
  | nil=>grind
  | cons x L =>
   obtain⟨hL1,hL2⟩:=vO hL;obtain⟨hK1,hK2⟩:=vO hK;by_cases e:x=y
   · subst e;have:=Cc K L hL1 hK1 (fun z hz=>by
      grind)
     grind
   · have hx:x∈K:=by
      grind
     have hyx:=hK2 x hx;have:=Cc K (x::L) hL hK1 (fun z hz=>by
      grind)
     grind
theorem Kk:∀(L K:List Int),lB L->lB K->(∀z∈L,z∈K)->K.length<=L.length->L=K
 | [],K,_,_,_,hl=>by
  simp_all
 | x::L,K,hL,hK,hm,hl=>by
  cases K with
  | nil=>grind [List.mem_cons_self]
  | cons y K =>
   obtain⟨hL1,hL2⟩:=vO hL;obtain⟨hK1,hK2⟩:=vO hK;have e:x=y:=by
    rcases uI.1 (hm x Dt) with g | g
    · exact g
    · have hyx:=hK2 x g;have:=Cc K (x::L) hL hK1 (fun z hz=>by
       grind)
      grind
   subst e;rw[Kk L K hL1 hK1 (fun z hz=>by
    grind) (by grind)]
theorem Fk (hs:List bJ) (h:gX hs=true):lB (hs.map (·.page)):=by
 have step:∀i j,i<j->j<hs.length->(bl hs i).page<(bl hs j).page:=by
  intro i j hij hj;induction j with
  | zero=>omega
  | succ j ih =>
   have h1:=(qR hs hs.length h (j+1) hj).2
   grind [rO]
 grind [lB,List.pairwise_iff_getElem,bl]
theorem Qq (hs:List bJ) (h:lB (hs.map (·.page))) (k:Nat) (hk:k<hs.length):rO hs k=true:=by
 grind [rO,lB,List.pairwise_iff_getElem,bl]
theorem Nf (l:List aX) (p:Int) (k:Nat) (hk:k<l.length) (h:iQ (bC l k) p=true):∃j,j<l.length/\bY l p=(bC l j,true):=by
 induction k using Nat.strongRecOn with
 | _ k ih =>
  grind [tG]
theorem Vz (l:List aX) (p:Int) (h:(bY l p).2=true):∃k,k<l.length/\iQ (bC l k) p=true:=by
 grind [uh]
theorem ad0 (hs:List bJ) (k:Nat) (h:k<hs.length):(bl hs k).page∈hs.map (·.page):=by
 grind [bl]
theorem Mm (hs:List bJ) (x:Int) (h:x∈hs.map (·.page)):∃k,k<hs.length/\(bl hs k).page=x:=by
 obtain⟨s,hs1,rfl⟩:=vH.1 h;obtain⟨k,hk,e⟩:=List.getElem_of_mem hs1;refine⟨k,hk,?_⟩
 grind [bl]
theorem Qw (l:List aX) (hc:bk l=0) (p:Int) (j k:Nat) (hj:j<l.length) (hk:k<l.length) (h1:iQ (bC l j) p=true) (h2:iQ (bC l k) p=true):j=k:=by
 have key:∀j k,j<k->k<l.length->iQ (bC l j) p=true->iQ (bC l k) p=true->False:=by
  intro j k hjk hk h1 h2;have hm:p∈fC l k:=(sP l p k).2 ⟨j,hjk,h1⟩;have:=Ce l hc k (by omega) p hm k hk (aI _)
  grind [iQ]
 grind
theorem Vy (l:List aX) (hs:List bJ) (hc:bk l=0) :
  (!mv l&&(jK l hs&&sO hs))=(decide ((hs.length:Int)=kT l l.length)&&(gX hs&&zi l hs hs.length)):=by
 rw[Bool.eq_iff_iff];simp only[eQ,Bool.not_eq_true',kX];constructor
 · rintro⟨hz,he,hsh⟩;have he':hs.map (·.page)=mM l:=oP he;have hlen:=dI List.length he';rw[ia] at hlen;have hr:lB (hs.map (·.page)):=by rw[he'];exact vT l hc l.length (aI _)
   refine⟨by rw[hlen];exact vU l hc l.length (aI _),?_,?_⟩
   · exact Kl hs hs.length (fun i hi=>⟨Fj hs hs.length hsh i hi,Qq hs hr i hi⟩)
   · refine Qv l hs hs.length (fun i hi=>?_);have hm:(bl hs i).page∈fC l l.length:=by
      have:=ad0 hs i hi;rw[he'] at this;exact this
     obtain⟨k,hk,hh⟩:=(sP l _ _).1 hm;obtain⟨j,hj,e⟩:=Nf l _ k hk hh;unfold DB;rw[e];simp[Ki l l.length hz j hj]
 · rintro⟨hlen,hr,hin⟩;have hsub:∀z∈hs.map (·.page),z∈mM l:=fun z hz=>by
    obtain⟨k,hk,rfl⟩:=Mm hs z hz;have:=DA l hs hs.length hin k hk;unfold DB at this;simp only[eQ] at this;obtain⟨j,hj,hh⟩:=Vz l _ this.1;exact(sP l _ _).2 ⟨j,hj,hh⟩
   have he':hs.map (·.page)=mM l:=Kk _ _ (Fk hs hr) (vT l hc l.length (aI _)) hsub (by
    grind [vU,mM])
   refine⟨?_,gZ he',?_⟩
   · cases hz:mv l
     · rfl
     · exfalso;have:∃i,i<l.length/\(bC l i).zero=true:=by
        by_cases g:∃i,i<l.length/\(bC l i).zero=true
        · exact g
        · have key:∀n,n<=l.length->ou l n=false:=by
           intro n;induction n with
           | zero=>intro _;rfl
           | succ n ih =>
            grind [ou]
          grind [mv]
       obtain⟨i,hi,hzi⟩:=this;have hk:=iw l i (gW l hc i hi);have hh:iQ (bC l i) (bC l i).page=true:=by
        grind [iQ,aX.wU]
       have hm:(bC l i).page∈hs.map (·.page):=by
        rw[he'];exact(sP l _ _).2 ⟨i,hi,hh⟩
       obtain⟨k,hk1,hk2⟩:=Mm hs _ hm;have avO:=DA l hs hs.length hin k hk1
       grind [DB,Qw,tG]
   · have key:∀n,n<=hs.length->lq hs n=true:=by
      intro n;induction n with
      | zero=>intro _;rfl
      | succ n ih =>
       intro hn;simp only[lq,eQ];exact⟨ih (by omega),(qR hs hs.length hr n (by omega)).1⟩
     exact key hs.length (aI _)
theorem Ih (l:List aX) (hs:List bJ) (en:Int):lu l hs en=Hg l hs en:=by
 grind [lu,Hg,Vy]
end Go.Proofs.YtlgoihmkgaaemaaGreat
