import Derived.Test.YtkdigjpejnebkaaGreatGU00
import Derived.Test.YtkdigjpejnebkaaGreatGU07
import Derived.Test.YtkdigjpejnebkaaGreatGU06
import Derived.Test.YtkdigjpejnebkaaGreatGU02
import Derived.Lib.Walk
import Derived.Lib.BufferWrite
import Derived.Laws.IdiomStrings
set_option maxHeartbeats 20000000
set_option linter.unusedVariables false
set_option maxRecDepth 100000
set_option linter.unusedSimpArgs false
namespace Go.Proofs.YtkdigjpejnebkaaGreat
namespace GG
open Go.RowKit
variable {σ:Type}
structure lZ (Ok:σ->List Bool->Prop) (st:St σ):Prop where
 mem:Ok st.mem (running st.ps)
 fit:∀k,k<st.ps.length->oc (FM.au st.ps k)
 right:∀k,k<st.ps.length->FM.bT (FM.au st.ps k)=true
 words:∀x∈st.out,0<=x.proc/\x.proc<(st.ps.length:Int)
 out:st.out.length<=2000
theorem sA (ps:List PM.Pr) (k j:Nat) (p:PM.Pr) (hk:k<ps.length):FM.au (ps.set k p) j=if j=k then p else FM.au ps j:=by
 unfold FM.au
 rw[List.getD_eq_getElem?_getD,List.getD_eq_getElem?_getD,List.getElem?_set]
 by_cases h:j=k
 · rw[if_pos h,if_pos h.symm]
   subst h
   rw[if_pos hk];rfl
 · rw[if_neg h,if_neg (fun g=>h g.symm)]
theorem pV (ps:List PM.Pr) (p:PM.Pr) (j:Nat):FM.au (ps++[p]) j=if j<ps.length then FM.au ps j else if j=ps.length then p else FM.vV:=by
 unfold FM.au
 rw[List.getD_eq_getElem?_getD,List.getD_eq_getElem?_getD]
 by_cases h:j<ps.length
 · rw[if_pos h,List.getElem?_append_left h]
 · rw[if_neg h,List.getElem?_append_right (by omega)]
   by_cases h2:j=ps.length
   · rw[if_pos h2,h2,Nat.sub_self];rfl
   · rw[if_neg h2]
     obtain⟨d,hd⟩:∃d,j-ps.length=d+1:=⟨j-ps.length-1,by omega⟩
     rw[hd];rfl
theorem rM (i:PM.ey) (ps:List PM.Pr):fX i ps.length ps=ps:=by
 unfold fX
 rw[List.take_length,List.drop_length];simp
theorem Ky (i:PM.ey) (ps:List PM.Pr) (n:Nat) (h:n=ps.length):fX i n ps=ps:=by rw[h];exact rM i ps
theorem uj (i:PM.ey) (ps:List PM.Pr) (p:PM.Pr) (n:Nat) (h:n=ps.length):fX i n (ps++[p])=ps++[PM.doneN p i 0]:=by
 subst h
 unfold fX
 rw[List.take_left,List.drop_left];rfl
theorem LY (ps:List PM.Pr) (p q:PM.Pr) (k:Nat) (h:k<ps.length):(ps++[p]).set k q=ps.set k q++[p]:=by
 rw[List.set_append_left _ _ h]
section
variable {Ok:σ->List Bool->Prop}
theorem sL {st:St σ} {m:σ} (h:lZ Ok st) (hm:Ok m (running st.ps)):lZ Ok { st with mem:=m }:=⟨hm,h.fit,h.right,h.words,h.out⟩
theorem ek {st:St σ} (k:Nat) (hk:k<st.ps.length) (h1:(FM.au st.ps k).st=1):(running st.ps).getD k false=true:=by
 rw[wJ,decide_eq_true hk,decide_eq_true h1];rfl
theorem IM {st:St σ} (h:lZ Ok st) (k:Nat) (hk:k<st.ps.length) (h1:(FM.au st.ps k).st=1) {i:PM.ey} {v:Int} (hv:M.dF v) (hb:i.bad=false) (hf:i.fits) {m:σ} (hm:Ok m (if i.op=16/\i.m=6 then (running st.ps).set k false else running st.ps)) :
  lZ Ok { st with mem:=m,ps:=st.ps.set k (PM.doneN (FM.au st.ps k) i v) }:=by
 have hlen:(st.ps.set k (PM.doneN (FM.au st.ps k) i v)).length=st.ps.length:=List.length_set
 refine⟨?_,fun j hj=>?_,fun j hj=>?_,fun x hx=>?_,h.out⟩
 · show Ok m (running (st.ps.set k (PM.doneN (FM.au st.ps k) i v)))
   rw[oW]
   by_cases c:i.op=16/\i.m=6
   · rw[if_pos c] at hm
     rw[Kr c.1 c.2]
     exact hm
   · rw[if_neg c] at hm
     rw[BC hb c,decide_eq_true h1]
     have e:(running st.ps).set k true=running st.ps:=by
      apply List.ext_getElem?
      intro j
      rw[List.getElem?_set]
      by_cases e:k=j
      · subst e
        have hk':k<(running st.ps).length:=by unfold running;rw[List.length_map];exact hk
        have hg:=ek k hk h1
        rw[List.getD_eq_getElem?_getD,List.getElem?_eq_getElem hk'] at hg
        rw[if_pos rfl,if_pos hk',List.getElem?_eq_getElem hk']
        exact congrArg some hg.symm
      · rw[if_neg e]
     rw[e];exact hm
 · have hj':j<st.ps.length:=hlen ▸ hj
   show oc (FM.au (st.ps.set k _) j)
   rw[sA _ _ _ _ hk]
   split
   · exact DR (h.fit k hk) hv hb hf
   · exact h.fit j hj'
 · have hj':j<st.ps.length:=hlen ▸ hj
   show FM.bT (FM.au (st.ps.set k _) j)=true
   rw[sA _ _ _ _ hk]
   split
   · exact xU hb h1 (h.right k hk)
   · exact h.right j hj'
 · have:=h.words x hx
   show 0<=x.proc/\x.proc<((st.ps.set k _).length:Int)
   rw[hlen];exact this
theorem PG {st:St σ} (h:lZ Ok st) {p:PM.Pr} (hf:oc p) (hr:FM.bT p=true) {m:σ} (hm:Ok m (running st.ps++[decide (p.st=1)])):lZ Ok { st with mem:=m,ps:=st.ps++[p] }:=by
 have hlen:(st.ps++[p]).length=st.ps.length+1:=by simp
 refine⟨?_,fun j hj=>?_,fun j hj=>?_,fun x hx=>?_,h.out⟩
 · show Ok m (running (st.ps++[p]))
   rw[AP];exact hm
 · have hj':j<st.ps.length+1:=hlen ▸ hj
   show oc (FM.au (st.ps++[p]) j)
   rw[pV]
   by_cases c:j<st.ps.length
   · rw[if_pos c];exact h.fit j c
   · rw[if_neg c,if_pos (by omega)];exact hf
 · have hj':j<st.ps.length+1:=hlen ▸ hj
   show FM.bT (FM.au (st.ps++[p]) j)=true
   rw[pV]
   by_cases c:j<st.ps.length
   · rw[if_pos c];exact h.right j c
   · rw[if_neg c,if_pos (by omega)];exact hr
 · have:=h.words x hx
   show 0<=x.proc/\x.proc<((st.ps++[p]).length:Int)
   rw[hlen];omega
theorem Ny (s:ByteArray):M.dF (rB s):=by
 unfold rB
 split
 · exact fR _
 · unfold M.dF;omega
theorem pJ {i:PM.ey} (hb:i.bad=false) (h:i.op=9∨i.op=10):1<=i.c/\i.c<=8:=by
 unfold PM.ey.bad at hb
 rw[if_neg (by omega),if_neg (by omega),if_neg (by omega),if_neg (by omega),if_neg (by omega),if_pos h] at hb
 unfold PM.dL at hb
 simp at hb
 omega
theorem pU (v n:Int):(kQ v n).size=n.toNat:=by
 unfold kQ
 show(Lib.leBytes n.toNat (CM.low v)).toArray.size=n.toNat
 simp[Lib.leBytes_length]
structure Left (Ok:σ->List Bool->Prop) (st:St σ) (k:Nat) (i:PM.ey) (y:(Int×(Int×Int))×St σ):Prop where
 fault:¬y.1.2.1=0->y.2.ps=st.ps/\lZ Ok y.2
 plain:y.1.2.1=0->(y.2.ps=st.ps/\Ok y.2.mem (if i.op=16/\i.m=6 then (running st.ps).set k false else running st.ps)∨(¬(i.op=16/\i.m=6))/\y.2.ps=st.ps++[FM.au st.ps k]/\Ok y.2.mem (running st.ps++[true]))/\M.dF y.1.1/\i.bad=false
 words:∀x∈y.2.out,0<=x.proc/\x.proc<(st.ps.length:Int)
 out:y.2.out.length<=st.out.length+1
 kind:¬y.1.2.1=0->1<=y.1.2.1/\y.1.2.1<=4
theorem vd {o:vM σ} (ho:Aq o Ok) {st:St σ} (h:lZ Ok st) (k:Nat) (hk:k<st.ps.length) (h1:(FM.au st.ps k).st=1) (i:PM.ey) (hf:i.fits):Left Ok st k i (bJ o st k i):=by
 have hl:=ek k hk h1
 have hi0:M.dF 0:=by unfold M.dF;omega
 have h4:=ho.few _ _ h.mem
 have hps:st.ps.length<=4:=by unfold running at h4;rw[List.length_map] at h4;exact h4
 unfold bJ
 by_cases hb:i.bad=true
 · rw[if_pos hb]
   exact⟨fun _=>⟨rfl,h⟩,fun g=>by simp at g,h.words,Nat.le_succ _,fun _=>by simp⟩
 · have Ka:i.bad=false:=by simpa using hb
   rw[if_neg hb]
   by_cases c9:i.op=9
   · rw[if_pos c9]
     have hm:=ho.load st.mem _ k (wrap64 ((FM.au st.ps k).r i.b.toNat+i.m)) i.c 0 h.mem hl
     have hft:=ho.fault st.mem _ k (wrap64 ((FM.au st.ps k).r i.b.toNat+i.m)) i.c 0 h.mem hl
     exact⟨fun _=>⟨rfl,sL h hm⟩,fun g=>⟨.inl ⟨rfl,by rw[if_neg (by omega)];exact hm⟩,Ny _,Ka⟩,h.words,Nat.le_succ _,fun g=>⟨by have:¬(o.load st.mem k (wrap64 ((FM.au st.ps k).r i.b.toNat+i.m)) i.c 0).1.2.1=0:=g;show 1<=(o.load st.mem k (wrap64 ((FM.au st.ps k).r i.b.toNat+i.m)) i.c 0).1.2.1;omega,hft.2.1⟩⟩
   · rw[if_neg c9]
     by_cases c10:i.op=10
     · rw[if_pos c10]
       have hm:=ho.store st.mem _ k (wrap64 ((FM.au st.ps k).r i.b.toNat+i.m)) (kQ ((FM.au st.ps k).r i.a.toNat) i.c) h.mem hl (by rw[pU];have:=pJ Ka (.inr c10);omega) (by rw[pU];have:=pJ Ka (.inr c10);omega)
       have hft:=ho.NI st.mem _ k (wrap64 ((FM.au st.ps k).r i.b.toNat+i.m)) (kQ ((FM.au st.ps k).r i.a.toNat) i.c) h.mem hl
       exact⟨fun _=>⟨rfl,sL h hm⟩,fun g=>⟨.inl ⟨rfl,by rw[if_neg (by omega)];exact hm⟩,hi0,Ka⟩,h.words,Nat.le_succ _,fun g=>⟨by have:¬(o.store st.mem k (wrap64 ((FM.au st.ps k).r i.b.toNat+i.m)) (kQ ((FM.au st.ps k).r i.a.toNat) i.c)).1.1=0:=g;show 1<=(o.store st.mem k (wrap64 ((FM.au st.ps k).r i.b.toNat+i.m)) (kQ ((FM.au st.ps k).r i.a.toNat) i.c)).1.1;omega,hft.2.1⟩⟩
     · rw[if_neg c10]
       by_cases c16:i.op=16
       · rw[if_pos c16]
         unfold cu
         by_cases d1:i.m=1
         · rw[if_pos d1]
           refine⟨fun g=>(g rfl).elim,fun _=>⟨.inl ⟨rfl,by rw[if_neg (by omega)];exact h.mem⟩,hi0,Ka⟩,fun x hx=>?_,by simp,fun g=>(g rfl).elim⟩
           rcases List.mem_append.1 hx with g | g
           · exact h.words x g
           · rw[List.mem_singleton.1 g]
             show 0<=(k:Int)/\(k:Int)<_
             omega
         · rw[if_neg d1]
           by_cases d2:i.m=2
           · rw[if_pos d2]
             have hm:=ho.map st.mem _ k ((FM.au st.ps k).r 0) ((FM.au st.ps k).r 1) ((FM.au st.ps k).r 2) h.mem hl
             have hv:=ho.Xh st.mem _ k ((FM.au st.ps k).r 0) ((FM.au st.ps k).r 1) ((FM.au st.ps k).r 2) h.mem hl
             exact⟨fun g=>(g rfl).elim,fun _=>⟨.inl ⟨rfl,by rw[if_neg (by omega)];exact hm⟩,by unfold M.dF;show -9223372036854775808<=(o.map st.mem k ((FM.au st.ps k).r 0) ((FM.au st.ps k).r 1) ((FM.au st.ps k).r 2)).1/\(o.map st.mem k ((FM.au st.ps k).r 0) ((FM.au st.ps k).r 1) ((FM.au st.ps k).r 2)).1<=_;omega,Ka⟩,h.words,Nat.le_succ _,fun g=>(g rfl).elim⟩
           · rw[if_neg d2]
             by_cases d3:i.m=3
             · rw[if_pos d3]
               have hm:=ho.jT st.mem _ k ((FM.au st.ps k).r 0) ((FM.au st.ps k).r 1) h.mem hl
               have hv:=ho.LH st.mem _ k ((FM.au st.ps k).r 0) ((FM.au st.ps k).r 1) h.mem hl
               exact⟨fun g=>(g rfl).elim,fun _=>⟨.inl ⟨rfl,by rw[if_neg (by omega)];exact hm⟩,by unfold M.dF;show -9223372036854775808<=(o.jT st.mem k ((FM.au st.ps k).r 0) ((FM.au st.ps k).r 1)).1/\(o.jT st.mem k ((FM.au st.ps k).r 0) ((FM.au st.ps k).r 1)).1<=_;omega,Ka⟩,h.words,Nat.le_succ _,fun g=>(g rfl).elim⟩
             · rw[if_neg d3]
               by_cases d4:i.m=4
               · rw[if_pos d4]
                 have hm:=ho.fw st.mem _ k ((FM.au st.ps k).r 0) ((FM.au st.ps k).r 1) ((FM.au st.ps k).r 2) h.mem hl
                 have hv:=ho.C5 st.mem _ k ((FM.au st.ps k).r 0) ((FM.au st.ps k).r 1) ((FM.au st.ps k).r 2) h.mem hl
                 exact⟨fun g=>(g rfl).elim,fun _=>⟨.inl ⟨rfl,by rw[if_neg (by omega)];exact hm⟩,by unfold M.dF;show -9223372036854775808<=(o.fw st.mem k ((FM.au st.ps k).r 0) ((FM.au st.ps k).r 1) ((FM.au st.ps k).r 2)).1/\(o.fw st.mem k ((FM.au st.ps k).r 0) ((FM.au st.ps k).r 1) ((FM.au st.ps k).r 2)).1<=_;omega,Ka⟩,h.words,Nat.le_succ _,fun g=>(g rfl).elim⟩
               · rw[if_neg d4]
                 by_cases d5:i.m=5
                 · rw[if_pos d5]
                   by_cases f0:(o.fork st.mem k).1=0
                   · rw[if_pos f0]
                     have hm:=ho.IG st.mem _ k h.mem hl f0
                     exact⟨fun g=>(g rfl).elim,fun _=>⟨.inr ⟨by omega,rfl,hm⟩,by unfold M.dF;show -9223372036854775808<=(st.ps.length:Int)/\(st.ps.length:Int)<=_;omega,Ka⟩,h.words,Nat.le_succ _,fun g=>(g rfl).elim⟩
                   · rw[if_neg f0]
                     have hm:=ho.NA st.mem _ k h.mem hl f0
                     exact⟨fun g=>(g rfl).elim,fun _=>⟨.inl ⟨rfl,by rw[if_neg (by omega)];exact hm⟩,by unfold M.dF;show -9223372036854775808<=(-1:Int)/\(-1:Int)<=_;omega,Ka⟩,h.words,Nat.le_succ _,fun g=>(g rfl).elim⟩
                 · rw[if_neg d5]
                   by_cases d6:i.m=6
                   · rw[if_pos d6]
                     have hm:=ho.drop st.mem _ k h.mem hl
                     exact⟨fun g=>(g rfl).elim,fun _=>⟨.inl ⟨rfl,by rw[if_pos ⟨c16,d6⟩];exact hm⟩,hi0,Ka⟩,h.words,Nat.le_succ _,fun g=>(g rfl).elim⟩
                   · rw[if_neg d6]
                     exact⟨fun g=>(g rfl).elim,fun _=>⟨.inl ⟨rfl,by rw[if_neg (by omega)];exact h.mem⟩,hi0,Ka⟩,h.words,Nat.le_succ _,fun g=>(g rfl).elim⟩
       · rw[if_neg c16]
         exact⟨fun g=>(g rfl).elim,fun _=>⟨.inl ⟨rfl,by rw[if_neg (by omega)];exact h.mem⟩,hi0,Ka⟩,h.words,Nat.le_succ _,fun g=>(g rfl).elim⟩
end
variable {σ:Type} {Ok:σ->List Bool->Prop}
structure VT (Ok:σ->List Bool->Prop) (st:St σ) (r:(Int×Int)×St σ):Prop where
 ok:lZ Ok r.2
 same:¬r.1.1=0->r.2.ps=st.ps
 kind:¬r.1.1=0->1<=r.1.1/\r.1.1<=4
theorem IP {o:vM σ} (ho:Aq o Ok) {st:St σ} (h:lZ Ok st) (hout:st.out.length<2000) (k:Nat) (hk:k<st.ps.length) (h1:(FM.au st.ps k).st=1):VT Ok st (oM o st k):=by
 have hl:=ek k hk h1
 have hm:=ho.load st.mem _ k (FM.au st.ps k).pc 8 2 h.mem hl
 have hft:=ho.fault st.mem _ k (FM.au st.ps k).pc 8 2 h.mem hl
 have hsz:=ho.size st.mem _ k (FM.au st.ps k).pc 8 2 h.mem hl (by omega) (by omega)
 unfold oM
 simp only
 obtain⟨x,hx⟩:=ex (o.load st.mem k (FM.au st.ps k).pc 8 2)
 rw[<- hx] at hm hft hsz ⊢
 clear hx
 have g1:lZ Ok { st with mem:=x.2 }:=sL h hm
 by_cases c:x.1.2.1=0
 · rw[if_neg (fun g=>g c)]
   have hfits:(PM.ins x.1.1).fits:=PM.pj _ (by have:=hsz c;omega)
   obtain⟨i,hi⟩:=ex (PM.ins x.1.1)
   rw[<- hi] at hfits ⊢
   have hL:=vd ho g1 k hk h1 i hfits
   obtain⟨y,hy⟩:=ex (bJ o { st with mem:=x.2 } k i)
   rw[<- hy] at hL ⊢
   clear hi hy
   by_cases d:y.1.2.1=0
   · rw[if_neg (fun g=>g d)]
     obtain⟨hp,hv,hb⟩:=hL.plain d
     have hw:∀z∈y.2.out,0<=z.proc/\z.proc<(st.ps.length:Int):=hL.words
     have QE:y.2.out.length<=2000:=by have:=hL.out;simp only at this;omega
     refine⟨?_,fun g=>(g rfl).elim,fun g=>(g rfl).elim⟩
     rcases hp with⟨e,hm2⟩ | ⟨hne,e,hm2⟩
     · have e':y.2.ps=st.ps:=e
       have hlen:st.ps.length=(y.2.ps.set k (PM.doneN (FM.au y.2.ps k) i y.1.1)).length:=by rw[List.length_set,e']
       rw[Ky _ _ _ hlen,e']
       have base:lZ Ok { st with out:=y.2.out }:=⟨h.mem,h.fit,h.right,hw,QE⟩
       exact IM base k hk h1 hv hb hfits (m:=y.2.mem) hm2
     · have e':y.2.ps=st.ps++[FM.au st.ps k]:=e
       have hlen:st.ps.length=(st.ps.set k (PM.doneN (FM.au st.ps k) i y.1.1)).length:=by rw[List.length_set]
       have hpk:FM.au (st.ps++[FM.au st.ps k]) k=FM.au st.ps k:=by rw[pV,if_pos hk]
       rw[e',hpk,LY _ _ _ _ hk,uj _ _ _ _ hlen]
       have hcs:(PM.doneN (FM.au st.ps k) i 0).st=1:=by rw[BC hb hne];exact h1
       have base:lZ Ok { st with out:=y.2.out }:=⟨h.mem,h.fit,h.right,hw,QE⟩
       have hz:M.dF 0:=by unfold M.dF;omega
       have d1:=IM base k hk h1 hv hb hfits (m:=st.mem) (by rw[if_neg hne];exact h.mem)
       have hr:running (st.ps.set k (PM.doneN (FM.au st.ps k) i y.1.1))=running st.ps:=by
        rw[oW,BC hb hne,decide_eq_true h1]
        apply List.ext_getElem?
        intro j
        rw[List.getElem?_set]
        by_cases e:k=j
        · subst e
          have hk':k<(running st.ps).length:=by unfold running;rw[List.length_map];exact hk
          have hg:=ek k hk h1
          rw[List.getD_eq_getElem?_getD,List.getElem?_eq_getElem hk'] at hg
          rw[if_pos rfl,if_pos hk',List.getElem?_eq_getElem hk']
          exact congrArg some hg.symm
        · rw[if_neg e]
       exact PG d1 (DR (h.fit k hk) hz hb hfits) (xU hb h1 (h.right k hk)) (m:=y.2.mem) (by
        show Ok y.2.mem (running (st.ps.set k (PM.doneN (FM.au st.ps k) i y.1.1))++_)
        rw[hr,hcs]
        exact hm2)
   · rw[if_pos d]
     obtain⟨e,g2⟩:=hL.fault d
     exact⟨g2,fun _=>e,fun _=>hL.kind d⟩
 · rw[if_pos c]
   exact⟨g1,fun _=>rfl,fun _=>⟨by show 1<=x.1.2.1;omega,hft.2.1⟩⟩
theorem FN {p:PM.Pr} {x:Int×Int} (h:p.st=1) (hr:FM.bT p=true) (h1:1<=x.1) (h4:x.1<=4):FM.bT (FW.kI p x)=true:=by
 have h2:p.cd=0:=by
  unfold FM.bT at hr
  rw[if_pos h] at hr
  simp only[Bool.and_eq_true,decide_eq_true_eq] at hr
  exact hr.1
 unfold FM.bT FW.kI
 simp only
 rw[if_neg (by decide),if_neg (by decide),if_pos trivial,h2,decide_eq_true (show 1<=x.1/\x.1<=4 from⟨h1,h4⟩)]
 rfl
theorem step_ok {o:vM σ} (ho:Aq o Ok) {st:St σ} (h:lZ Ok st) (pick:Int):lZ Ok (stepG o st pick).2:=by
 unfold stepG
 by_cases c:0<=pick/\pick<(st.ps.length:Int)
 · rw[if_neg (fun g=>g c)]
   by_cases c1:(FM.au st.ps pick.toNat).st=1
   · rw[if_neg (fun g=>g c1)]
     by_cases c2:2000<=st.out.length
     · rw[if_pos c2];exact h
     · rw[if_neg c2]
       have hk:pick.toNat<st.ps.length:=by omega
       have hd:=IP ho h (by omega) pick.toNat hk c1
       simp only
       obtain⟨r,hr⟩:=ex (oM o st pick.toNat)
       rw[<- hr] at hd ⊢
       clear hr
       by_cases c3:r.1.1=0
       · rw[if_pos c3];exact hd.ok
       · rw[if_neg c3]
         have e:=hd.same c3
         have hk2:pick.toNat<r.2.ps.length:=by rw[e];exact hk
         have c4:(FM.au r.2.ps pick.toNat).st=1:=by rw[e];exact c1
         have hlen:(r.2.ps.set pick.toNat (FW.kI (FM.au r.2.ps pick.toNat) r.1)).length=r.2.ps.length:=List.length_set
         refine⟨?_,fun j hj=>?_,fun j hj=>?_,fun x hx=>?_,hd.ok.out⟩
         · show Ok _ (running (r.2.ps.set _ _))
           rw[oW]
           exact ho.drop _ _ _ hd.ok.mem (ek _ hk2 c4)
         · have hj':j<r.2.ps.length:=hlen ▸ hj
           show oc (FM.au (r.2.ps.set _ _) j)
           rw[sA _ _ _ _ hk2]
           split
           · exact hd.ok.fit _ hk2
           · exact hd.ok.fit j hj'
         · have hj':j<r.2.ps.length:=hlen ▸ hj
           show FM.bT (FM.au (r.2.ps.set _ _) j)=true
           rw[sA _ _ _ _ hk2]
           split
           · exact FN c4 (hd.ok.right _ hk2) (hd.kind c3).1 (hd.kind c3).2
           · exact hd.ok.right j hj'
         · have:=hd.ok.words x hx
           show 0<=x.proc/\x.proc<((r.2.ps.set _ _).length:Int)
           rw[hlen];exact this
   · rw[if_pos c1];exact h
 · rw[if_pos c];exact h
theorem sk {o:vM σ} (ho:Aq o Ok) {st:St σ} (h:lZ Ok st) (picks:List Int):∀n s,ez o picks n (some st)=some s->lZ Ok s
 | 0,s,e=>by injection e with e;rw[<- e];exact h
 | n+1,s,e=>by
  unfold ez at e
  cases hq:ez o picks n (some st) with
  | none=>rw[hq] at e;cases e
  | some q =>
   rw[hq] at e
   have hq':=sk ho h picks n q hq
   simp only at e
   by_cases c:(stepG o q (picks.getD n 0)).1=2
   · rw[if_pos c] at e;cases e
   · rw[if_neg c] at e
     injection e with e
     rw[<- e]
     exact step_ok ho hq' _
end GG
namespace FW
open Go.RowKit
def BG (a b:Int):Int:=if a<b then -1 else if b<a then 1 else 0
theorem Qc (a:Int) (w:World):Calls Tryz.prog 113 #[I a] w fun e w'=>e=.returned (.bool false)/\w=w':=by
 go_enter Tryz.func113,Tryz.ntmps113
 go_wp2
 go_ret
 exact⟨by simp,rfl⟩
theorem DX (a b:Int) (w:World):Calls Tryz.prog 91 #[I a,I b] w fun e w'=>e=.returned (I (BG a b))/\w=w':=by
 have HN:=ai (fun x V=>Qc x V)
 obtain⟨A,hA⟩:=ex (BG a b)
 rw[<- hA]
 unfold BG at hA
 have HA:=ai hA
 clear hA
 by_cases h1:a<b
 · have fL:Hid (A=-1):=by show _=_;rw[HA.o,if_pos h1]
   clear HA
   go_enter Tryz.func91,Tryz.ntmps91
   go_wp2_with (go_at_call 113;refine(HN.o _ _).mono ?_;rintro e w1 ⟨rfl,rfl⟩)
   go_ret
   exact⟨by rw[fL.o];rfl,rfl⟩
 · by_cases h2:b<a
   · have fL:Hid (A=1):=by show _=_;rw[HA.o,if_neg h1,if_pos h2]
     clear HA
     go_enter Tryz.func91,Tryz.ntmps91
     go_wp2_with (go_at_call 113;refine(HN.o _ _).mono ?_;rintro e w1 ⟨rfl,rfl⟩)
     go_ret
     exact⟨by rw[fL.o];rfl,rfl⟩
   · have fL:Hid (A=0):=by show _=_;rw[HA.o,if_neg h1,if_neg h2]
     clear HA
     go_enter Tryz.func91,Tryz.ntmps91
     go_wp2_with (go_at_call 113;refine(HN.o _ _).mono ?_;rintro e w1 ⟨rfl,rfl⟩)
     go_ret
     exact⟨by rw[fL.o];rfl,rfl⟩
theorem Fh (p:Int) (d:ByteArray) (q:Int) (w:World):Calls Tryz.prog 90 #[.agg #[I p,.string d],I q] w fun e w'=>e=.returned (I (BG p q))/\Below w.heap.size w w':=by
 have HC:=ai (DX p q)
 go_enter Tryz.func90,Tryz.ntmps90
 go_wp2_with (go_at_call 91;refine(HC.o _).mono ?_;rintro e w1 ⟨rfl,rfl⟩)
 go_ret
 exact⟨rfl,(Below.refl _ _).alloc (Nat.le_refl _) _⟩
structure Low (l:List FM.Pg) (p:Int) (i:Nat):Prop where
 le:i<=l.length
 low:∀j,j<i->(FM.aN l j).page<p
 high:∀j,i<=j->j<l.length->p<=(FM.aN l j).page
def foundAt (l:List FM.Pg) (p:Int) (i:Nat):Bool:=decide (i<l.length/\(FM.aN l i).page=p)
def yn (l:List FM.Pg):Prop:=∀i j,i<j->j<l.length->(FM.aN l i).page<(FM.aN l j).page
theorem QZ (a b:Int):BG a b<0↔a<b:=by
 unfold BG
 split
 · exact⟨fun _=>by assumption,fun _=>by decide⟩
 · split <;> constructor <;> intro h <;> first | omega | (exfalso;revert h;decide)
theorem NW (a b:Int):(BG a b==0)=decide (a=b):=by
 unfold BG
 by_cases h1:a<b
 · rw[if_pos h1,decide_eq_false (by omega)];rfl
 · rw[if_neg h1]
   by_cases h2:b<a
   · rw[if_pos h2,decide_eq_false (by omega)];rfl
   · rw[if_neg h2,decide_eq_true (by omega)];rfl
theorem E6 (l:List FM.Pg) (p:Int) (ao:Option Addr) (cap:Nat) (w:World) (h:iL w ao l) (hr:yn l) (hn:l.length<=140737488351232) :
  Calls Tryz.prog 89 #[.slice ao l.length cap,I p,.func (.func 90) #[] #[]] w fun e w'=>∃i,Low l p i/\e=.returned (.tuple #[I (i:Int),.bool (foundAt l p i)])/\Below w.heap.size w w':=by
 have HH:=ai h
 have HR:=ai hr
 have HP1:=ai (fun a d V=>Fh a d p V)
 clear h hr
 go_enter Tryz.func89,Tryz.ntmps89
 go_wp2
 go_loopw [9,10] (fun iv jv wr=>∃lo hi:Nat,lo<=hi/\hi<=l.length/\iv=I (lo:Int)/\jv=I (hi:Int)/\(∀j,j<lo->(FM.aN l j).page<p)/\(∀j,hi<=j->j<l.length->p<=(FM.aN l j).page)/\Below w.heap.size w wr) (fun iv jv _=>(intOf jv).toNat-(intOf iv).toNat)
 case atStart=>exact⟨0,l.length,by omega,by omega,rfl,rfl,fun j hj=>by omega,fun j h1 h2=>by omega,Below.refl _ _⟩
 case round =>
  obtain⟨lo,hi,hlh,hhl,rfl,rfl,y7,S0,hb⟩:=hrel
  have Lp:=ai y7
  have HHI:=ai S0
  have HB:=ai hb
  clear y7 S0
  by_cases hlt:lo<hi
  · obtain⟨m,hm⟩:=ex ((lo+hi)/2)
    have z6:lo<=m:=by omega
    have hm2:m<hi:=by omega
    have hmi:((lo:Int)+hi)/2=(m:Int):=by omega
    have HMI:=ai hmi
    have hq1:((lo:Int)+hi)/2<(l.length:Int):=by omega
    have hq0:0<=((lo:Int)+hi)/2:=by omega
    have hqn:(((lo:Int)+hi)/2).toNat=m:=by omega
    obtain⟨b,off,hao,hbl,bP⟩:=(HH.o.below hb) (by omega)
    subst hao
    obtain⟨c0,c1⟩:=bP m (by omega)
    have EL:=ai (QZ (FM.aN l m).page p)
    have mR:=ai (HP1.o (FM.aN l m).page (FM.aN l m).data)
    have HUP:Hid ((FM.aN l m).page<p->∀j,j<m+1->(FM.aN l j).page<p):=fun e j hj=>by
     by_cases q:j=m
     · rw[q];exact e
     · have:=HR.o j m (by omega) (by omega)
       omega
    have Jb:Hid (¬(FM.aN l m).page<p->∀j,m<=j->j<l.length->p<=(FM.aN l j).page):=fun e j h1 h2=>by
     by_cases q:j=m
     · rw[q];omega
     · have:=HR.o m j (by omega) h2
       omega
    obtain⟨pg,mA⟩:=ex ((FM.aN l m).page)
    obtain⟨dt,Dw⟩:=ex ((FM.aN l m).data)
    rw[<- mA] at c0 EL mR HUP Jb
    rw[<- Dw] at c1 mR
    rw[hm] at c0 c1
    obtain⟨cm,hcm⟩:=ex (BG pg p)
    rw[<- hcm] at EL mR
    clear hmi hm hqn bP hb mA Dw hcm
    by_cases hcn:cm<0
    · have HU2:=ai (HUP.o (EL.o.1 hcn))
      clear HUP Jb
      go_wp2_with (go_at_call 90;refine(mR.o _).mono ?_;rintro e w1 ⟨rfl,hb1⟩;have bj:=ai (aB HB.o hb1);clear hb1)
      go_roundw
      case rel=>exact⟨m+1,hi,by omega,hhl,congrArg (Value.int .i64) (by have:=HMI.o;omega),rfl,HU2.o,HHI.o,bj.o⟩
      case measure=>simp[intOf];have:=HMI.o;omega
    · have Cq:=ai (Jb.o (fun g=>hcn (EL.o.2 g)))
      clear HUP Jb
      go_wp2_with (go_at_call 90;refine(mR.o _).mono ?_;rintro e w1 ⟨rfl,hb1⟩;have bj:=ai (aB HB.o hb1);clear hb1)
      go_roundw
      case rel=>exact⟨lo,m,z6,by omega,rfl,congrArg (Value.int .i64) HMI.o,Lp.o,Cq.o,bj.o⟩
      case measure=>simp[intOf];have:=HMI.o;omega
  · obtain rfl:lo=hi:=by omega
    have HLW:Hid (Low l p lo):=⟨hhl,Lp.o,HHI.o⟩
    by_cases yZ:lo<l.length
    · obtain⟨b,off,hao,hbl,bP⟩:=(HH.o.below hb) (by omega)
      subst hao
      obtain⟨c0,c1⟩:=bP lo yZ
      have mR:=ai (HP1.o (FM.aN l lo).page (FM.aN l lo).data)
      have HCZ:=ai (NW (FM.aN l lo).page p)
      have HDC:Hid (foundAt l p lo=decide ((FM.aN l lo).page=p)):=by
       show _=_
       unfold foundAt
       rw[decide_eq_decide]
       exact⟨fun g=>g.2,fun g=>⟨yZ,g⟩⟩
      obtain⟨pg,mA⟩:=ex ((FM.aN l lo).page)
      obtain⟨dt,Dw⟩:=ex ((FM.aN l lo).data)
      have ajd:=HDC
      rw[<- mA] at c0 mR HCZ
      rw[<- Dw] at c1 mR
      have Tn:=ai mA
      clear mA Dw bP hb hlt
      go_wp2_with (go_at_call 90;refine(mR.o _).mono ?_;rintro e w1 ⟨rfl,hb1⟩;have bj:=ai (aB HB.o hb1);clear hb1)
      go_ret2
      refine⟨lo,HLW.o,?_,bj.o⟩
      rw[HDC.o,<- Tn.o,<- HCZ.o]
      rfl
    · have HDC:Hid (foundAt l p lo=false):=decide_eq_false (fun g=>yZ g.1)
      have hge:¬(lo:Int)<(l.length:Int):=by omega
      clear hb hlt
      go_wp2
      go_ret2
      refine⟨lo,HLW.o,?_,HB.o⟩
      rw[HDC.o]
      rfl
theorem zM (l:List FM.Pg) (p:Int) (ao:Option Addr) (cap:Nat) (w:World) (h:iL w ao l) (hr:yn l) (hn:l.length<=140737488351232) :
  Calls Tryz.prog 60 #[.slice ao l.length cap,I p] w fun e w'=>∃i,Low l p i/\e=.returned (.tuple #[I (i:Int),.bool (foundAt l p i)])/\Below w.heap.size w w':=by
 have HS:=ai (E6 l p ao cap w h hr hn)
 clear h hr
 go_enter Tryz.func60,Tryz.ntmps60
 go_wp2_with (go_at_call 89;refine HS.o.mono ?_;rintro e w1 ⟨i,hi,rfl,hb1⟩;have HL:=ai hi;have bj:=ai hb1;clear hb1 hi)
 go_ret2
 exact⟨i,HL.o,rfl,bj.o⟩
def cJ (p:Int):List FM.Pg->Option ByteArray
 | []=>none
 | x::r=>if x.page=p then some x.data else cJ p r
def xg:Option ByteArray->ByteArray×Bool
 | none=>(⟨#[]⟩,false)
 | some d=>(d,true)
theorem sB:∀(l:List FM.Pg) (p:Int) (k:Nat),k<l.length->(∀j,j<k->¬(FM.aN l j).page=p)->(FM.aN l k).page=p->cJ p l=some (FM.aN l k).data
 | [],p,k,h,_,_=>by simp at h
 | x::r,p,0,h,_,e=>by
  show(if x.page=p then some x.data else cJ p r)=_
  rw[if_pos (show x.page=p from e)]
  rfl
 | x::r,p,k+1,h,hn,e=>by
  show(if x.page=p then some x.data else cJ p r)=_
  rw[if_neg (show ¬x.page=p from hn 0 (by omega))]
  exact sB r p k (by simp at h;omega) (fun j hj=>hn (j+1) (by omega)) e
theorem zO:∀(l:List FM.Pg) (p:Int),(∀j,j<l.length->¬(FM.aN l j).page=p)->cJ p l=none
 | [],p,_=>rfl
 | x::r,p,h=>by
  show(if x.page=p then some x.data else cJ p r)=_
  rw[if_neg (show ¬x.page=p from h 0 (by simp))]
  exact zO r p (fun j hj=>h (j+1) (by simp;omega))
theorem sX (l:List FM.Pg) (p:Int) (lv:Bool) (va:Value) (ao:Option Addr) (cap:Nat) (w:World) (h:iL w ao l) (hn:l.length<=140737488351232) :
  Calls Tryz.prog 20 #[.agg #[.bool lv,va,.slice ao l.length cap],I p] w fun e w'=>e=.returned (.tuple #[.string (xg (cJ p l)).1,.bool (xg (cJ p l)).2])/\Below w.heap.size w w':=by
 have HH:=ai h
 have K0:Hid (∀k,k<l.length->(∀j,j<k->¬(FM.aN l j).page=p)->(FM.aN l k).page=p->cJ p l=some (FM.aN l k).data):=fun k=>sB l p k
 have mS:=ai (zO l p)
 obtain⟨R,hR⟩:=ex (cJ p l)
 rw[<- hR] at K0 mS ⊢
 clear h hR
 have cM:=ai ((Below.refl w.heap.size w).alloc (Nat.le_refl _) (.cells #[.bool lv,va,.slice ao l.length cap] 53))
 have X0:=ai (B.new w #[.bool lv,va,.slice ao l.length cap] 53)
 go_enter Tryz.func20,Tryz.ntmps20
 go_wp2
 go_loopw [6] (fun iv wr=>∃k:Nat,k<=l.length/\iv=I (k:Int)/\(∀j,j<k->¬(FM.aN l j).page=p)/\wr.heap[w.heap.size]?=some (.cells #[.bool lv,va,.slice ao l.length cap] 53 (0,0))/\Below w.heap.size w wr) (fun iv _=>l.length-(intOf iv).toNat)
 case atStart=>exact⟨0,by omega,rfl,fun j hj=>by omega,X0.o,cM.o⟩
 case round =>
  obtain⟨k,hk,rfl,hall,hx,hb⟩:=hrel
  have HB:=ai hb
  have HX:=ai hx
  have nD:=ai hall
  have x2:wr.cell? (Ad w.heap.size 2)=some (.slice ao l.length cap):=B.cell hx 2 rfl
  clear hall hx
  by_cases hlt:k<l.length
  · obtain⟨b,off,hao,hbl,bP⟩:=(HH.o.below hb) (by omega)
    subst hao
    obtain⟨c0,c1⟩:=bP k hlt
    have fL:=ai (K0.o k hlt nD.o)
    have HST:Hid (¬(FM.aN l k).page=p->∀j,j<k+1->¬(FM.aN l j).page=p):=fun e j hj=>by
     by_cases q:j=k
     · rw[q];exact e
     · exact nD.o j (by omega)
    obtain⟨pg,mA⟩:=ex ((FM.aN l k).page)
    obtain⟨dt,Dw⟩:=ex ((FM.aN l k).data)
    rw[<- mA] at c0 fL HST
    rw[<- Dw] at c1 fL
    clear mA Dw bP hb nD
    by_cases hq:pg=p
    · have uy:=ai (fL.o hq)
      have hqi:(pg==p)=true:=by rw[beq_iff_eq];exact hq
      clear hq fL HST
      go_wp2
      go_ret2
      exact⟨by rw[uy.o];rfl,HB.o⟩
    · have ql:=ai (HST.o hq)
      have hqi:(pg==p)=false:=by rw[beq_eq_false_iff_ne];exact hq
      clear hq fL HST
      go_wp2
      go_roundw
      case rel=>exact⟨k+1,by omega,by go_num,ql.o,HX.o,HB.o⟩
      case measure=>simp[intOf];omega
  · obtain rfl:k=l.length:=by omega
    have vg:=ai (mS.o nD.o)
    clear hb
    go_wp2
    go_ret2
    exact⟨by rw[vg.o];rfl,HB.o⟩
theorem E8 {l:List FM.Pg} (h:(FM.numbers l).Pairwise (·<·)):yn l:=fun i j hij hj=>by
 have hl:(FM.numbers l).length=l.length:=List.length_map _
 have:=List.pairwise_iff_getElem.1 h i j (by omega) (by omega) hij
 rw[<- FM.jx,<- FM.jx,List.getD_eq_getElem?_getD,List.getD_eq_getElem?_getD,List.getElem?_eq_getElem (show i<(FM.numbers l).length by omega),List.getElem?_eq_getElem (show j<(FM.numbers l).length by omega)]
 exact this
end FW
namespace CL
open Go.RowKit Go.Lib
theorem mh (P:Program) (g o:Nat) (t:TypeId) (m1 m2:Nat):∀(vs:List Value) (i:Nat) (cur:Array Value) (w:World),w.heap[g]?=some (.cells cur t (m1,m2))->cur.size<=m1->o+i+vs.length<=cur.size->(∀v∈vs,v.oneCell'=true) ->
  (storeCells (Ad g o) vs i).run P w=.ok () (w.setRow g (cur.toList.take (o+i)++vs++cur.toList.drop (o+i+vs.length)).toArray)
 | [],i,cur,w,hg,_,_,_=>by
  simp only[storeCells,List.append_nil,List.length_nil,Nat.add_zero,List.take_append_drop,Array.toArray_toList]
  rw[setRow_self w g cur t (m1,m2) hg]
  rfl
 | v::rest,i,cur,w,hg,hm,hl,h1=>by
  have hi:o+i<cur.size:=by simp at hl;omega
  have hadd:((Ad g o):Addr).add i=(Ad g (o+i)):=by unfold Addr.add;split <;> simp_all
  have hcell:w.cell? (Ad g (o+i))=some cur[o+i]:=by simp[World.cell?,hg,hi]
  have hfro:w.frozen? (Ad g (o+i))=false:=by simp[World.frozen?,hg];omega
  have hst:(store (((Ad g o):Addr).add i) v).run P w=.ok () (w.setRow g (cur.setIfInBounds (o+i) v)):=by
   rw[hadd,run_store P w _ v _ (h1 v (by simp)),hcell]
   simp[hfro,setCell_eq_setRow w g (o+i) cur t (m1,m2) v hg]
  have ih:=mh P g o t m1 m2 rest (i+1) (cur.setIfInBounds (o+i) v) (w.setRow g (cur.setIfInBounds (o+i) v)) (setRow_heap w g cur _ t _ hg) (by simpa using hm) (by simp at hl ⊢;omega) (fun x hx=>h1 x (by simp[hx]))
  simp only[storeCells,Sem.run_bind,hst,Result.andThen_ok,ih,setRow_setRow]
  congr 3
  have e:=list_seg_step cur.toList (o+i) v rest (by simp at hl ⊢;omega)
  simpa [Array.toList_setIfInBounds,Nat.add_assoc] using e
theorem DW {P:Program} (w:World) (dT sT ty elem:TypeId) (g o dLen dCap:Nat) (s:ByteArray) (cur:Array Value) (t:TypeId) (m1 m2:Nat)
  (hu:P.underlying dT=some (.slice elem)) (hs:(P.info? elem).map (·.size)=some 1) (hg:w.heap[g]?=some (.cells cur t (m1,m2))) (hm:cur.size<=m1) (hle:s.size<=dLen) (hfit:o+s.size<=cur.size) :
  (Builtin.copy_ #[dT,sT] ty #[.slice (some (Ad g o)) dLen dCap,.string s]).run P w =
   .ok (goInt s.size) (w.setRow g (cur.toList.take o++Lib.byteCells s.data.toList++cur.toList.drop (o+s.size)).toArray):=by
 have hlen:(Lib.byteCells s.data.toList).length=s.size:=by rw[Lib.byteCells_length,<- size_eq]
 have hst:=mh P g o t m1 m2 (Lib.byteCells s.data.toList) 0 cur w hg hm (by rw[hlen];simpa using hfit) (Lib.byteCells_one _)
 have hmin:Nat.min s.size dLen=s.size:=Nat.min_eq_left hle
 have htk:List.take s.size (List.map (fun b:UInt8=>Value.int IntKind.u8 (b.toNat:Int)) s.data.toList)=Lib.byteCells s.data.toList:=by
  rw[List.take_of_length_le (by rw[List.length_map,<- size_eq];exact Nat.le_refl _)]
  rfl
 rw[hlen] at hst
 simp only[Nat.add_zero] at hst
 cases hq:P.info? elem with
 | none=>simp[hq] at hs
 | some i =>
  simp[Builtin.copy_,run_underlying hu,Builtin.lenOf,Builtin.firstCells,sizeOf,typeInfo,hq,hmin]
  rw[htk,hst]
  simp[Result.andThen]
theorem zo (s:ByteArray) (c:Nat):(bytesRow s c).size=s.size+(c-s.size):=by
 simp[bytesRow]
def over (s:ByteArray) (o:Nat) (t:ByteArray):ByteArray:=⟨(s.data.toList.take o++t.data.toList++s.data.toList.drop (o+t.size)).toArray⟩
theorem Fv (s:ByteArray) (o:Nat) (t:ByteArray) (c:Nat) (h:o+t.size<=s.size) (i:Nat) (hi:i<s.size) :
  ((bytesRow s c).toList.take o++Lib.byteCells t.data.toList++(bytesRow s c).toList.drop (o+t.size))[i]?=some (.int .u8 (((over s o t).data.toList.map fun b=>(b.toNat:Int)).getD i 0)):=by
 have hts:t.size=t.data.toList.length:=size_eq t
 have XD:s.size=s.data.toList.length:=size_eq s
 have hr:(bytesRow s c).toList=Lib.byteCells s.data.toList++List.replicate (c-s.size) (.int .u8 0):=by
  simp[bytesRow,Lib.byteCells]
 have e:(bytesRow s c).toList.take o++Lib.byteCells t.data.toList++(bytesRow s c).toList.drop (o+t.size)=Lib.byteCells (over s o t).data.toList++List.replicate (c-s.size) (.int .u8 0):=by
  rw[hr,List.take_append_of_le_length (by rw[Lib.byteCells_length];omega),List.drop_append_of_le_length (by rw[Lib.byteCells_length];omega)]
  simp[over,Lib.byteCells,List.map_append,List.map_take,List.map_drop]
 have hol:(over s o t).data.toList.length=s.size:=by
  simp only[over,List.length_append,List.length_take,List.length_drop];omega
 rw[e,List.getElem?_append_left (by rw[Lib.byteCells_length,hol];exact hi)]
 exact CM.qM _ i (by rw[hol];exact hi)
theorem zR (s:ByteArray) (o:Nat) (t:ByteArray) (h:o+t.size<=s.size):(over s o t).data.toList.length=s.size:=by
 have hts:t.size=t.data.toList.length:=size_eq t
 have XD:s.size=s.data.toList.length:=size_eq s
 simp only[over,List.length_append,List.length_take,List.length_drop];omega
theorem Fu (s:ByteArray) (o:Nat) (t:ByteArray):s.extract 0 o++t++s.extract (o+t.size) s.size=over s o t:=by
 have XD:s.size=s.data.toList.length:=size_eq s
 apply ByteArray.ext
 apply Array.toList_inj.1
 simp only[ByteArray.data_append,Array.toList_append,extract_data,over]
 have e:List.take (s.size-(o+t.size)) (List.drop (o+t.size) s.data.toList)=List.drop (o+t.size) s.data.toList:=List.take_of_length_le (by rw[List.length_drop];omega)
 rw[List.drop_zero,Nat.sub_zero,e]
theorem Mq (s:ByteArray) (o:Nat) (t:ByteArray) (h:t.size=0):over s o t=s:=by
 have hts:t.data.toList=[]:=List.eq_nil_of_length_eq_zero (by rw[<- size_eq];exact h)
 apply ByteArray.ext
 simp[over,hts,h]
theorem jw (s:ByteArray) (o:Nat) (t:ByteArray) (h:o+t.size<=s.size):(over s o t).size=s.size:=by
 rw[size_eq,zR s o t h]
end CL
end Go.Proofs.YtkdigjpejnebkaaGreat
