import Derived.Test.YtpgifpeohlllfaaGreatGV13
set_option maxHeartbeats 20000000
set_option linter.unusedVariables false
set_option maxRecDepth 100000
set_option linter.unusedSimpArgs false
namespace Go.Proofs.YtpgifpeohlllfaaGreat
namespace Go.Proofs.YtpgifpeohlllfaaGreat
open Go.RowKit
variable {lo mb:Nat} {tt:TypeId} {X:List Value} {w:World} {S:dN} {k:aN}
theorem Mo (h:bQ lo mb tt X w S k) {g j:Nat} {u:Value} {c:iH} (hg:S.lab g=c) (hc:c≠.head):(w.setCell (Ad g j) u).heap[mb]?=some (.cells ([S.vS,S.vF,S.vL,S.vP,I k.hand]++X).toArray tt (0,0)) :=
 jT h.head g j u (fun e=>hc (by grind [bQ.lH]))
theorem bQ.Ch (h:bQ lo mb tt X w S k) {g n cap:Nat} (hv:S.vF=.slice (some (Ad g 0)) n cap) {i j:Nat} (hi:i<k.frames.length) (hj:j<4) {f:kj} {u:Value} (e:gq f=(gq (au k.frames i)).set j u) :
  bQ lo mb tt X (w.setCell (Ad g (i*4+j)) u) S { k with frames:=k.frames.set i f }:=⟨h.toiZ.Ch hv hi hj e,Mo h (h.lF g (by rw[hv];rfl)) (by simp),h.lH⟩
theorem bQ.acD (h:bQ lo mb tt X w S k) {g n cap:Nat} (hv:S.vL=.slice (some (Ad g 0)) n cap) {i j:Nat} (hi:i<k.slots.length) (hj:j<2) {f:mO} {u:Value} (e:gp f=(gp (bw k.slots i)).set j u) :
  bQ lo mb tt X (w.setCell (Ad g (i*2+j)) u) S { k with slots:=k.slots.set i f }:=⟨h.toiZ.acD hv hi hj e,Mo h (h.lL g (by rw[hv];rfl)) (by simp),h.lH⟩
theorem tV (h:iZ lo w S k) {g n cap:Nat} (hv:S.vF=.slice (some (Ad g 0)) n cap) {V:World} {i:Nat} {u:Value}:dI S V S (V.setCell (Ad g i) u):=dI.set (by rw[h.lF g (by rw[hv];rfl)];simp)
theorem Vj (h:iZ lo w S k) {g n cap:Nat} (hv:S.vL=.slice (some (Ad g 0)) n cap) {V:World} {i:Nat} {u:Value}:dI S V S (V.setCell (Ad g i) u):=dI.set (by rw[h.lL g (by rw[hv];rfl)];simp)
theorem bQ.WW (h:bQ lo mb tt X w S k) {g n cap:Nat} (hv:S.vF=.slice (some (Ad g 0)) n cap) {i:Nat} (hi:i<k.frames.length) (f:kj) :
  bQ lo mb tt X ((((w.setCell (Ad g (i*4)) (.string f.data)).setCell (Ad g (i*4+1)) (I f.refs)).setCell (Ad g (i*4+2)) (.bool f.fN)).setCell (Ad g (i*4+3)) (.bool f.seen)) S { k with frames:=k.frames.set i f } /\
  dI S w S ((((w.setCell (Ad g (i*4)) (.string f.data)).setCell (Ad g (i*4+1)) (I f.refs)).setCell (Ad g (i*4+2)) (.bool f.fN)).setCell (Ad g (i*4+3)) (.bool f.seen)):=by
 have h1:=h.Ch hv hi (j:=0) (by omega) (f:=⟨f.data,(au k.frames i).refs,(au k.frames i).fN,(au k.frames i).seen⟩) (u:=.string f.data) rfl;have h2:=h1.Ch hv (i:=i) (by grind) (j:=1) (by omega) (f:=⟨f.data,f.refs,(au k.frames i).fN,(au k.frames i).seen⟩) (u:=I f.refs) (by simp only[au,eX _ _ _ _ hi];rfl);have h3:=h2.Ch hv (i:=i) (by grind) (j:=2) (by omega) (f:=⟨f.data,f.refs,f.fN,(au k.frames i).seen⟩) (u:=.bool f.fN) (by simp only[au,rh,eX _ _ _ _ hi];rfl);have h4:=h3.Ch hv (i:=i) (by grind) (j:=3) (by omega) (f:=f) (u:=.bool f.seen) (by simp only[au,rh,eX _ _ _ _ hi];rfl);simp only[rh] at h4;exact⟨h4,(((tV h.toiZ hv).trans (tV h.toiZ hv)).trans (tV h.toiZ hv)).trans (tV h.toiZ hv)⟩
theorem bQ.agq (h:bQ lo mb tt X w S k) {g n cap:Nat} (hv:S.vL=.slice (some (Ad g 0)) n cap) {i:Nat} (hi:i<k.slots.length) (f:mO) :
  bQ lo mb tt X ((w.setCell (Ad g (i*2)) (.string f.data)).setCell (Ad g (i*2+1)) (I f.refs)) S { k with slots:=k.slots.set i f } /\
  dI S w S ((w.setCell (Ad g (i*2)) (.string f.data)).setCell (Ad g (i*2+1)) (I f.refs)):=by
 have h1:=h.acD hv hi (j:=0) (by omega) (f:=⟨f.data,(bw k.slots i).refs⟩) (u:=.string f.data) rfl;have h2:=h1.acD hv (i:=i) (by grind) (j:=1) (by omega) (f:=f) (u:=I f.refs) (by simp only[bw,eX _ _ _ _ hi];rfl);simp only[rh] at h2;exact⟨h2,(Vj h.toiZ hv).trans (Vj h.toiZ hv)⟩
theorem bQ.abO (h:bQ lo mb tt X w S k) (x:Int):bQ lo mb tt X (w.setCell (Ad mb 4) (I x)) S { k with hand:=x }/\dI S w S (w.setCell (Ad mb 4) (I x)):=by
 have hk:aH (fun b=>b=mb) w (w.setCell (Ad mb 4) (I x)):=aH.set _ _ _ _ rfl;have z:∀{b:Nat} {c:iH},S.lab b=c->c≠.head->¬b=mb:=fun e hc x=>hc (by grind [lH])
 refine⟨⟨⟨fun b hb=>⟨(h.qF b hb).1,jt (h.qF b hb).2 hk.size⟩,hk.row h.aA (fun b hb=>z (h.lS b hb) (by simp)),fun i hi=>hk.row (h.dn i hi) (fun b hb=>z (h.lX i hi b hb) (by simp)),hk.row h.frames (fun b hb=>z (h.lF b hb) (by simp)),hk.row h.slots (fun b hb=>z (h.lL b hb) (by simp)),hk.row h.aj (fun b hb=>z (h.lP b hb) (by simp)),h.len,fun i hi=>(h.each i hi).kp hk (fun b hb=>z (h.lA i hi b hb) (by simp)) (fun b hb=>z (h.lE i hi b hb) (by simp)),h.lS,h.lX,h.lF,h.lL,h.lP,h.lA,h.lE⟩,?_,h.lH⟩,dI.set (by grind)⟩;rw[dG h.head 4 (I x)];simp
theorem bQ.turn {w2:World} (h:bQ lo mb tt X w S k) {j:Nat} (hj:j<k.aj.length) {l:xc} {s:dm} {lab':Nat->iH}
  (hk:aH (fun b=>S.lab b=.aW j∨S.lab b=.aj∨S.lab b=.aZ j) w w2) (hrow:w2.ownsRow lo 43 3 S.vP S.L.length ((S.L.set j l).flatMap fL)) (hs:l6 lo w2 l s)
  (hb:∀b,lab' b≠.no->lo<=b/\b<w2.heap.size) (hlab:∀b c,S.lab b=c->c≠.no->c≠.aZ j->c≠.aW j->lab' b=c) (hA:∀b,bI l.va b->lab' b=.aZ j) (hE:∀b,bI l.vp b->lab' b=.aW j) :
  bQ lo mb tt X w2 ⟨lab',S.vS,S.vF,S.vL,S.vP,S.L.set j l⟩ { k with aj:=k.aj.set j s } :=
 ⟨h.toiZ.turn hj hk hrow hs hb hlab hA hE,hk.keep h.head (fun x=>by grind [lH]),hlab mb _ h.lH (by simp) (by simp) (by simp)⟩
theorem PJ (L:List xc) (j:Nat):L.set j (cA L j)=L:=by
 grind [cA,List.set_getElem_self,List.set_eq_of_length_le]
theorem bQ.ad0 (h:bQ lo mb tt X w S k) {j:Nat} (hj:j<k.aj.length) {g n cap:Nat} (hv:(cA S.L j).vp=.slice (some (Ad g 0)) n cap) {i c:Nat} (hi:i<(ak k.aj j).aW.length) (hc:c<3) {e:bC} {u:Value} (he:bk e=(bk (aI (ak k.aj j).aW i)).set c u) :
  bQ lo mb tt X (w.setCell (Ad g (i*3+c)) u) S { k with aj:=k.aj.set j (dX (ak k.aj j) ((ak k.aj j).aW.set i e)) }/\dI S w S (w.setCell (Ad g (i*3+c)) u):=by
 have hgl:S.lab g=.aW j:=h.lE j hj g (by rw[hv];rfl);have hk:aH (fun b=>b=g) w (w.setCell (Ad g (i*3+c)) u):=aH.set _ _ _ _ rfl;have z:∀{b:Nat} {c:iH},S.lab b=c->c≠.aW j->¬b=g:=fun e hc x=>hc (by grind)
 have hs:=h.each j hj;have hn:n=(ak k.aj j).aW.length:=by
  obtain⟨ao,c,e,_⟩:=aY hs.aR
  grind
 subst hn;have hr:=hs.aR;rw[hv] at hr;refine⟨?_,dI.set (by grind)⟩;have:=h.turn (w2:=w.setCell (Ad g (i*3+c)) u) hj (l:=cA S.L j) (s:=dX (ak k.aj j) ((ak k.aj j).aW.set i e)) (lab':=S.lab) (hk.mono (fun b _ e=>.inl (by grind))) (by rw[PJ];exact hk.row h.aj (fun b hb=>z (h.lP b hb) (by simp))) ⟨hs.live,hk.row hs.aZ (fun b hb=>z (h.lA j hj b hb) (by simp)),?_⟩ (fun b hb=>⟨(h.qF b hb).1,jt (h.qF b hb).2 hk.size⟩) (fun b c e _ _ _=>e) (fun b hb=>h.lA j hj b hb) (fun b hb=>h.lE j hj b hb)
 · simp_all [PJ]
 · have r2:=pD hr (i*3+c) u;show World.ownsRow _ lo _ 3 (cA S.L j).vp ((ak k.aj j).aW.set i e).length (((ak k.aj j).aW.set i e).flatMap bk);rw[jk,hv,n9 bk 3 (fun _=>rfl) eD e c u hc _ i hi he];exact r2
def uO (S:dN) (j:Nat) (v:Value):Nat->iH:=fun b=>if v.ownBlock=some b then .aW j else S.lab b
def si (S:dN) (j:Nat) (v:Value):Nat->iH:=fun b=>if v.ownBlock=some b then .aZ j else S.lab b
theorem bQ.SG {w1:World} (h:bQ lo mb tt X w S k) {j:Nat} (hj:j<k.aj.length) {v:Value} {es:List bC} {pb n cap:Nat} (hP:S.vP=.slice (some (Ad pb 0)) n cap)
  (hk:aH (fun b=>S.lab b=.aW j) w w1) (hr:w1.ownsRow lo 45 3 v es.length (es.flatMap bk)) (hat:∀b,bI v b->S.lab b=.aW j∨S.lab b=.no) :
  bQ lo mb tt X (w1.setCell (Ad pb (j*3+2)) v) ⟨uO S j v,S.vS,S.vF,S.vL,S.vP,S.L.set j ⟨(cA S.L j).lv,(cA S.L j).va,v⟩⟩ { k with aj:=k.aj.set j (dX (ak k.aj j) es) } /\
  ((∀b,b<w.heap.size->bI v b->S.lab b=.aW j)->dI S w ⟨uO S j v,S.vS,S.vF,S.vL,S.vP,S.L.set j ⟨(cA S.L j).lv,(cA S.L j).va,v⟩⟩ (w1.setCell (Ad pb (j*3+2)) v)):=by
 have hpl:S.lab pb=.aj:=h.lP pb (by rw[hP];rfl);have mj:aH (fun b=>b=pb) w1 (w1.setCell (Ad pb (j*3+2)) v):=aH.set _ _ _ _ rfl;have hs:=h.each j hj;have hl:=h.len;have hrl:∀b,bI v b->lo<=b/\b<w1.heap.size:=fun b hb=>hr.lt b hb
 have hlab:∀b c,S.lab b=c->c≠.no->c≠.aW j->uO S j v b=c:=fun b c e h1 h2=>by
  unfold uO;rw[bl,e];intro x;rcases hat b x with y | y
  · grind
  grind
 have hn:n=S.L.length:=by
  obtain⟨ao,c,e,_⟩:=aY h.aj
  grind
 subst hn;have hr1:=hk.row h.aj (fun b hb e=>by rw[h.lP b hb] at e;simp at e);rw[hP] at hr1;have hr2:=pD hr1 (j*3+2) v;rw[<- n9 fL 3 (fun _=>rfl) Lf ⟨(cA S.L j).lv,(cA S.L j).va,v⟩ 2 v (by omega) S.L j (by omega) rfl] at hr2;have hsz:=gJ hk.size mj.size;refine⟨h.turn hj (l:=⟨(cA S.L j).lv,(cA S.L j).va,v⟩) (s:=dX (ak k.aj j) es) (lab':=uO S j v) ((hk.mono (D1:=fun b=>S.lab b=.aW j∨S.lab b=.aj∨S.lab b=.aZ j) (fun b _ e=>.inl e)).trans mj (fun b _ e=>.inr (.inl (by grind)))) (by grind) ⟨hs.live,?_,?_⟩ ?_ (fun b c e h1 _ h3=>hlab b c e h1 h3) (fun b hb=>hlab b _ (h.lA j hj b hb) (by simp) (by simp)) (fun b hb=>bf hb),fun hold=>⟨?_,?_,rfl,rfl,rfl,rfl⟩⟩
 · exact mj.row (hk.row hs.aZ (fun b hb e=>by rw[h.lA j hj b hb] at e;simp at e)) (fun b hb e=>by have:=h.lA j hj b hb;grind)
 · exact mj.row hr (fun b hb e=>by
    subst e;rcases hat b hb with y | y <;> · grind)
 · intro b hb;unfold uO at hb;by_cases c:v.ownBlock=some b
   · exact⟨(hrl b c).1,jt (hrl b c).2 mj.size⟩
   · rw[bl c] at hb;exact⟨(h.qF b hb).1,jt (h.qF b hb).2 hsz⟩
 · exact(hk.mono (fun b _ e=>by grind)).trans mj (fun b _ e=>by grind)
 · intro b hb hno;show uO S j v b=.no;unfold uO;rw[bl,hno];intro x;have:=hold b hb x
   grind
theorem n7 {α:Type} (d:α):∀(l m:List α),l.length=m.length->(∀i,i<l.length->l.getD i d=m.getD i d)->l=m
 | [],[],_,_=>rfl
 | [],b::r,h,_=>by simp at h
 | a::r,[],h,_=>by simp at h
 | a::r,b::t,h,g=>by
  have h0:a=b:=g 0 (NJ _);have h1:=n7 d r t (by grind) (fun i hi=>g (i+1) (NI hi))
  grind
def FQ (f:kj) (d:Int):kj:=if f.refs+d=0 then gD else ⟨f.data,f.refs+d,f.fN,f.seen⟩
def FP (f:mO) (d:Int):mO:=if f.refs+d=0 then nU else ⟨f.data,f.refs+d⟩
def ku (k:aN) (e:bC) (d:Int):aN:=if e.kind=1 then { k with frames:=k.frames.set e.loc.toNat (FQ (au k.frames e.loc.toNat) d) } else { k with slots:=k.slots.set e.loc.toNat (FP (bw k.slots e.loc.toNat) d) }
theorem EW (k:aN) (e:bC):ku k e (-1)=df k e:=by
 rfl
theorem DA (k:aN) (e:bC):(df k e).aj=k.aj:=by grind [df]
theorem RT (k:aN) (e:bC):(df k e).aA=k.aA/\(df k e).hand=k.hand:=by grind [df]
theorem VC (k:aN) (e:bC):(df k e).frames.length=k.frames.length/\(df k e).slots.length=k.slots.length:=by
 grind [df]
def mC (k:aN) (j:Nat) (es:List bC):aN:={ k with aj:=k.aj.set j (dX (ak k.aj j) es) }
theorem RR (k:aN) (j:Nat) (es:List bC) (e:bC):df (mC k j es) e=mC (df k e) j es:=by grind [df,mC]
theorem Vr (k:aN) (j:Nat) (hj:j<k.aj.length) (es fs:List bC):mC (mC k j es) j fs=mC k j fs:=by
 unfold mC;simp only[rh];rw[ja _ _ _ _ hj,bf rfl];rfl
theorem Vs (k:aN) (j:Nat) (hj:j<k.aj.length):mC k j (ak k.aj j).aW=k:=by
 unfold mC;have:k.aj.set j (dX (ak k.aj j) (ak k.aj j).aW)=k.aj:=n7 uP _ _ jk (fun i hi=>by
  have:=ja k.aj j i (dX (ak k.aj j) (ak k.aj j).aW) hj;unfold ak at this ⊢;rw[this];by_cases c:j=i
  · rw[bf c,c];rfl
  grind)
 rw[this]
theorem aaT (k:aN) (j:Nat) (hj:j<k.aj.length) (es:List bC):(ak (mC k j es).aj j).aW=es:=by
 show(ak (k.aj.set j _) j).aW=es;rw[ja _ _ _ _ hj,bf rfl];rfl
def cU (k:aN) (es:List bC) (p:bC->Bool):Nat->aN
 | 0=>k
 | n+1=>if p (aI es n) then df (cU k es p n) (aI es n) else cU k es p n
def gA (es:List bC) (p:bC->Bool):List bC:=es.filter fun e=>!p e
def fI (k:aN) (j:Nat) (p:bC->Bool):aN:=mC (cU k (ak k.aj j).aW p (ak k.aj j).aW.length) j (gA (ak k.aj j).aW p)
theorem lO (k:aN) (es:List bC) (p:bC->Bool):∀n,(cU k es p n).aj=k.aj
 | 0=>rfl
 | n+1=>by
  unfold cU;split
  · rw[DA,lO k es p n]
  · exact lO k es p n
theorem uj (k:aN) (es:List bC) (p:bC->Bool):∀n,(cU k es p n).aA=k.aA/\(cU k es p n).hand=k.hand/\(cU k es p n).frames.length=k.frames.length/\(cU k es p n).slots.length=k.slots.length
 | 0=>⟨rfl,rfl,rfl,rfl⟩
 | n+1=>by
  have ih:=uj k es p n
  grind [cU,RT,VC]
theorem VG (es:List bC) (n:Nat) (h:n<es.length):es.drop n=aI es n::es.drop (n+1):=by
 grind [List.drop_eq_getElem_cons,aI]
theorem C4 (es:List bC) (p:bC->Bool) (n:Nat) (h:n<es.length):gA (es.take (n+1)) p=gA (es.take n) p++(if p (aI es n) then [] else [aI es n]):=by
 grind [gA,xY]
theorem uS {k:aN} (h:bg k) {j:Nat} (hj:j<k.aj.length) (p:bC->Bool):∀n,n<=(ak k.aj j).aW.length->bg (mC (cU k (ak k.aj j).aW p n) j (gA ((ak k.aj j).aW.take n) p++(ak k.aj j).aW.drop n))
 | 0,_=>by
  have:gA ((ak k.aj j).aW.take 0) p++(ak k.aj j).aW.drop 0=(ak k.aj j).aW:=rfl;rw[this];show bg (mC k j (ak k.aj j).aW)
  grind [Vs]
 | n+1,hn=>by
  have ih:=uS h hj p n (by omega);have hlt:n<(ak k.aj j).aW.length:=by omega
  have QI:j<(cU k (ak k.aj j).aW p n).aj.length:=by grind [lO]
  rw[VG _ n hlt] at ih;rw[C4 _ p n hlt];unfold cU;cases g:p (aI (ak k.aj j).aW n) with
  | true =>
   rw[bf rfl,bf rfl,Il];have hj2:j<(mC (cU k (ak k.aj j).aW p n) j (gA ((ak k.aj j).aW.take n) p++aI (ak k.aj j).aW n::(ak k.aj j).aW.drop (n+1))).aj.length:=by
    show j<List.length (List.set _ _ _)
    grind
   have:=VH ih hj2 (aaT _ j QI _);have e:uT (mC (cU k (ak k.aj j).aW p n) j (gA ((ak k.aj j).aW.take n) p++aI (ak k.aj j).aW n::(ak k.aj j).aW.drop (n+1))) j (gA ((ak k.aj j).aW.take n) p++(ak k.aj j).aW.drop (n+1)) (aI (ak k.aj j).aW n)=mC (df (cU k (ak k.aj j).aW p n) (aI (ak k.aj j).aW n)) j (gA ((ak k.aj j).aW.take n) p++(ak k.aj j).aW.drop (n+1)):=by
    show df (mC (mC _ j _) j _) _=_
    grind [Vr,RR]
   grind
  | false =>
   grind
theorem DB {k:aN} (h:bg k) {j:Nat} (hj:j<k.aj.length) (p:bC->Bool):bg (fI k j p):=by
 have:=uS h hj p _ (aM _);rw[tF,List.drop_length,Il] at this;exact this
theorem lq (k:aN) (j:Nat) (p:bC->Bool):(fI k j p).aj=k.aj.set j (dX (ak k.aj j) (gA (ak k.aj j).aW p)):=by
 show((cU k (ak k.aj j).aW p _).aj).set j _=_;rw[lO]
theorem yY (k:aN) (j:Nat) (p:bC->Bool):(fI k j p).aA=k.aA/\(fI k j p).hand=k.hand/\(fI k j p).frames.length=k.frames.length/\(fI k j p).slots.length=k.slots.length:=uj k _ p _
theorem Ho (k:aN) (i:Nat) (es:List bC):∀n,∃x,(cU k es (kr (i:Int)) n).frames=k.frames.set i x/\(cU k es (kr (i:Int)) n).slots=k.slots
 | 0=>⟨au k.frames i,by
   show k.frames=_;refine(n7 gD _ _ jk (fun m hm=>?_)).symm;rw[jk] at hm;by_cases c:i=m
   · subst c;rw[eX _ _ _ _ hm];rfl
   grind,rfl⟩
 | n+1=>by
  obtain⟨x,h1,h2⟩:=Ho k i es n
  grind [cU,xk,df,List.set_set]
def kH (k:aN) (i:Nat):Nat->aN
 | 0=>k
 | n+1=>fI (kH k i n) n (kr (i:Int))
theorem xZ {k:aN} (h:bg k) (i:Nat):∀n,n<=k.aj.length->bg (kH k i n)/\(kH k i n).aA=k.aA/\(kH k i n).hand=k.hand/\(∃x,(kH k i n).frames=k.frames.set i x)/\(kH k i n).slots=k.slots/\(kH k i n).aj.length=k.aj.length/\∀m,m<k.aj.length->ak (kH k i n).aj m=if m<n then mD i (ak k.aj m) else ak k.aj m
 | 0,_=>by
  obtain⟨x,hx,_⟩:=Ho k i [] 0;exact⟨h,rfl,rfl,⟨x,hx⟩,rfl,rfl,fun m _=>by rfl⟩
 | n+1,hn=>by
  obtain⟨r,h1,h2,⟨x,h3⟩,h4,h5,h6⟩:=xZ h i n (by omega);have hj:n<(kH k i n).aj.length:=by omega
  have fr:=yY (kH k i n) n (kr (i:Int));obtain⟨y,c1,c2⟩:=Ho (kH k i n) i (ak (kH k i n).aj n).aW (ak (kH k i n).aj n).aW.length;refine⟨DB r hj _,fr.1.trans h1,fr.2.1.trans h2,⟨y,?_⟩,?_,?_,fun m hm=>?_⟩
  · show(cU _ _ _ _).frames=_
    simp_all
  · show(cU _ _ _ _).slots=_
    grind
  · show(fI _ _ _).aj.length=_
    grind [lq]
  · show ak (fI _ _ _).aj m=_;rw[lq,ja _ _ _ _ hj];by_cases c:n=m
    · subst c;rw[bf rfl,bf (by omega),h6 n hm,bl (by omega)];rfl
    grind
theorem YC {k:aN} (h:bg k) {i:Nat} (hi:i<k.frames.length):kH k i k.aj.length=xm k i:=by
 obtain⟨r,h1,h2,⟨x,h3⟩,h4,h5,h6⟩:=xZ h i k.aj.length (aM _);have hs:(kH k i k.aj.length).aj=k.aj.map (mD i):=by
  refine n7 uP _ _ (by grind) (fun m hm=>?_)
  grind [ak]
 have hf:=r.zS i (by grind);have hz:cO (kH k i k.aj.length).aj 1 i=[]:=by
  rw[hs];exact pC _ _ _ _ (fun s _=>wF s.aZ i s.aW)
 have hx:x=gD:=by
  grind [au,lK.zero]
 have:∀a b:aN,a.aA=b.aA->a.frames=b.frames->a.slots=b.slots->a.aj=b.aj->a.hand=b.hand->a=b:=fun a b e1 e2 e3 e4 e5=>by
  cases a;simp_all
 exact this _ _ h1 (by rw[h3,hx];rfl) h4 hs h2
theorem Tp {k:aN} (h:bg k) {i:Nat} (hi:i<k.frames.length) {j:Nat} (hj:j<k.aj.length) {a b:Nat} (ha:a<(ak k.aj j).aW.length) (hb:b<(ak k.aj j).aW.length) (h1:kr (i:Int) (aI (ak k.aj j).aW a)=true) (h2:kr (i:Int) (aI (ak k.aj j).aW b)=true):a=b:=by
 have qP:=jZ hj (jD (d:=eD) ha);have hm2:=jZ hj (jD (d:=eD) hb);have g1:=xk.1 h1;have g2:=xk.1 h2;unfold aI at g1 g2;rw[g1.1,g1.2] at qP;rw[g2.1,g2.2] at hm2;have e:=(h.zS i hi).one _ qP _ hm2;injection e with e _;have hr:=(h.sp hj).lQ
 grind [List.pairwise_iff_getElem]
theorem Rz (i s:Int) (es:List bC) (n:Nat) (hn:n<es.length) (h:kr i (aI es n)=true) (ho:∀m,m<es.length->kr i (aI es m)=true->m=n):es.set n ⟨(aI es n).page,2,s⟩=jI i s es:=by
 refine n7 eD _ _ (by grind [jI]) (fun m hm=>?_)
 grind [jI,aI]
theorem Vn (i s:Int) (es:List bC) (h:∀m,m<es.length->kr i (aI es m)=false):jI i s es=es:=by
 refine n7 eD _ _ (by grind [jI]) (fun m hm=>?_)
 grind [jI,aI]
theorem bg.space {k:aN} (h:bg k) {j:Nat} (hj:j<k.aj.length) {s:dm} (hs:rP k.aA k.frames.length k.slots.length s) (hn:∀kd a,ie s kd a=ie (ak k.aj j) kd a) (hr:eW (k.aj.set j s)<=k.slots.length):bg { k with aj:=k.aj.set j s }:=by
 have nn:∀kd a,cO (k.aj.set j s) kd a=cO k.aj kd a:=fun kd a=>by
  obtain⟨u,v,g1,g2⟩:=x8 k.aj j s kd a hj
  grind
 refine⟨?_,h.lQ,h.hand,?_,hr,fun i hi=>?_,fun i hi=>?_⟩
 · have:=h.counts
   grind [mi]
 · grind [each]
 · grind [zS]
 grind [slt]
theorem Vv (l:List dm):∀(j:Nat) (s:dm),j<l.length->eW (l.set j s)=eW l-cI (ak l j).aZ+cI s.aZ:=fun j s hj=>by
 have:∀n,iP (l.set j s) n=iP l n+if j<n then cI s.aZ-cI (ak l j).aZ else 0:=fun n=>by
  induction n with
  | zero=>rfl
  | succ n ih =>
   grind [iP,ja]
 grind [eW]
def BH (old new:List bc):Prop:=∀p,(aV new p).2=true->((aV old p).2=true/\(aV new p).1.zero=(aV old p).1.zero)∨((aV old p).2=false/\(aV new p).1.zero=true)
theorem Rx {l:List bc} {p n q:Int} (h:(eY l p n q).2=0):br (eY l p n q).1=0/\BH l (eY l p n q).1:=by
 obtain⟨h1,h2⟩:=yq l p n q h;refine⟨h1,fun x hx=>?_⟩;have hb:=gN hx;obtain⟨m,rfl⟩:∃m:Nat,x=(m:Int):=⟨x.toNat,by omega⟩
 grind
theorem Dy {l:List bc} {p n:Int} (h:(dA l p n).2=0):br (dA l p n).1=0/\BH l (dA l p n).1:=by
 obtain⟨h1,h2⟩:=uX l p n h;refine⟨h1,fun x hx=>?_⟩;have hb:=gN hx;obtain⟨m,rfl⟩:∃m:Nat,x=(m:Int):=⟨x.toNat,by omega⟩
 grind
theorem JG {l:List bc} {p n q:Int} (h:(cK l p n q).2=0):br (cK l p n q).1=0/\BH l (cK l p n q).1:=by
 obtain⟨h1,h2⟩:=sK l p n q h;refine⟨h1,fun x hx=>?_⟩;have hb:=gN hx;obtain⟨m,rfl⟩:∃m:Nat,x=(m:Int):=⟨x.toNat,by omega⟩
 grind
def ju (l:List bc) (e:bC):Bool:=!(aV l e.page).2
def kv (k:aN) (j:Nat) (l:List bc):aN:={ fI k j (ju l) with aj:=(fI k j (ju l)).aj.set j ⟨(ak k.aj j).live,l,gA (ak k.aj j).aW (ju l)⟩ }
theorem P4 {k:aN} (h:bg k) {j:Nat} (hj:j<k.aj.length) (hl:(ak k.aj j).live=true) {l:List bc} (hc:br l=0) (ht:BH (ak k.aj j).aZ l) (hr:eW k.aj-cI (ak k.aj j).aZ+cI l<=k.slots.length):bg (kv k j l):=by
 have hf:=DB h hj (ju l);have hsp:=lq k j (ju l);have hre:=yY k j (ju l);have hj':j<(fI k j (ju l)).aj.length:=by grind
 have hat:ak (fI k j (ju l)).aj j=dX (ak k.aj j) (gA (ak k.aj j).aW (ju l)):=by grind [ja]
 have hold:=h.sp hj;have hnew:=hf.sp hj';rw[hat] at hnew;have ahY:∀e∈gA (ak k.aj j).aW (ju l),(aV l e.page).2=true/\e∈(ak k.aj j).aW:=fun e he=>by
  grind [gA,ju]
 refine bg.space hf hj' ⟨fun dd=>?_,hc,hnew.lQ,fun e he=>⟨(ahY e he).1,(hnew.FC e he).2⟩,fun p hp hz=>?_⟩ (fun kd a=>?_) ?_
 · grind
 · rcases ht p hp with g | g
   · grind [rP.aA]
   grind
 · rw[hat];unfold ie;refine List.map_congr_left fun e he=>?_
   have hm:=ahY e (List.mem_filter.1 he).1;rcases ht e.page hm.1 with g | g
   · show(e.page,_)=(e.page,_);rw[g.2];rfl
   · have:=(hold.FC e hm.2).1
     grind
 · rw[Vv _ _ _ hj',hat,hsp,EI _ _ (dX (ak k.aj j) (gA (ak k.aj j).aW (ju l))) hj rfl,hre.2.2.2];exact hr
def fA (k:aN) (es:List bC):Nat->aN
 | 0=>k
 | n+1=>ku (fA k es n) (aI es n) 1
def tu (k:aN) (j:Nat):aN:={ fA k (ak k.aj j).aW (ak k.aj j).aW.length with aj:=(fA k (ak k.aj j).aW (ak k.aj j).aW.length).aj++[ak k.aj j] }
def xh (f:kj) (c:Nat):kj:=⟨f.data,f.refs+c,f.fN,f.seen⟩
def xg (f:mO) (c:Nat):mO:=⟨f.data,f.refs+c⟩
theorem RQ (f:kj):xh f 0=f:=by simp[xh]
theorem RP (f:mO):xg f 0=f:=by simp[xg]
theorem yQ {k:aN} (h:bg k) {j:Nat} (hj:j<k.aj.length):∀m,m<=(ak k.aj j).aW.length->(fA k (ak k.aj j).aW m).aA=k.aA/\(fA k (ak k.aj j).aW m).hand=k.hand/\(fA k (ak k.aj j).aW m).aj=k.aj/\(fA k (ak k.aj j).aW m).frames.length=k.frames.length/\(fA k (ak k.aj j).aW m).slots.length=k.slots.length /\
  (∀n,n<k.frames.length->au (fA k (ak k.aj j).aW m).frames n=xh (au k.frames n) (jO (ak k.aj j).aZ 1 n ((ak k.aj j).aW.take m)).length) /\
  (∀n,n<k.slots.length->bw (fA k (ak k.aj j).aW m).slots n=xg (bw k.slots n) (jO (ak k.aj j).aZ 2 n ((ak k.aj j).aW.take m)).length)
 | 0,_=>⟨rfl,rfl,rfl,rfl,rfl,fun n _=>(RQ _).symm,fun n _=>(RP _).symm⟩
 | m+1,hm=>by
  obtain⟨h1,h2,h3,h4,h5,h6,h7⟩:=yQ h hj m (by omega);have hlt:m<(ak k.aj j).aW.length:=by omega
  have hin:aI (ak k.aj j).aW m∈(ak k.aj j).aW:=jD hlt;rw[xY _ m hlt];obtain⟨e,he⟩:=ex (aI (ak k.aj j).aW m);obtain⟨q,hq⟩:=ex (fA k (ak k.aj j).aW m);rw[<- he] at hin ⊢;have hs:fA k (ak k.aj j).aW (m+1)=ku q e 1:=by rw[hq,he];rfl
  rw[<- hq] at h1 h2 h3 h4 h5 h6 h7;rw[hs];have aqr:∀(f:kj) (a b:Nat),xh (xh f a) b=xh f (a+b):=fun f a b=>by grind [xh]
  have aqq:∀(f:mO) (a b:Nat),xg (xg f a) b=xg f (a+b):=fun f a b=>by grind [xg]
  rcases iQ h hj hin with b | b
  · have hc:ku q e 1={ q with frames:=q.frames.set e.loc.toNat (FQ (au q.frames e.loc.toNat) 1) }:=by grind [ku]
    rw[hc];refine⟨h1,h2,h3,by grind,h5,fun n hn=>?_,fun n hn=>?_⟩
    · show au (q.frames.set _ _) n=_;rw[jc _ _ _ _ (by omega),l9,gh];by_cases c:e.loc.toNat=n
      · rw[bf c,pT _ (show e.kind=1/\e.loc=(n:Int) by omega),<- aqr,<- h6 n hn,c];have hr:0<=(au q.frames n).refs:=by
         rw[h6 n hn];have:=(h.zS n hn).refs;show 0<=(au k.frames n).refs+_;omega
        unfold FQ;rw[bl (by omega)];rfl
      · rw[bl c,mW _ (show ¬(e.kind=1/\e.loc=(n:Int)) by omega),h6 n hn];rfl
    grind [l9,mW]
  · have hc:ku q e 1={ q with slots:=q.slots.set e.loc.toNat (FP (bw q.slots e.loc.toNat) 1) }:=by grind [ku]
    rw[hc];refine⟨h1,h2,h3,h4,by grind,fun n hn=>?_,fun n hn=>?_⟩
    · grind [l9,mW]
    · show bw (q.slots.set _ _) n=_;rw[xe _ _ _ _ (by omega),l9,gh];by_cases c:e.loc.toNat=n
      · rw[bf c,pT _ (show e.kind=2/\e.loc=(n:Int) by omega),<- aqq,<- h7 n hn,c];have hr:0<=(bw q.slots n).refs:=by
         rw[h7 n hn];have:=(h.slt n hn).refs;show 0<=(bw k.slots n).refs+_;omega
        unfold FP;rw[bl (by omega)];rfl
      · rw[bl c,mW _ (show ¬(e.kind=2/\e.loc=(n:Int)) by omega),h7 n hn];rfl
structure akN (k:aN) (j:Nat) (f:aN):Prop where
 aA:f.aA=k.aA
 hand:f.hand=k.hand
 aj:f.aj=k.aj++[ak k.aj j]
 nf:f.frames.length=k.frames.length
 ns:f.slots.length=k.slots.length
 zS:∀n,n<k.frames.length->au f.frames n=xh (au k.frames n) (ie (ak k.aj j) 1 n).length
 slt:∀n,n<k.slots.length->bw f.slots n=xg (bw k.slots n) (ie (ak k.aj j) 2 n).length
theorem ma {es:List bC} {p:Int} {e:bC} (h:bD es p=some e):e∈es:=N1 h
theorem YI {es:List bC} {p:Int} {e:bC} (h:bD es p=some e):e.page=p:=by
 have:=List.find?_some h
 grind
theorem aaU {a b:aN} {m n:Nat} {p:Int} (hE:bD (ak a.aj m).aW p=bD (ak b.aj n).aW p) (hd:∀x,bD (ak a.aj m).aW p=some x->(x.kind=1->(au a.frames x.loc.toNat).data=(au b.frames x.loc.toNat).data)/\(x.kind≠1->(bw a.slots x.loc.toNat).data=(bw b.slots x.loc.toNat).data)) (hf:bD (ak a.aj m).aW p=none->eH a.aA p (aV (ak a.aj m).aZ p).1.zero=eH b.aA p (aV (ak b.aj n).aZ p).1.zero):cQ a m p=cQ b n p:=by
 grind [cQ]
theorem Vq (l:List dm) (s:dm) (m:Nat):ak (l++[s]) m=if m<l.length then ak l m else if m=l.length then s else uP:=by
 grind [ak]
theorem P5 (k:aN) {j:Nat} (hj:j<k.aj.length) (l:List bc):(kv k j l).aA=k.aA/\(kv k j l).hand=k.hand/\(kv k j l).frames.length=k.frames.length/\(kv k j l).slots.length=k.slots.length/\(kv k j l).aj.length=k.aj.length/\∀m,m<k.aj.length->ak (kv k j l).aj m=if j=m then ⟨(ak k.aj j).live,l,gA (ak k.aj j).aW (ju l)⟩ else ak k.aj m:=by
 have hre:=yY k j (ju l);have hj':j<(fI k j (ju l)).aj.length:=by grind [lq]
 refine⟨hre.1,hre.2.1,hre.2.2.1,hre.2.2.2,?_,fun m hm=>?_⟩
 · show(List.set _ _ _).length=_
   grind [lq]
 · show ak (List.set _ _ _) m=_
   grind [ja,lq]
variable {lo mb:Nat} {tt:TypeId} {X:List Value} {w:World} {S:dN} {k:aN}
theorem CW (L:List xc) (l:xc) (k:Nat):cA (L++[l]) k=if k<L.length then cA L k else if k=L.length then l else Lf:=by
 grind [cA]
def uN (S:dN) (v:Value) (l:xc):Nat->iH:=fun b=>if v.ownBlock=some b then .aj else if l.va.ownBlock=some b then .aZ S.L.length else if l.vp.ownBlock=some b then .aW S.L.length else S.lab b
theorem bQ.push {w2 w4:World} {v':Value} {l:xc} {s:dm} {O:Obj} (h:bQ lo mb tt X w S k) (hlo:lo<=w.heap.size) (hb2:Below w.heap.size w w2)
  (hso:l6 w.heap.size w2 l s) (hne:∀b,bI l.vp b->¬bI l.va b) (hgr:(w2.alloc O).grownBy w4 S.vP.ownBlock) (hown:w4.ownsRow lo 43 3 v' (S.L.length+1) (S.L.flatMap fL++fL l))
  (hat:v'.ownBlock=S.vP.ownBlock∨v'.ownBlock=some (w2.alloc O).heap.size) :
  bQ lo mb tt X (w4.setCell (Ad mb 3) v') ⟨uN S v' l,S.vS,S.vF,S.vL,v',S.L++[l]⟩ { k with aj:=k.aj++[s] }/\(∀b,b<w.heap.size->S.lab b=.no->uN S v' l b=.no)/\aH (fun b=>S.lab b≠.no) w (w4.setCell (Ad mb 3) v'):=by
 have s1:=hb2.size;have s2:=hgr.size;have hz:(w2.alloc O).heap.size=w2.heap.size+1:=iJ _ _;rw[hz] at s2 hat
 have kA:aH (bI S.vP) w w2:=aH.b7 hb2;have kB:aH (bI S.vP) w2 (w2.alloc O):=aH.alloc _ w2 O;have kC:aH (bI S.vP) (w2.alloc O) w4:=aH.grown hgr (fun _ e=>e);have kD:=kA.trans (kB.trans kC (fun _ _ g=>g)) (fun _ _ g=>g);have mj:aH (fun b=>b=mb) w4 (w4.setCell (Ad mb 3) v'):=aH.set _ _ _ _ rfl;have eA:∀b,bI l.va b∨bI l.vp b->w.heap.size<=b/\b<w2.heap.size:=fun b hb=>by
  rcases hb with g | g
  · exact hso.aZ.lt b g
  · exact hso.aR.lt b g
 have hvb:∀b,bI S.vP b->b<w.heap.size:=fun b hb=>(h.aj.lt b hb).2
 have hv4:∀b,bI v' b->bI S.vP b∨b=w2.heap.size+1:=fun b hb=>by
  grind [bI]
 have hmb:=aO h.head;have old:∀b c,S.lab b=c->c≠.no->c≠.aj->uN S v' l b=c:=fun b c e h1 h2=>by
  have hb:=(h.qF b (by grind)).2;unfold uN;rw[bl,bl,bl,e]
  · intro x;have:=eA b (.inr x);omega
  · intro x;have:=eA b (.inl x);omega
  · intro x;rcases hv4 b x with g | g
    · exact h2 (by rw[<- e];exact h.lP b g)
    · omega
 have zD:∀{b:Nat} {c:iH},S.lab b=c->c≠.aj->¬bI S.vP b:=fun e hc x=>hc (by rw[<- e];exact h.lP _ x)
 have zH:∀{b:Nat} {c:iH},S.lab b=c->c≠.head->¬b=mb:=fun e hc x=>hc (by rw[<- e,x];exact h.lH)
 have row:∀{e:TypeId} {n m:Nat} {v:Value} {xs:List Value},w.ownsRow lo e n v m xs->(∀b,bI v b->¬bI S.vP b/\¬b=mb)->(w4.setCell (Ad mb 3) v').ownsRow lo e n v m xs:=fun hr hq=>mj.row (kD.row hr (fun b hb=>(hq b hb).1)) (fun b hb=>(hq b hb).2)
 have hle:(S.L++[l]).length=S.L.length+1:=by simp
 have hlen:=h.len;refine⟨⟨⟨fun b hb=>?_,row h.aA (fun b hb=>⟨zD (h.lS b hb) (by simp),zH (h.lS b hb) (by simp)⟩),fun i hi=>row (h.dn i hi) (fun b hb=>⟨zD (h.lX i hi b hb) (by simp),zH (h.lX i hi b hb) (by simp)⟩),row h.frames (fun b hb=>⟨zD (h.lF b hb) (by simp),zH (h.lF b hb) (by simp)⟩),row h.slots (fun b hb=>⟨zD (h.lL b hb) (by simp),zH (h.lL b hb) (by simp)⟩),?_,?_,fun i hi=>?_,fun b hb=>old b _ (h.lS b hb) (by simp) (by simp),fun i hi b hb=>old b _ (h.lX i hi b hb) (by simp) (by simp),fun b hb=>old b _ (h.lF b hb) (by simp) (by simp),fun b hb=>old b _ (h.lL b hb) (by simp) (by simp),fun b hb=>bf hb,fun i hi b hb=>?_,fun i hi b hb=>?_⟩,?_,old mb _ h.lH (by simp) (by simp)⟩,fun b hb e=>?_,?_⟩
 · have hb:uN S v' l b≠.no:=hb;have hs4:(w4.setCell (Ad mb 3) v').heap.size=w4.heap.size:=by simp
   rw[hs4];unfold uN at hb;by_cases c:v'.ownBlock=some b
   · exact hown.lt b c
   · rw[bl c] at hb;by_cases d:l.va.ownBlock=some b
     · have:=eA b (.inl d);omega
     · rw[bl d] at hb;by_cases e:l.vp.ownBlock=some b
       · have:=eA b (.inr e);omega
       · rw[bl e] at hb;have:=h.qF b hb;omega
 · show World.ownsRow _ lo _ 3 v' (S.L++[l]).length _;rw[hle,tG];have:w4.ownsRow lo 43 3 v' (S.L.length+1) (S.L.flatMap fL++[l].flatMap fL):=by grind
   exact mj.row this (fun b hb e=>by
    rcases hv4 b hb with g | g
    · grind
    · omega)
 · grind
 · have hi:i<(k.aj++[s]).length:=hi;rw[gh,zN] at hi;show l6 lo _ (cA (S.L++[l]) i) (ak (k.aj++[s]) i);rw[CW,Vq,hlen];by_cases c:i<k.aj.length
   · rw[bf c,bf c];exact((h.each i c).kp kD (fun b hb=>zD (h.lA i c b hb) (by simp)) (fun b hb=>zD (h.lE i c b hb) (by simp))).kp mj (fun b hb=>zH (h.lA i c b hb) (by simp)) (fun b hb=>zH (h.lE i c b hb) (by simp))
   · have e:i=k.aj.length:=by omega
     rw[bl c,bl c,bf e,bf e];refine((hso.mono hlo).kp (kB.trans kC (fun _ _ g=>g)) (fun b hb g=>?_) (fun b hb g=>?_)).kp mj (fun b hb e=>?_) (fun b hb e=>?_)
     · grind
     · grind
     · grind
     grind
 · have hi:i<(k.aj++[s]).length:=hi;rw[gh,zN] at hi;have hb:bI (cA (S.L++[l]) i).va b:=hb;rw[CW,hlen] at hb;by_cases c:i<k.aj.length
   · rw[bf c] at hb;exact old b _ (h.lA i c b hb) (by simp) (by simp)
   · have e:i=k.aj.length:=by omega
     rw[bl c,bf e] at hb;have hx:=eA b (.inl hb);show uN S v' l b=.aZ i;unfold uN;rw[bl,bf (show l.va.ownBlock=some b from hb),e,hlen];intro x;rcases hv4 b x with g | g
     · grind
     · omega
 · have hi:i<(k.aj++[s]).length:=hi;rw[gh,zN] at hi;have hb:bI (cA (S.L++[l]) i).vp b:=hb;rw[CW,hlen] at hb;by_cases c:i<k.aj.length
   · rw[bf c] at hb;exact old b _ (h.lE i c b hb) (by simp) (by simp)
   · have e:i=k.aj.length:=by omega
     rw[bl c,bf e] at hb;have hx:=eA b (.inr hb);show uN S v' l b=.aW i;unfold uN;rw[bl,bl (show ¬l.va.ownBlock=some b from hne b hb),bf (show l.vp.ownBlock=some b from hb),e,hlen];intro x;rcases hv4 b x with g | g
     · grind
     · omega
 · have:w4.heap[mb]?=some (.cells ([S.vS,S.vF,S.vL,S.vP,I k.hand]++X).toArray tt (0,0)):=kD.keep h.head (fun x=>by grind);rw[dG this 3 v'];simp
 · unfold uN;rw[bl,bl,bl,e]
   · intro x;have:=eA b (.inr x);omega
   · intro x;have:=eA b (.inl x);omega
   · intro x;rcases hv4 b x with g | g
     · grind
     · omega
 · exact(kD.mono (fun b _ g=>by grind)).trans mj (fun b _ e=>by grind)
theorem bQ.ad1 (h:bQ lo mb tt X w S k) {j:Nat} (hj:j<k.aj.length) {v:Value} {l:List bc} {pb n cap:Nat} (hP:S.vP=.slice (some (Ad pb 0)) n cap) (hr:dC lo w v l) (hat:∀b,bI v b->S.lab b=.no) :
  bQ lo mb tt X (w.setCell (Ad pb (j*3+1)) v) ⟨si S j v,S.vS,S.vF,S.vL,S.vP,S.L.set j ⟨(cA S.L j).lv,v,(cA S.L j).vp⟩⟩ { k with aj:=k.aj.set j ⟨(ak k.aj j).live,l,(ak k.aj j).aW⟩ }/\aH (fun b=>S.lab b≠.no) w (w.setCell (Ad pb (j*3+1)) v):=by
 have hpl:S.lab pb=.aj:=h.lP pb (by rw[hP];rfl);have mj:aH (fun b=>b=pb) w (w.setCell (Ad pb (j*3+1)) v):=aH.set _ _ _ _ rfl;have hs:=h.each j hj;have hl:=h.len;have hlab:∀b c,S.lab b=c->c≠.no->si S j v b=c:=fun b c e h1=>by
  unfold si;rw[bl,e];intro x;exact h1 (e.symm.trans (hat b x))
 have hn:n=S.L.length:=by
  obtain⟨ao,c,e,_⟩:=aY h.aj
  grind
 subst hn;have hr1:=h.aj;rw[hP] at hr1;have hr2:=pD hr1 (j*3+1) v;rw[<- n9 fL 3 (fun _=>rfl) Lf ⟨(cA S.L j).lv,v,(cA S.L j).vp⟩ 1 v (by omega) S.L j (by omega) rfl] at hr2;refine⟨h.turn hj (l:=⟨(cA S.L j).lv,v,(cA S.L j).vp⟩) (s:=⟨(ak k.aj j).live,l,(ak k.aj j).aW⟩) (lab':=si S j v) (mj.mono (fun b _ e=>.inr (.inl (by grind)))) (by grind) ⟨hs.live,?_,?_⟩ ?_ (fun b c e h1 _ _=>hlab b c e h1) (fun b hb=>bf hb) (fun b hb=>hlab b _ (h.lE j hj b hb) (by simp)),mj.mono (fun b _ e=>by grind)⟩
 · exact mj.row hr (fun b hb e=>by have:=hat b hb;grind)
 · exact mj.row hs.aR (fun b hb e=>by have:=h.lE j hj b hb;grind)
 · intro b hb;unfold si at hb;by_cases c:v.ownBlock=some b
   · exact⟨(hr.lt b c).1,jt (hr.lt b c).2 mj.size⟩
   · rw[bl c] at hb;exact⟨(h.qF b hb).1,jt (h.qF b hb).2 mj.size⟩
variable {lo mb:Nat} {tt:TypeId} {X:List Value} {w:World} {S:dN} {k:aN}
theorem bQ.c0 (h:bQ lo mb tt X w S k):w.cell? (Ad mb 0)=some S.vS:=aB h.head 0 (by simp)
theorem bQ.c1 (h:bQ lo mb tt X w S k):w.cell? (Ad mb 1)=some S.vF:=aB h.head 1 (by simp)
theorem bQ.c2 (h:bQ lo mb tt X w S k):w.cell? (Ad mb 2)=some S.vL:=aB h.head 2 (by simp)
theorem bQ.c3 (h:bQ lo mb tt X w S k):w.cell? (Ad mb 3)=some S.vP:=aB h.head 3 (by simp)
theorem bQ.c4 (h:bQ lo mb tt X w S k):w.cell? (Ad mb 4)=some (I k.hand):=aB h.head 4 (by simp)
theorem bQ.cx (h:bQ lo mb tt X w S k) (n:Nat) {v:Value} (hv:X[n]?=some v):w.cell? (Ad mb (5+n))=some v:=aB h.head (5+n) (by
 grind)
theorem bQ.free (h:bQ lo mb tt X w S k) (j:Nat):w.frozen? (Ad mb j)=false:=aJ h.head j
theorem bQ.lt (h:bQ lo mb tt X w S k):mb<w.heap.size:=aO h.head
theorem bQ.lo_le (h:bQ lo mb tt X w S k):lo<=mb:=(h.qF mb (by grind [lH])).1
structure Ai (w:World) (S:dN) (k:aN) (fb cF:Nat):Prop where
 v:S.vF=.slice (some (Ad fb 0)) k.frames.length cF
 x0:∀i,i<k.frames.length->w.cell? (Ad fb (i*4))=some (.string (au k.frames i).data)
 x1:∀i,i<k.frames.length->w.cell? (Ad fb (i*4+1))=some (I (au k.frames i).refs)
 x2:∀i,i<k.frames.length->w.cell? (Ad fb (i*4+2))=some (.bool (au k.frames i).fN)
 x3:∀i,i<k.frames.length->w.cell? (Ad fb (i*4+3))=some (.bool (au k.frames i).seen)
 fz:∀j,w.frozen? (Ad fb j)=false
 lt:fb<w.heap.size
 lab:S.lab fb=.frames
 cap:k.frames.length<=cF
theorem iZ.fr (h:iZ lo w S k) (hn:0<k.frames.length):∃fb cF,Ai w S k fb cF:=by
 obtain⟨ao,cap,e,hc,hg⟩:=aY h.frames;obtain⟨g,rfl,hg1,hg2⟩:=hg hn;have hr:=h.frames;rw[e] at hr;have at_:=fun i (hi:i<k.frames.length) j (hj:j<4)=>lB gq (fun _=>rfl) gD hr i j hi hj
 exact⟨g,cap,e,fun i hi=>at_ i hi 0 (by omega),fun i hi=>at_ i hi 1 (by omega),fun i hi=>at_ i hi 2 (by omega),fun i hi=>at_ i hi 3 (by omega),ig hr,hg2,h.lF g (by rw[e];rfl),hc⟩
structure ace (w:World) (S:dN) (k:aN) (fb cF:Nat):Prop where
 v:S.vL=.slice (some (Ad fb 0)) k.slots.length cF
 x0:∀i,i<k.slots.length->w.cell? (Ad fb (i*2))=some (.string (bw k.slots i).data)
 x1:∀i,i<k.slots.length->w.cell? (Ad fb (i*2+1))=some (I (bw k.slots i).refs)
 fz:∀j,w.frozen? (Ad fb j)=false
 lt:fb<w.heap.size
 lab:S.lab fb=.slots
theorem iZ.sl (h:iZ lo w S k) (hn:0<k.slots.length):∃fb cF,ace w S k fb cF:=by
 obtain⟨ao,cap,e,hc,hg⟩:=aY h.slots;obtain⟨g,rfl,hg1,hg2⟩:=hg hn;have hr:=h.slots;rw[e] at hr;have at_:=fun i (hi:i<k.slots.length) j (hj:j<2)=>lB gp (fun _=>rfl) nU hr i j hi hj
 exact⟨g,cap,e,fun i hi=>at_ i hi 0 (by omega),fun i hi=>at_ i hi 1 (by omega),ig hr,hg2,h.lL g (by rw[e];rfl)⟩
structure Vk (w:World) (S:dN) (k:aN) (pb cP:Nat):Prop where
 v:S.vP=.slice (some (Ad pb 0)) k.aj.length cP
 x0:∀i,i<k.aj.length->w.cell? (Ad pb (i*3))=some (.bool (ak k.aj i).live)
 x1:∀i,i<k.aj.length->w.cell? (Ad pb (i*3+1))=some (cA S.L i).va
 x2:∀i,i<k.aj.length->w.cell? (Ad pb (i*3+2))=some (cA S.L i).vp
 fz:∀j,w.frozen? (Ad pb j)=false
 lt:pb<w.heap.size
 lab:S.lab pb=.aj
theorem iZ.sp (h:iZ lo w S k) (hn:0<k.aj.length):∃pb cP,Vk w S k pb cP:=by
 obtain⟨ao,cap,e,hc,hg⟩:=aY h.aj;have hl:=h.len;obtain⟨g,rfl,hg1,hg2⟩:=hg (by omega);have hr:=h.aj;rw[e] at hr;have at_:=fun i (hi:i<k.aj.length) j (hj:j<3)=>lB fL (fun _=>rfl) Lf hr i j (by omega) hj
 exact⟨g,cap,by grind,fun i hi=>by rw[<- (h.each i hi).live];exact at_ i hi 0 (by omega),fun i hi=>at_ i hi 1 (by omega),fun i hi=>at_ i hi 2 (by omega),ig hr,hg2,h.lP g (by rw[e];rfl)⟩
theorem iZ.aW (h:iZ lo w S k) {i:Nat} (hi:i<k.aj.length):∃ae ce,(cA S.L i).vp=.slice ae (ak k.aj i).aW.length ce/\dz bk 3 eD w ae (ak k.aj i).aW:=by
 obtain⟨ae,ce,e,_,hr⟩:=nD bk (fun _=>rfl) eD (h.each i hi).aR
 grind
theorem iZ.aZ (h:iZ lo w S k) {i:Nat} (hi:i<k.aj.length):eU w (cA S.L i).va (ak k.aj i).aZ:=(h.each i hi).aZ.has
theorem MB (s:ByteArray) (q:Nat) (t:ByteArray) (x:Nat) (h:q+t.size<=s.size):(fU s q t).data.toList[x]?=if q<=x/\x<q+t.size then t.data.toList[x-q]? else s.data.toList[x]?:=by
 have hts:t.size=t.data.toList.length:=Lib.size_eq t;have hss:s.size=s.data.toList.length:=Lib.size_eq s
 grind [fU,List.length_append]
theorem y7 (s:ByteArray) (a b i:Nat):(s.extract a b).data.toList[i]?=if i<b-a then s.data.toList[a+i]? else none:=by
 grind [Lib.extract_data]
theorem JW {s t:ByteArray} (h:∀i:Nat,s.data.toList[i]?=t.data.toList[i]?):s=t:=by
 apply ByteArray.ext;exact Im.1 (Ip h)
end Go.Proofs.YtpgifpeohlllfaaGreat
end Go.Proofs.YtpgifpeohlllfaaGreat
