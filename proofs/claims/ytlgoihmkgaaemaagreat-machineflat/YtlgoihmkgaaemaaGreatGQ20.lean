import Derived.Test.YtlgoihmkgaaemaaGreatGQ19
set_option maxHeartbeats 20000000
set_option linter.unusedVariables false
set_option maxRecDepth 100000
set_option linter.unusedSimpArgs false
namespace Go.Proofs.YtlgoihmkgaaemaaGreat
open Go.RowKit Tryz
variable {lo mb:Nat} {tt:TypeId} {X:List Value} {w:World} {S:gJ} {k:aT}
theorem R9 (h:bR lo mb tt X w S k) {g j:Nat} {u:Value} {c:qP} (hg:S.lab g=c) (hc:c≠.head):(w.setCell (Ad g j) u).heap[mb]?=some (.cells ([S.vS,S.vF,S.vL,S.vP,I k.hand]++X).toArray tt (0,0)) :=
 nt h.head g j u (λe=>hc (by grind [bR.lH]))
theorem bR.Qn (h:bR lo mb tt X w S k) {g n cap:Nat} (hv:S.vF=.slice (some (Ad g 0)) n cap) {i j:Nat} (hi:i<k.frames.length) (hj:j<4) {f:nA} {u:Value} (e:jI f=(jI (aM k.frames i)).set j u) :
  bR lo mb tt X (w.setCell (Ad g (i*4+j)) u) S { k with frames:=k.frames.set i f }:=⟨h.toKr.Qn hv hi hj e,R9 h (h.lF g (by rw[hv];rfl)) ξ,h.lH⟩
theorem bR.alM (h:bR lo mb tt X w S k) {g n cap:Nat} (hv:S.vL=.slice (some (Ad g 0)) n cap) {i j:Nat} (hi:i<k.slots.length) (hj:j<2) {f:qh} {u:Value} (e:jH f=(jH (bI k.slots i)).set j u) :
  bR lo mb tt X (w.setCell (Ad g (i*2+j)) u) S { k with slots:=k.slots.set i f }:=⟨h.toKr.alM hv hi hj e,R9 h (h.lL g (by rw[hv];rfl)) ξ,h.lH⟩
theorem Dn (h:Kr lo w S k) {g n cap:Nat} (hv:S.vF=.slice (some (Ad g 0)) n cap) {V:World} {i:Nat} {u:Value}:cO S V S (V.setCell (Ad g i) u):=cO.set (by rw[h.lF g (by rw[hv];rfl)];simp)
theorem ahJ (h:Kr lo w S k) {g n cap:Nat} (hv:S.vL=.slice (some (Ad g 0)) n cap) {V:World} {i:Nat} {u:Value}:cO S V S (V.setCell (Ad g i) u):=cO.set (by rw[h.lL g (by rw[hv];rfl)];simp)
theorem bR.alR (h:bR lo mb tt X w S k) {g n cap:Nat} (hv:S.vF=.slice (some (Ad g 0)) n cap) {i:Nat} (hi:i<k.frames.length) (f:nA) :
  bR lo mb tt X ((((w.setCell (Ad g (i*4)) (.string f.data)).setCell (Ad g (i*4+1)) (I f.refs)).setCell (Ad g (i*4+2)) (.bool f.kE)).setCell (Ad g (i*4+3)) (.bool f.seen)) S { k with frames:=k.frames.set i f } /\
  cO S w S ((((w.setCell (Ad g (i*4)) (.string f.data)).setCell (Ad g (i*4+1)) (I f.refs)).setCell (Ad g (i*4+2)) (.bool f.kE)).setCell (Ad g (i*4+3)) (.bool f.seen)):=by
 have h1:=h.Qn hv hi (j:=0) ω (f:=⟨f.data,(aM k.frames i).refs,(aM k.frames i).kE,(aM k.frames i).seen⟩) (u:=.string f.data) rfl;have h2:=h1.Qn hv (i:=i) Γ (j:=1) ω (f:=⟨f.data,f.refs,(aM k.frames i).kE,(aM k.frames i).seen⟩) (u:=I f.refs) (by simp only[aM,fh _ _ _ _ hi];rfl);have h3:=h2.Qn hv (i:=i) Γ (j:=2) ω (f:=⟨f.data,f.refs,f.kE,(aM k.frames i).seen⟩) (u:=.bool f.kE) (by simp only[aM,pS,fh _ _ _ _ hi];rfl);have h4:=h3.Qn hv (i:=i) Γ (j:=3) ω (f:=f) (u:=.bool f.seen) (by simp only[aM,pS,fh _ _ _ _ hi];rfl);simp only[pS] at h4;exact⟨h4,(((Dn h.toKr hv).trans (Dn h.toKr hv)).trans (Dn h.toKr hv)).trans (Dn h.toKr hv)⟩
theorem bR.asU (h:bR lo mb tt X w S k) {g n cap:Nat} (hv:S.vL=.slice (some (Ad g 0)) n cap) {i:Nat} (hi:i<k.slots.length) (f:qh) :
  bR lo mb tt X ((w.setCell (Ad g (i*2)) (.string f.data)).setCell (Ad g (i*2+1)) (I f.refs)) S { k with slots:=k.slots.set i f } /\
  cO S w S ((w.setCell (Ad g (i*2)) (.string f.data)).setCell (Ad g (i*2+1)) (I f.refs)):=by
 have h1:=h.alM hv hi (j:=0) ω (f:=⟨f.data,(bI k.slots i).refs⟩) (u:=.string f.data) rfl;have h2:=h1.alM hv (i:=i) Γ (j:=1) ω (f:=f) (u:=I f.refs) (by simp only[bI,fh _ _ _ _ hi];rfl);simp only[pS] at h2;exact⟨h2,(ahJ h.toKr hv).trans (ahJ h.toKr hv)⟩
theorem bR.an9 (h:bR lo mb tt X w S k) (x:Int):bR lo mb tt X (w.setCell (Ad mb 4) (I x)) S { k with hand:=x }/\cO S w S (w.setCell (Ad mb 4) (I x)):=by
 have hk:aH (λb=>b=mb) w (w.setCell (Ad mb 4) (I x)):=aH.set _ _ _ _ rfl;have z:∀{b:Nat} {c:qP},S.lab b=c->c≠.head->¬b=mb:=λe hc x=>hc (by grind [lH])
 refine⟨⟨⟨λb hb=>⟨(h.CT b hb).1,dV (h.CT b hb).2 hk.size⟩,hk.row h.aR (λb hb=>z (h.lS b hb) ξ),λi hi=>hk.row (h.dR i hi) (λb hb=>z (h.lX i hi b hb) ξ),hk.row h.frames (λb hb=>z (h.lF b hb) ξ),hk.row h.slots (λb hb=>z (h.lL b hb) ξ),hk.row h.aj (λb hb=>z (h.lP b hb) ξ),h.len,λi hi=>(h.each i hi).kp hk (λb hb=>z (h.lA i hi b hb) ξ) (λb hb=>z (h.lE i hi b hb) ξ),h.lS,h.lX,h.lF,h.lL,h.lP,h.lA,h.lE⟩,?_,h.lH⟩,cO.set Γ⟩;rw[gH h.head 4 (I x)];simp
theorem bR.turn {w2:World} (h:bR lo mb tt X w S k) {j:Nat} (hj:j<k.aj.length) {l:Dm} {s:dA} {lab':Nat->qP}
  (hk:aH (λb=>S.lab b=.bh j\/S.lab b=.aj\/S.lab b=.aJ j) w w2) (hrow:w2.ownsRow lo 99 3 S.vP S.L.length ((S.L.set j l).flatMap iY)) (hs:qx lo w2 l s)
  (hb:∀b,lab' b≠.no->lo<=b/\b<w2.heap.size) (hlab:∀b c,S.lab b=c->c≠.no->c≠.aJ j->c≠.bh j->lab' b=c) (hA:∀b,cA l.va b->lab' b=.aJ j) (hE:∀b,cA l.vp b->lab' b=.bh j) :
  bR lo mb tt X w2 ⟨lab',S.vS,S.vF,S.vL,S.vP,S.L.set j l⟩ { k with aj:=k.aj.set j s } :=
 ⟨h.toKr.turn hj hk hrow hs hb hlab hA hE,hk.keep h.head (λx=>by grind [lH]),hlab mb _ h.lH ξ ξ ξ⟩
theorem VV (L:List Dm) (j:Nat):L.set j (gh L j)=L:=by
 grind [gh,List.set_getElem_self,List.set_eq_of_length_le]
theorem bR.alN (h:bR lo mb tt X w S k) {j:Nat} (hj:j<k.aj.length) {g n cap:Nat} (hv:(gh S.L j).vp=.slice (some (Ad g 0)) n cap) {i c:Nat} (hi:i<(ak k.aj j).bh.length) (hc:c<3) {e:bJ} {u:Value} (he:bZ e=(bZ (bc (ak k.aj j).bh i)).set c u) :
  bR lo mb tt X (w.setCell (Ad g (i*3+c)) u) S { k with aj:=k.aj.set j (eD (ak k.aj j) ((ak k.aj j).bh.set i e)) }/\cO S w S (w.setCell (Ad g (i*3+c)) u):=by
 have q:S.lab g=.bh j:=h.lE j hj g (by rw[hv];rfl);have hk:aH (λb=>b=g) w (w.setCell (Ad g (i*3+c)) u):=aH.set _ _ _ _ rfl;have z:∀{b:Nat} {c:qP},S.lab b=c->c≠.bh j->¬b=g:=λe hc x=>hc Γ
 have hs:=h.each j hj;have hn:n=(ak k.aj j).bh.length:=by
  obtain⟨ao,c,e,_⟩:=aZ hs.aD
  grind
 subst hn;have hr:=hs.aD;rw[hv] at hr;refine⟨?_,cO.set Γ⟩;have:=h.turn (w2:=w.setCell (Ad g (i*3+c)) u) hj (l:=gh S.L j) (s:=eD (ak k.aj j) ((ak k.aj j).bh.set i e)) (lab':=S.lab) (hk.mono (λb _ e=>.inl Γ)) (by rw[VV];exact hk.row h.aj (λb hb=>z (h.lP b hb) ξ)) ⟨hs.live,hk.row hs.aJ (λb hb=>z (h.lA j hj b hb) ξ),?_⟩ (λb hb=>⟨(h.CT b hb).1,dV (h.CT b hb).2 hk.size⟩) (λb c e _ _ _=>e) (λb hb=>h.lA j hj b hb) (λb hb=>h.lE j hj b hb)
 . simp_all [VV]
 have r2:=dJ hr (i*3+c) u;show World.ownsRow _ lo _ 3 (gh S.L j).vp ((ak k.aj j).bh.set i e).length (((ak k.aj j).bh.set i e).flatMap bZ);rw[dE,hv,jf bZ 3 (λ_=>rfl) iD e c u hc _ i hi he];exact r2
def El (S:gJ) (j:Nat) (v:Value):Nat->qP:=λb=>if v.ownBlock=some b then .bh j else S.lab b
def OW (S:gJ) (j:Nat) (v:Value):Nat->qP:=λb=>if v.ownBlock=some b then .aJ j else S.lab b
theorem bR.apq {w1:World} (h:bR lo mb tt X w S k) {j:Nat} (hj:j<k.aj.length) {v:Value} {es:List bJ} {pb n cap:Nat} (hP:S.vP=.slice (some (Ad pb 0)) n cap)
  (hk:aH (λb=>S.lab b=.bh j) w w1) (hr:w1.ownsRow lo 174 3 v es.length (es.flatMap bZ)) (hat:∀b,cA v b->S.lab b=.bh j\/S.lab b=.no) :
  bR lo mb tt X (w1.setCell (Ad pb (j*3+2)) v) ⟨El S j v,S.vS,S.vF,S.vL,S.vP,S.L.set j ⟨(gh S.L j).lv,(gh S.L j).va,v⟩⟩ { k with aj:=k.aj.set j (eD (ak k.aj j) es) } /\
  ((∀b,b<w.heap.size->cA v b->S.lab b=.bh j)->cO S w ⟨El S j v,S.vS,S.vF,S.vL,S.vP,S.L.set j ⟨(gh S.L j).lv,(gh S.L j).va,v⟩⟩ (w1.setCell (Ad pb (j*3+2)) v)):=by
 have K:S.lab pb=.aj:=h.lP pb (by rw[hP];rfl);have uQ:aH (λb=>b=pb) w1 (w1.setCell (Ad pb (j*3+2)) v):=aH.set _ _ _ _ rfl;have hs:=h.each j hj;have hl:=h.len;have A:∀b,cA v b->lo<=b/\b<w1.heap.size:=λb hb=>hr.lt b hb
 have q:∀b c,S.lab b=c->c≠.no->c≠.bh j->El S j v b=c:=λb c e h1 h2=>by
  unfold El;rw[aB,e];intro x;rcases hat b x with y | y
  . grind
  grind
 have hn:n=S.L.length:=by
  obtain⟨ao,c,e,_⟩:=aZ h.aj
  grind
 subst hn;have B:=hk.row h.aj (λb hb e=>by rw[h.lP b hb] at e;simp at e);rw[hP] at B;have J:=dJ B (j*3+2) v;rw[<- jf iY 3 (λ_=>rfl) zO ⟨(gh S.L j).lv,(gh S.L j).va,v⟩ 2 v ω S.L j ω rfl] at J;have G:=eJ hk.size uQ.size;refine⟨h.turn hj (l:=⟨(gh S.L j).lv,(gh S.L j).va,v⟩) (s:=eD (ak k.aj j) es) (lab':=El S j v) ((hk.mono (D1:=λb=>S.lab b=.bh j\/S.lab b=.aj\/S.lab b=.aJ j) (λb _ e=>.inl e)).trans uQ (λb _ e=>.inr (.inl Γ))) Γ ⟨hs.live,?_,?_⟩ ?_ (λb c e h1 _ h3=>q b c e h1 h3) (λb hb=>q b _ (h.lA j hj b hb) ξ ξ) (λb hb=>aC hb),λhold=>⟨?_,?_,rfl,rfl,rfl,rfl⟩⟩
 . exact uQ.row (hk.row hs.aJ (λb hb e=>by rw[h.lA j hj b hb] at e;simp at e)) (λb hb e=>by have:=h.lA j hj b hb;grind)
 . exact uQ.row hr (λb hb e=>by
    subst e;rcases hat b hb with y | y <;> · grind)
 . intro b hb;unfold El at hb;by_cases c:v.ownBlock=some b
   . exact⟨(A b c).1,dV (A b c).2 uQ.size⟩
   rw[aB c] at hb;exact⟨(h.CT b hb).1,dV (h.CT b hb).2 G⟩
 . exact(hk.mono (λb _ e=>Γ)).trans uQ (λb _ e=>Γ)
 intro b hb F;show El S j v b=.no;unfold El;rw[aB,F];intro x;have:=hold b hb x
 grind
open Go.RowKit
variable {lo mb:Nat} {tt:TypeId} {X:List Value} {w:World} {S:gJ} {k:aT}
theorem G0 (L:List Dm) (l:Dm) (k:Nat):gh (L++[l]) k=if k<L.length then gh L k else if k=L.length then l else zO:=by
 grind [gh]
def yP (S:gJ) (v:Value) (l:Dm):Nat->qP:=λb=>if v.ownBlock=some b then .aj else if l.va.ownBlock=some b then .aJ S.L.length else if l.vp.ownBlock=some b then .bh S.L.length else S.lab b
theorem bR.push {w2 w4:World} {v':Value} {l:Dm} {s:dA} {O:Obj} (h:bR lo mb tt X w S k) (hlo:lo<=w.heap.size) (hb2:Below w.heap.size w w2)
  (hso:qx w.heap.size w2 l s) (hne:∀b,cA l.vp b->¬cA l.va b) (hgr:(w2.alloc O).grownBy w4 S.vP.ownBlock) (hown:w4.ownsRow lo 99 3 v' (S.L.length+1) (S.L.flatMap iY++iY l))
  (hat:v'.ownBlock=S.vP.ownBlock\/v'.ownBlock=some (w2.alloc O).heap.size) :
  bR lo mb tt X (w4.setCell (Ad mb 3) v') ⟨yP S v' l,S.vS,S.vF,S.vL,v',S.L++[l]⟩ { k with aj:=k.aj++[s] }/\(∀b,b<w.heap.size->S.lab b=.no->yP S v' l b=.no)/\aH (λb=>S.lab b≠.no) w (w4.setCell (Ad mb 3) v'):=by
 have s1:=hb2.size;have s2:=hgr.size;have hz:(w2.alloc O).heap.size=w2.heap.size+1:=fY _ _;rw[hz] at s2 hat
 have kA:aH (cA S.vP) w w2:=aH.bQ hb2;have kB:aH (cA S.vP) w2 (w2.alloc O):=aH.alloc _ w2 O;have kC:aH (cA S.vP) (w2.alloc O) w4:=aH.grown hgr (λ_ e=>e);have kD:=kA.trans (kB.trans kC (λ_ _ g=>g)) (λ_ _ g=>g);have uQ:aH (λb=>b=mb) w4 (w4.setCell (Ad mb 3) v'):=aH.set _ _ _ _ rfl;have eA:∀b,cA l.va b\/cA l.vp b->w.heap.size<=b/\b<w2.heap.size:=λb hb=>by
  rcases hb with g | g
  . exact hso.aJ.lt b g
  exact hso.aD.lt b g
 have G:∀b,cA S.vP b->b<w.heap.size:=λb hb=>(h.aj.lt b hb).2
 have y:∀b,cA v' b->cA S.vP b\/b=w2.heap.size+1:=λb hb=>by
  grind [cA]
 have F:=aQ h.head;have old:∀b c,S.lab b=c->c≠.no->c≠.aj->yP S v' l b=c:=λb c e h1 h2=>by
  have hb:=(h.CT b Γ).2;unfold yP;rw[aB,aB,aB,e]
  . intro x;have:=eA b (.inr x);omega
  . intro x;have:=eA b (.inl x);omega
  intro x;rcases y b x with g | g
  . exact h2 (by rw[<- e];exact h.lP b g)
  omega
 have zD:∀{b:Nat} {c:qP},S.lab b=c->c≠.aj->¬cA S.vP b:=λe hc x=>hc (by rw[<- e];exact h.lP _ x)
 have zH:∀{b:Nat} {c:qP},S.lab b=c->c≠.head->¬b=mb:=λe hc x=>hc (by rw[<- e,x];exact h.lH)
 have row:∀{e:TypeId} {n m:Nat} {v:Value} {xs:List Value},w.ownsRow lo e n v m xs->(∀b,cA v b->¬cA S.vP b/\¬b=mb)->(w4.setCell (Ad mb 3) v').ownsRow lo e n v m xs:=λhr hq=>uQ.row (kD.row hr (λb hb=>(hq b hb).1)) (λb hb=>(hq b hb).2)
 have A:(S.L++[l]).length=S.L.length+1:=by simp
 have q:=h.len;refine⟨⟨⟨λb hb=>?_,row h.aR (λb hb=>⟨zD (h.lS b hb) ξ,zH (h.lS b hb) ξ⟩),λi hi=>row (h.dR i hi) (λb hb=>⟨zD (h.lX i hi b hb) ξ,zH (h.lX i hi b hb) ξ⟩),row h.frames (λb hb=>⟨zD (h.lF b hb) ξ,zH (h.lF b hb) ξ⟩),row h.slots (λb hb=>⟨zD (h.lL b hb) ξ,zH (h.lL b hb) ξ⟩),?_,?_,λi hi=>?_,λb hb=>old b _ (h.lS b hb) ξ ξ,λi hi b hb=>old b _ (h.lX i hi b hb) ξ ξ,λb hb=>old b _ (h.lF b hb) ξ ξ,λb hb=>old b _ (h.lL b hb) ξ ξ,λb hb=>aC hb,λi hi b hb=>?_,λi hi b hb=>?_⟩,?_,old mb _ h.lH ξ ξ⟩,λb hb e=>?_,?_⟩
 . have hb:yP S v' l b≠.no:=hb;have B:(w4.setCell (Ad mb 3) v').heap.size=w4.heap.size:=by simp
   rw[B];unfold yP at hb;by_cases c:v'.ownBlock=some b
   . exact hown.lt b c
   rw[aB c] at hb;by_cases d:l.va.ownBlock=some b
   . have:=eA b (.inl d);omega
   rw[aB d] at hb;by_cases e:l.vp.ownBlock=some b
   . have:=eA b (.inr e);omega
   rw[aB e] at hb;have:=h.CT b hb;omega
 . show World.ownsRow _ lo _ 3 v' (S.L++[l]).length _;rw[A,tH];have:w4.ownsRow lo 99 3 v' (S.L.length+1) (S.L.flatMap iY++[l].flatMap iY):=by grind
   exact uQ.row this (λb hb e=>by
    rcases y b hb with g | g
    . grind
    omega)
 . grind
 . have hi:i<(k.aj++[s]).length:=hi;rw[ft,D9] at hi;show qx lo _ (gh (S.L++[l]) i) (ak (k.aj++[s]) i);rw[G0,O0,q];by_cases c:i<k.aj.length
   . rw[aC c,aC c];exact((h.each i c).kp kD (λb hb=>zD (h.lA i c b hb) ξ) (λb hb=>zD (h.lE i c b hb) ξ)).kp uQ (λb hb=>zH (h.lA i c b hb) ξ) (λb hb=>zH (h.lE i c b hb) ξ)
   have e:i=k.aj.length:=by omega
   rw[aB c,aB c,aC e,aC e];refine((hso.mono hlo).kp (kB.trans kC (λ_ _ g=>g)) (λb hb g=>?_) (λb hb g=>?_)).kp uQ (λb hb e=>?_) (λb hb e=>?_)
   . grind
   . grind
   . grind
   grind
 . have hi:i<(k.aj++[s]).length:=hi;rw[ft,D9] at hi;have hb:cA (gh (S.L++[l]) i).va b:=hb;rw[G0,q] at hb;by_cases c:i<k.aj.length
   . rw[aC c] at hb;exact old b _ (h.lA i c b hb) ξ ξ
   have e:i=k.aj.length:=by omega
   rw[aB c,aC e] at hb;have hx:=eA b (.inl hb);show yP S v' l b=.aJ i;unfold yP;rw[aB,aC (show l.va.ownBlock=some b from hb),e,q];intro x;rcases y b x with g | g
   . grind
   omega
 . have hi:i<(k.aj++[s]).length:=hi;rw[ft,D9] at hi;have hb:cA (gh (S.L++[l]) i).vp b:=hb;rw[G0,q] at hb;by_cases c:i<k.aj.length
   . rw[aC c] at hb;exact old b _ (h.lE i c b hb) ξ ξ
   have e:i=k.aj.length:=by omega
   rw[aB c,aC e] at hb;have hx:=eA b (.inr hb);show yP S v' l b=.bh i;unfold yP;rw[aB,aB (show ¬l.va.ownBlock=some b from hne b hb),aC (show l.vp.ownBlock=some b from hb),e,q];intro x;rcases y b x with g | g
   . grind
   omega
 . have:w4.heap[mb]?=some (.cells ([S.vS,S.vF,S.vL,S.vP,I k.hand]++X).toArray tt (0,0)):=kD.keep h.head (λx=>Γ);rw[gH this 3 v'];simp
 . unfold yP;rw[aB,aB,aB,e]
   . intro x;have:=eA b (.inr x);omega
   . intro x;have:=eA b (.inl x);omega
   intro x;rcases y b x with g | g
   . grind
   omega
 exact(kD.mono (λb _ g=>Γ)).trans uQ (λb _ e=>Γ)
theorem bR.alO (h:bR lo mb tt X w S k) {j:Nat} (hj:j<k.aj.length) {v:Value} {l:List aX} {pb n cap:Nat} (hP:S.vP=.slice (some (Ad pb 0)) n cap) (hr:eB lo w v l) (hat:∀b,cA v b->S.lab b=.no) :
  bR lo mb tt X (w.setCell (Ad pb (j*3+1)) v) ⟨OW S j v,S.vS,S.vF,S.vL,S.vP,S.L.set j ⟨(gh S.L j).lv,v,(gh S.L j).vp⟩⟩ { k with aj:=k.aj.set j ⟨(ak k.aj j).live,l,(ak k.aj j).bh⟩ }/\aH (λb=>S.lab b≠.no) w (w.setCell (Ad pb (j*3+1)) v):=by
 have B:S.lab pb=.aj:=h.lP pb (by rw[hP];rfl);have uQ:aH (λb=>b=pb) w (w.setCell (Ad pb (j*3+1)) v):=aH.set _ _ _ _ rfl;have hs:=h.each j hj;have hl:=h.len;have q:∀b c,S.lab b=c->c≠.no->OW S j v b=c:=λb c e h1=>by
  unfold OW;rw[aB,e];intro x;exact h1 (e.symm.trans (hat b x))
 have hn:n=S.L.length:=by
  obtain⟨ao,c,e,_⟩:=aZ h.aj
  grind
 subst hn;have y:=h.aj;rw[hP] at y;have A:=dJ y (j*3+1) v;rw[<- jf iY 3 (λ_=>rfl) zO ⟨(gh S.L j).lv,v,(gh S.L j).vp⟩ 1 v ω S.L j ω rfl] at A;refine⟨h.turn hj (l:=⟨(gh S.L j).lv,v,(gh S.L j).vp⟩) (s:=⟨(ak k.aj j).live,l,(ak k.aj j).bh⟩) (lab':=OW S j v) (uQ.mono (λb _ e=>.inr (.inl Γ))) Γ ⟨hs.live,?_,?_⟩ ?_ (λb c e h1 _ _=>q b c e h1) (λb hb=>aC hb) (λb hb=>q b _ (h.lE j hj b hb) ξ),uQ.mono (λb _ e=>Γ)⟩
 . exact uQ.row hr (λb hb e=>by have:=hat b hb;grind)
 . exact uQ.row hs.aD (λb hb e=>by have:=h.lE j hj b hb;grind)
 intro b hb;unfold OW at hb;by_cases c:v.ownBlock=some b
 . exact⟨(hr.lt b c).1,dV (hr.lt b c).2 uQ.size⟩
 rw[aB c] at hb;exact⟨(h.CT b hb).1,dV (h.CT b hb).2 uQ.size⟩
theorem bR.zero (h:bR lo mb tt X w S k) {j:Nat} (hj:j<k.aj.length) {pb n cap:Nat} (hP:S.vP=.slice (some (Ad pb 0)) n cap) :
  bR lo mb tt X (((w.setCell (Ad pb (j*3)) (.bool false)).setCell (Ad pb (j*3+1)) Nl).setCell (Ad pb (j*3+2)) Nl) ⟨S.lab,S.vS,S.vF,S.vL,S.vP,S.L.set j zO⟩ { k with aj:=k.aj.set j tR }/\cO S w ⟨S.lab,S.vS,S.vF,S.vL,S.vP,S.L.set j zO⟩ (((w.setCell (Ad pb (j*3)) (.bool false)).setCell (Ad pb (j*3+1)) Nl).setCell (Ad pb (j*3+2)) Nl):=by
 have G:S.lab pb=.aj:=h.lP pb (by rw[hP];rfl);have hl:=h.len;have uQ:aH (λb=>b=pb) w (((w.setCell (Ad pb (j*3)) (.bool false)).setCell (Ad pb (j*3+1)) Nl).setCell (Ad pb (j*3+2)) Nl):=xS w pb _ _ _ _ _ _ rfl;have hn:n=S.L.length:=by
  obtain⟨ao,c,e,_⟩:=aZ h.aj
  grind
 subst hn;have y:=h.aj;rw[hP] at y;have B:=dJ y (j*3) (.bool false);have q:j<S.L.length:=by omega
 have e1:=jf iY 3 (λ_=>rfl) zO ⟨false,(gh S.L j).va,(gh S.L j).vp⟩ 0 (.bool false) ω S.L j q rfl;rw[lB] at e1;rw[<- e1] at B;have A:=dJ B (j*3+1) Nl;have e2:=jf iY 3 (λ_=>rfl) zO ⟨false,Nl,(gh S.L j).vp⟩ 1 Nl ω (S.L.set j ⟨false,(gh S.L j).va,(gh S.L j).vp⟩) j Γ (by rw[fh _ _ _ _ q];rfl);rw[<- e2,pS] at A;have F:=dJ A (j*3+2) Nl;have e3:=jf iY 3 (λ_=>rfl) zO zO 2 Nl ω (S.L.set j ⟨false,Nl,(gh S.L j).vp⟩) j Γ (by rw[fh _ _ _ _ q];rfl);rw[<- e3,pS] at F;refine⟨h.turn hj (l:=zO) (s:=tR) (lab':=S.lab) (uQ.mono (λb _ e=>.inr (.inl Γ))) Γ ⟨rfl,pT _ _ _ _,pT _ _ _ _⟩ (λb hb=>⟨(h.CT b hb).1,dV (h.CT b hb).2 uQ.size⟩) (λb c e _ _ _=>e) (λb hb=>by cases hb) (λb hb=>by cases hb),uQ.mono (λb _ e=>Γ),λ_ _ e=>e,rfl,rfl,rfl,rfl⟩
variable {lo mb:Nat} {tt:TypeId} {X:List Value} {w:World} {S:gJ} {k:aT}
theorem bR.c0 (h:bR lo mb tt X w S k):w.cell? (Ad mb 0)=some S.vS:=aA h.head 0 ξ
theorem bR.c1 (h:bR lo mb tt X w S k):w.cell? (Ad mb 1)=some S.vF:=aA h.head 1 ξ
theorem bR.c2 (h:bR lo mb tt X w S k):w.cell? (Ad mb 2)=some S.vL:=aA h.head 2 ξ
theorem bR.c3 (h:bR lo mb tt X w S k):w.cell? (Ad mb 3)=some S.vP:=aA h.head 3 ξ
theorem bR.c4 (h:bR lo mb tt X w S k):w.cell? (Ad mb 4)=some (I k.hand):=aA h.head 4 ξ
theorem bR.cx (h:bR lo mb tt X w S k) (n:Nat) {v:Value} (hv:X[n]?=some v):w.cell? (Ad mb (5+n))=some v:=aA h.head (5+n) (by
 grind)
theorem bR.free (h:bR lo mb tt X w S k) (j:Nat):w.frozen? (Ad mb j)=false:=bG h.head j
theorem bR.lt (h:bR lo mb tt X w S k):mb<w.heap.size:=aQ h.head
theorem bR.lo_le (h:bR lo mb tt X w S k):lo<=mb:=(h.CT mb (by grind [lH])).1
structure Em (w:World) (S:gJ) (k:aT) (fb cF:Nat):Prop where
 v:S.vF=.slice (some (Ad fb 0)) k.frames.length cF
 x0:∀i,i<k.frames.length->w.cell? (Ad fb (i*4))=some (.string (aM k.frames i).data)
 x1:∀i,i<k.frames.length->w.cell? (Ad fb (i*4+1))=some (I (aM k.frames i).refs)
 x2:∀i,i<k.frames.length->w.cell? (Ad fb (i*4+2))=some (.bool (aM k.frames i).kE)
 x3:∀i,i<k.frames.length->w.cell? (Ad fb (i*4+3))=some (.bool (aM k.frames i).seen)
 fz:∀j,w.frozen? (Ad fb j)=false
 lt:fb<w.heap.size
 lab:S.lab fb=.frames
 cap:k.frames.length<=cF
theorem Kr.fr (h:Kr lo w S k) (hn:0<k.frames.length):∃fb cF,Em w S k fb cF:=by
 obtain⟨ao,cap,e,hc,hg⟩:=aZ h.frames;obtain⟨g,rfl,q,b⟩:=hg hn;have hr:=h.frames;rw[e] at hr;have at_:=λi (hi:i<k.frames.length) j (hj:j<4)=>gw jI (λ_=>rfl) fN hr i j hi hj
 exact⟨g,cap,e,λi hi=>at_ i hi 0 ω,λi hi=>at_ i hi 1 ω,λi hi=>at_ i hi 2 ω,λi hi=>at_ i hi 3 ω,ie hr,b,h.lF g (by rw[e];rfl),hc⟩
structure ajD (w:World) (S:gJ) (k:aT) (fb cF:Nat):Prop where
 v:S.vL=.slice (some (Ad fb 0)) k.slots.length cF
 x0:∀i,i<k.slots.length->w.cell? (Ad fb (i*2))=some (.string (bI k.slots i).data)
 x1:∀i,i<k.slots.length->w.cell? (Ad fb (i*2+1))=some (I (bI k.slots i).refs)
 fz:∀j,w.frozen? (Ad fb j)=false
 lt:fb<w.heap.size
 lab:S.lab fb=.slots
theorem Kr.sl (h:Kr lo w S k) (hn:0<k.slots.length):∃fb cF,ajD w S k fb cF:=by
 obtain⟨ao,cap,e,hc,hg⟩:=aZ h.slots;obtain⟨g,rfl,q,b⟩:=hg hn;have hr:=h.slots;rw[e] at hr;have at_:=λi (hi:i<k.slots.length) j (hj:j<2)=>gw jH (λ_=>rfl) jm hr i j hi hj
 exact⟨g,cap,e,λi hi=>at_ i hi 0 ω,λi hi=>at_ i hi 1 ω,ie hr,b,h.lL g (by rw[e];rfl)⟩
structure aoJ (w:World) (S:gJ) (k:aT) (pb cP:Nat):Prop where
 v:S.vP=.slice (some (Ad pb 0)) k.aj.length cP
 x0:∀i,i<k.aj.length->w.cell? (Ad pb (i*3))=some (.bool (ak k.aj i).live)
 x1:∀i,i<k.aj.length->w.cell? (Ad pb (i*3+1))=some (gh S.L i).va
 x2:∀i,i<k.aj.length->w.cell? (Ad pb (i*3+2))=some (gh S.L i).vp
 fz:∀j,w.frozen? (Ad pb j)=false
 lt:pb<w.heap.size
 lab:S.lab pb=.aj
theorem Kr.sp (h:Kr lo w S k) (hn:0<k.aj.length):∃pb cP,aoJ w S k pb cP:=by
 obtain⟨ao,cap,e,hc,hg⟩:=aZ h.aj;have hl:=h.len;obtain⟨g,rfl,q,b⟩:=hg ω;have hr:=h.aj;rw[e] at hr;have at_:=λi (hi:i<k.aj.length) j (hj:j<3)=>gw iY (λ_=>rfl) zO hr i j ω hj
 exact⟨g,cap,Γ,λi hi=>by rw[<- (h.each i hi).live];exact at_ i hi 0 ω,λi hi=>at_ i hi 1 ω,λi hi=>at_ i hi 2 ω,ie hr,b,h.lP g (by rw[e];rfl)⟩
theorem Kr.bh (h:Kr lo w S k) {i:Nat} (hi:i<k.aj.length):∃ae ce,(gh S.L i).vp=.slice ae (ak k.aj i).bh.length ce/\eX bZ 3 iD w ae (ak k.aj i).bh:=by
 obtain⟨ae,ce,e,_,hr⟩:=qy bZ (λ_=>rfl) iD (h.each i hi).aD
 grind
theorem Kr.aJ (h:Kr lo w S k) {i:Nat} (hi:i<k.aj.length):gD w (gh S.L i).va (ak k.aj i).aJ:=(h.each i hi).aJ.has
def fZ (lo mb:Nat) (tt:TypeId) (X:List Value) (w:World) (S:gJ) (v:Value) (k':aT) (e:Ending) (w':World):Prop:=e=.returned v/\∃S',bR lo mb tt X w' S' k'/\cO S w S' w'
def nH (lo mb:Nat) (tt:TypeId) (X:List Value) (w:World) (S:gJ) (v:Value) (k':aT) (e:Ending) (w':World):Prop:=e=.returned v/\bR lo mb tt X w' S k'/\cO S w S w'
theorem GV {lo mb:Nat} {tt:TypeId} {X:List Value} (k:aT) (S:gJ) (w:World) (e:bJ) (d:Int) (h:bR lo mb tt X w S k) (h1:e.kind=1->0<=e.loc/\e.loc<(k.frames.length:Int)) (h2:e.kind≠1->0<=e.loc/\e.loc<(k.slots.length:Int)) (hd:d=1\/d=-1)
  (hr:(e.kind=1->-1000000<=(aM k.frames e.loc.toNat).refs/\(aM k.frames e.loc.toNat).refs<=1000000)/\(e.kind≠1->-1000000<=(bI k.slots e.loc.toNat).refs/\(bI k.slots e.loc.toNat).refs<=1000000)) :
  Calls prog 270 #[.pointer (some (Ad mb 0)),um e,I d] w (nH lo mb tt X w S (.tuple #[]) (lG k e d)):=by
 obtain⟨pg,kd,lc⟩:=e;unfold um;simp only at h1 h2 hr ⊢;have fU:=ai ((aN w.heap.size w).alloc (aK _) (.cells #[I pg,I kd,I lc] 174));have EB:=ai (bH w #[I pg,I kd,I lc] 174);have HM:=ai (h.below fU.o);have B:Hid (cO S w S (w.alloc (.cells #[I pg,I kd,I lc] 174))):=cO.below fU.o;by_cases c:kd=1
 . obtain⟨i,rfl⟩:∃i:Nat,lc=(i:Int):=⟨lc.toNat,ω⟩;have hi:i<k.frames.length:=by omega
   obtain⟨fb,cF,A⟩:=HM.o.toKr.fr ω;have q:=hr.1 c;rw[jW] at q;have x1:=A.x1 i hi;have x0:=A.x0 i hi;have x2:=A.x2 i hi;have x3:=A.x3 i hi;have f0:=A.fz (i*4);have f1:=A.fz (i*4+1);have f2:=A.fz (i*4+2);have f3:=A.fz (i*4+3);have c1:=HM.o.c1;rw[A.v] at c1;have e0:(w.alloc (.cells #[I pg,I kd,I (i:Int)] 174)).cell? (Ad w.heap.size 1)=some (I kd):=aA EB.o 1 rfl;have e2:(w.alloc (.cells #[I pg,I kd,I (i:Int)] 174)).cell? (Ad w.heap.size 2)=some (I (i:Int)):=aA EB.o 2 rfl;have C2:(i:Int)<(k.frames.length:Int):=by omega
   have fV:Hid (∀V,(∃f,V=((w.alloc (.cells #[I pg,I kd,I (i:Int)] 174)).setCell (Ad fb (i*4+1)) (I ((aM k.frames i).refs+d))).drew/\f=aM k.frames i/\¬f.refs+d=0)\/(∃f,f=aM k.frames i/\f.refs+d=0/\V=((((((w.alloc (.cells #[I pg,I kd,I (i:Int)] 174)).setCell (Ad fb (i*4+1)) (I ((aM k.frames i).refs+d))).setCell (Ad fb (i*4)) (.string ⟨#[]⟩)).setCell (Ad fb (i*4+1)) (I 0)).setCell (Ad fb (i*4+2)) (.bool false)).setCell (Ad fb (i*4+3)) (.bool false)).drew)->nH lo mb tt X w S (.tuple #[]) (lG k ⟨pg,kd,(i:Int)⟩ d) (.returned (.tuple #[])) V):=λV hV=>by
    have hk:lG k ⟨pg,kd,(i:Int)⟩ d={ k with frames:=k.frames.set i (KZ (aM k.frames i) d) }:=by
     grind [lG]
    rw[hk];have HD:=HM.o;have CD:=B.o;have b:∀V:World,Below V.heap.size V V.drew:=λV=>(aN _ _).drew
    have m1:=HD.Qn A.v hi (j:=1) ω (f:=⟨(aM k.frames i).data,(aM k.frames i).refs+d,(aM k.frames i).kE,(aM k.frames i).seen⟩) (u:=I ((aM k.frames i).refs+d)) rfl;have y:=CD.trans (Dn HD.toKr A.v (i:=i*4+1) (u:=I ((aM k.frames i).refs+d)));rcases hV with⟨f,rfl,rfl,hz⟩ | ⟨f,rfl,hz,rfl⟩
    . unfold KZ;rw[aB hz];exact⟨rfl,m1.below (b _),y.trans (cO.below (b _))⟩
    unfold KZ;rw[aC hz];have m2:=m1.alR A.v (i:=i) Γ fN;simp only[pS] at m2;exact⟨rfl,m2.1.below (b _),(y.trans m2.2).trans (cO.below (b _))⟩
   generalize nH lo mb tt X w S (.tuple #[]) (lG k ⟨pg,kd,(i:Int)⟩ d)=P at fV ⊢;generalize aM k.frames i=F at x0 x1 x2 x3 q fV;generalize k.frames.length=n at c1 C2;have kb:(kd==1)=true:=by grind
   have hw:IntKind.i64.wrap (F.refs+d)=F.refs+d:=sJ _ ω;clear h1 h2 hr h HM B A EB fU c hd q hi;by_cases z:F.refs+d=0
   . have zb:(F.refs+d==0)=true:=by grind
     have HZ:=ai z;clear z;go_enter func270,ntmps270;go_upto_region 2 with fail;go_region;go_wp2;refine b9 (v:=.tuple #[]) (by simp[results]) rfl ?_
     grind [Hid.o]
   have zb:(F.refs+d==0)=false:=by grind
   have HZ:=ai z;clear z;go_enter func270,ntmps270;go_upto_region 2 with fail;go_region;go_wp2;refine b9 (v:=.tuple #[]) (by simp[results]) rfl ?_
   grind [Hid.o]
 obtain⟨i,rfl⟩:∃i:Nat,lc=(i:Int):=⟨lc.toNat,ω⟩;have hi:i<k.slots.length:=by omega
 obtain⟨fb,cF,A⟩:=HM.o.toKr.sl ω;have q:=hr.2 c;rw[jW] at q;have x1:=A.x1 i hi;have x0:=A.x0 i hi;have f0:=A.fz (i*2);have f1:=A.fz (i*2+1);have c1:=HM.o.c2;rw[A.v] at c1;have e0:(w.alloc (.cells #[I pg,I kd,I (i:Int)] 174)).cell? (Ad w.heap.size 1)=some (I kd):=aA EB.o 1 rfl;have e2:(w.alloc (.cells #[I pg,I kd,I (i:Int)] 174)).cell? (Ad w.heap.size 2)=some (I (i:Int)):=aA EB.o 2 rfl;have C2:(i:Int)<(k.slots.length:Int):=by omega
 have fV:Hid (∀V,(∃f,V=((w.alloc (.cells #[I pg,I kd,I (i:Int)] 174)).setCell (Ad fb (i*2+1)) (I ((bI k.slots i).refs+d))).drew/\f=bI k.slots i/\¬f.refs+d=0)\/(∃f,f=bI k.slots i/\f.refs+d=0/\V=((((w.alloc (.cells #[I pg,I kd,I (i:Int)] 174)).setCell (Ad fb (i*2+1)) (I ((bI k.slots i).refs+d))).setCell (Ad fb (i*2)) (.string ⟨#[]⟩)).setCell (Ad fb (i*2+1)) (I 0)).drew)->nH lo mb tt X w S (.tuple #[]) (lG k ⟨pg,kd,(i:Int)⟩ d) (.returned (.tuple #[])) V):=λV hV=>by
  have hk:lG k ⟨pg,kd,(i:Int)⟩ d={ k with slots:=k.slots.set i (KY (bI k.slots i) d) }:=by
   grind [lG]
  rw[hk];have HD:=HM.o;have CD:=B.o;have b:∀V:World,Below V.heap.size V V.drew:=λV=>(aN _ _).drew
  have m1:=HD.alM A.v hi (j:=1) ω (f:=⟨(bI k.slots i).data,(bI k.slots i).refs+d⟩) (u:=I ((bI k.slots i).refs+d)) rfl;have y:=CD.trans (ahJ HD.toKr A.v (i:=i*2+1) (u:=I ((bI k.slots i).refs+d)));rcases hV with⟨f,rfl,rfl,hz⟩ | ⟨f,rfl,hz,rfl⟩
  . unfold KY;rw[aB hz];exact⟨rfl,m1.below (b _),y.trans (cO.below (b _))⟩
  unfold KY;rw[aC hz];have m2:=m1.asU A.v (i:=i) Γ jm;simp only[pS] at m2;exact⟨rfl,m2.1.below (b _),(y.trans m2.2).trans (cO.below (b _))⟩
 generalize nH lo mb tt X w S (.tuple #[]) (lG k ⟨pg,kd,(i:Int)⟩ d)=P at fV ⊢;generalize bI k.slots i=F at x0 x1 q fV;generalize k.slots.length=n at c1 C2;have kb:(kd==1)=false:=by grind
 have hw:IntKind.i64.wrap (F.refs+d)=F.refs+d:=sJ _ ω;clear h1 h2 hr h HM B A EB fU c hd q hi;by_cases z:F.refs+d=0
 . have zb:(F.refs+d==0)=true:=by grind
   have HZ:=ai z;clear z;go_enter func270,ntmps270;go_upto_region 6 with fail;go_region;go_wp2;refine yu (v:=.tuple #[]) (by simp[results]) rfl ?_
   grind [Hid.o]
 have zb:(F.refs+d==0)=false:=by grind
 have HZ:=ai z;clear z;go_enter func270,ntmps270;go_upto_region 6 with fail;go_region;go_wp2;refine yu (v:=.tuple #[]) (by simp[results]) rfl ?_
 grind [Hid.o]
def nE (held:List Int) (k:aT) (i:Nat):aT:=if held.contains (i:Int) then k else { k with frames:=k.frames.set i (FJ (aM k.frames i)) }
theorem Ym {lo mb:Nat} {tt:TypeId} {X:List Value} (k:aT) (S:gJ) (w:World) (i:Nat) (held:List Int) (ah:Option Addr) (ch:Nat) (h:bR lo mb tt X w S k) (hi:i<k.frames.length) (hh:eX jb 1 0 w ah held) (hl:held.length<=1000000) :
  Calls prog 296 #[.pointer (some (Ad mb 0)),I (i:Int),.slice ah held.length ch] w (nH lo mb tt X w S (.bool (held.contains (i:Int) || (aM k.frames i).seen)) (nE held k i)):=by
 obtain⟨fb,cF,A⟩:=h.toKr.fr ω;have b:=ai (zM held (i:Int) ah ch w hh hl);have x3:=A.x3 i hi;have f3:=A.fz (i*4+3);have c1:=h.c1;rw[A.v] at c1;have C2:(i:Int)<(k.frames.length:Int):=by omega
 rw[<- List.contains_eq_mem] at b;cases hc:held.contains (i:Int) with
 | true =>
  have fV:Hid (nH lo mb tt X w S (.bool (true || (aM k.frames i).seen)) (nE held k i) (.returned (.bool true)) w):=⟨ξ,by grind [nE],cO.refl _ _⟩;rw[hc] at b;generalize nH lo mb tt X w S (.bool (true || (aM k.frames i).seen)) (nE held k i)=P at fV ⊢;clear hc hh h A hi hl x3 f3 c1 C2;go_enter func296,ntmps296;go_wp2_with (go_at_call 282;refine b.o.mono ?_;rintro e w1 ⟨rfl,rfl⟩);exact fV.o
 | false =>
  have fV:Hid (nH lo mb tt X w S (.bool (false || (aM k.frames i).seen)) (nE held k i) (.returned (.bool (aM k.frames i).seen)) (w.setCell (Ad fb (i*4+3)) (.bool false))):=⟨ξ,by
   unfold nE;rw[aB Γ];exact h.Qn A.v hi (j:=3) ω rfl,Dn h.toKr A.v⟩
  rw[hc] at b;generalize nH lo mb tt X w S (.bool (false || (aM k.frames i).seen)) (nE held k i)=P at fV ⊢;generalize aM k.frames i=F at x3 fV;generalize k.frames.length=n at c1 C2;clear hc hh h A hi hl;go_enter func296,ntmps296;go_wp2_with (go_at_call 282;refine b.o.mono ?_;rintro e w1 ⟨rfl,rfl⟩);exact fV.o
theorem Il {lo mb:Nat} {tt:TypeId} {X:List Value} (k:aT) (S:gJ) (w:World) (h:bR lo mb tt X w S k) (hh:0<=k.hand/\k.hand<k.frames.length) (hn:k.frames.length<=1000000) :
  Calls prog 251 #[.pointer (some (Ad mb 0))] w (nH lo mb tt X w S (.tuple #[]) { k with hand:=jS k }):=by
 obtain⟨fb,cF,A⟩:=h.toKr.fr ω;have fV:Hid (∀x,x=jS k->nH lo mb tt X w S (.tuple #[]) { k with hand:=jS k } (.returned (.tuple #[])) (w.setCell (Ad mb 4) (I x)).drew):=λx hx=>by
  rw[hx];have:=h.an9 (jS k);exact⟨rfl,this.1.below (aN _ _).drew,this.2.trans (cO.below (aN _ _).drew)⟩
 have hm:(k.hand+1).tmod (k.frames.length:Int)=jS k:=by
  grind [jS]
 have c1:=h.c1;rw[A.v] at c1;have c4:=h.c4;have f4:=h.free 4;generalize nH lo mb tt X w S (.tuple #[]) { k with hand:=jS k }=P at fV ⊢;generalize jS k=NX at fV hm;generalize k.hand=hd at c4 hh hm;generalize k.frames.length=n at c1 hh hm hn;have hw:IntKind.i64.wrap (hd+1)=hd+1:=sJ _ ω;have q:¬(n:Int)=0:=by omega
 have b:-9223372036854775808<=NX/\NX<=9223372036854775807:=by
  have h1:0<=(hd+1).tmod (n:Int):=Int.tmod_nonneg _ ω;have h2:(hd+1).tmod (n:Int)<(n:Int):=Int.tmod_lt_of_pos _ ω;omega
 clear h A;go_enter func251,ntmps251;go_region
 all_goals go_wp2
 all_goals refine yu (v:=.tuple #[]) (by simp[results]) rfl ?_
 grind [Hid.o]
theorem qi (l:bJ):(bZ l).length=3:=rfl
variable {α:Type} {cell:α->List Value} {k t ts F O:Nat} {Z:Value}
structure BW (cell:α->List Value) (k t ts F O:Nat) (Z:Value):Prop where
 len:∀l,(cell l).length=k
 one:∀l,∀u∈cell l,u.oneCell'=true
 way:(k=3/\t=174/\ts=97/\F=299/\O=303/\Z=.agg #[I 0,I 0,I 0]) \/
  k=2/\t=148/\ts=140/\F=316/\O=320/\Z=.agg #[I 0,.string ⟨#[]⟩]
theorem BW.und (he:BW cell k t ts F O Z):prog.underlying ts=some (.slice t):=by
 rcases he.way with⟨rfl,rfl,rfl,rfl,rfl,rfl⟩ | ⟨rfl,rfl,rfl,rfl,rfl,rfl⟩
 . exact underlying97
 exact underlying140
theorem BW.size (he:BW cell k t ts F O Z) (w:World):(sizeOf t).run prog w=.ok k w:=by
 rcases he.way with⟨rfl,rfl,rfl,rfl,rfl,rfl⟩ | ⟨rfl,rfl,rfl,rfl,rfl,rfl⟩ <;> rfl
theorem BW.info (he:BW cell k t ts F O Z):(prog.info? t).map (λi=>(i.zero,i.size,i.bytes))=some (some Z,k,24):=by
 rcases he.way with⟨rfl,rfl,rfl,rfl,rfl,rfl⟩ | ⟨rfl,rfl,rfl,rfl,rfl,rfl⟩ <;> rfl
theorem BW.zc (he:BW cell k t ts F O Z):Z.cells.size=k/\0<k:=by
 rcases he.way with⟨rfl,rfl,rfl,rfl,rfl,rfl⟩ | ⟨rfl,rfl,rfl,rfl,rfl,rfl⟩ <;> exact⟨rfl,Δ⟩
theorem BW.cells (he:BW cell k t ts F O Z) (l:List α):∀u∈l.flatMap cell,u.oneCell'=true:=λu hu=>by
 obtain⟨y,_,hy⟩:=vO.1 hu;exact he.one y u hy
def xI (cell:α->List Value) (k t lo:Nat) (vp:Value) (l:List α) (w:World) (e:Ending) (w':World):Prop:=∃v',e=.returned v'/\w'.ownsRow lo t k v' l.length (l.flatMap cell)/\aH (cA vp) w w'/\(∀b,cA v' b->cA vp b\/w.heap.size<=b)
theorem A7 {α:Type} {w:World} {lo:Nat} {e:TypeId} {k n:Nat} {ao:Option Addr} {cap:Nat} {xs:List Value} (h:w.ownsRow lo e k (.slice ao n cap) n xs):qK w ao n xs:=λhm=>by
 rcases h.2 with⟨h0,h1⟩ | ⟨g,cap',cur,hv,_,hg,_,_,_,ht⟩
 . omega
 grind [Addr.add_lit,cell_of_row]
theorem YL (he:BW cell k t ts F O Z) (lo:Nat) (ps zs:List α) (ao az:Option Addr) (cap cz wz:Nat) (w:World) (h:w.ownsRow lo t k (.slice ao ps.length cap) ps.length (ps.flatMap cell)) (hz:w.ownsRow wz t k (.slice az zs.length cz) zs.length (zs.flatMap cell)) (hlo:lo<=w.heap.size) (hm:1<=zs.length) (hn:ps.length<=100000) (KI:zs.length<=100000) :
  Calls prog F #[.slice ao ps.length cap,I (ps.length:Int),.slice az zs.length cz] w (xI cell k t lo (.slice ao ps.length cap) (ps++zs) w):=by
 have HH:=ai h;have HF:=ai (A7 (α:=Unit) hz);have HL:=ai (fp cell k he.len zs);have H1:=ai (he.cells zs);obtain⟨_,_,e0,C4,_⟩:=aZ h;injection e0 with e1 e2 e3;subst e3;obtain⟨n,y⟩:=ex ps.length;obtain⟨m,J⟩:=ex zs.length;have fV:Hid (∀v' (w':World),w'.ownsRow lo t k v' (n+m) (ps.flatMap cell++zs.flatMap cell)->aH (cA (.slice ao n cap)) w w'->(∀b,cA v' b->cA (.slice ao n cap) b\/w.heap.size<=b)->xI cell k t lo (.slice ao n cap) (ps++zs) w (.returned v') w'):=λv' w' h1 h2 h3=>⟨v',rfl,Γ,h2,h3⟩
 rw[<- y] at HH hn C4 ⊢;rw[<- J] at HF HL hm KI ⊢;generalize xI cell k t lo (.slice ao n cap) (ps++zs) w=P at fV ⊢;obtain⟨ZS,K⟩:=ex (zs.flatMap cell);generalize ps.flatMap cell=XS at HH fV;rw[<- K] at HF HL H1 fV;obtain⟨i0,A,B,L,M⟩:=kI he.info;have Mk:=ai A;have HU:=ai he.und;have N:=ai he.zc;have Tn:=ai B;have Nr:=ai L;have DY:=ai M;have T:((m:Int)==0)=false:=by grind
 clear h hz y J K A B L M e1 e2;rcases he.way with⟨rfl,rfl,rfl,rfl,rfl,rfl⟩ | ⟨rfl,rfl,rfl,rfl,rfl,rfl⟩
 all_goals
  (first | go_enter func299,ntmps299 | go_enter func316,ntmps316)
  go_wp2_with (at_builtin;refine m8 (P:=prog) rfl _ _ _ rfl lo _ i0 _ _ 24 HU.o Mk.o Tn.o Nr.o DY.o N.o.1 N.o.2 (.slice ao n cap) n XS rfl HH.o az m cz ZS rfl HL.o HF.o H1.o (by unfold maxLen;omega) ω hlo ?_;intro v' w' q Q G;have K6:=ai q;have R:=ai Q;have qO:=ai G;clear q Q G)
  all_goals
   refine fV.o _ _ K6.o (aH.grown R.o (λ_ e=>e)) (λb hb=>?_);unfold cA at hb ⊢;rcases qO.o with e | e
   . grind
   grind
end Go.Proofs.YtlgoihmkgaaemaaGreat
