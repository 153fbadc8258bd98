import Derived.Test.YtlgoihmkgaaemaaGreatGQ29
set_option maxHeartbeats 20000000
set_option linter.unusedVariables false
set_option maxRecDepth 100000
set_option linter.unusedSimpArgs false
namespace Go.Proofs.YtlgoihmkgaaemaaGreat
open Go.RowKit Tryz
def si (v:Value) (b:Nat):Prop:=v.ownBlock=some b
structure y7 where
 T:Nat
 Rm:Nat
 MD:Nat
 aj3:Nat
 Qr:Nat
 Fv:Nat
 ZM:Nat
 ZN:Nat
 aiY : ∀ (a : Addr) (w : World), (method 513 T (.pointer (some a)) "Load").run prog w = .ok (Rm, .pointer (some a)) w
 ajo : ∀ (a : Addr) (w : World), (nilAhead 513 T (.pointer (some a)) "Load").run prog w = .ok (some false) w
 ajm:∀(l:Array Value) (w:World),(callFunc Rm l).run prog w=.ok (.enter Rm l) w
 agJ : ∀ (a : Addr) (w : World), (method 513 T (.pointer (some a)) "Store").run prog w = .ok (MD, .pointer (some a)) w
 ag4 : ∀ (a : Addr) (w : World), (nilAhead 513 T (.pointer (some a)) "Store").run prog w = .ok (some false) w
 ag1:∀(l:Array Value) (w:World),(callFunc MD l).run prog w=.ok (.enter MD l) w
 aqe : ∀ (a : Addr) (w : World), (method 513 T (.pointer (some a)) "Map").run prog w = .ok (aj3, .pointer (some a)) w
 aq3 : ∀ (a : Addr) (w : World), (nilAhead 513 T (.pointer (some a)) "Map").run prog w = .ok (some false) w
 aq0:∀(l:Array Value) (w:World),(callFunc aj3 l).run prog w=.ok (.enter aj3 l) w
 agI : ∀ (a : Addr) (w : World), (method 513 T (.pointer (some a)) "Unmap").run prog w = .ok (Qr, .pointer (some a)) w
 ag3 : ∀ (a : Addr) (w : World), (nilAhead 513 T (.pointer (some a)) "Unmap").run prog w = .ok (some false) w
 ag0:∀(l:Array Value) (w:World),(callFunc Qr l).run prog w=.ok (.enter Qr l) w
 UE : ∀ (a : Addr) (w : World), (method 513 T (.pointer (some a)) "Protect").run prog w = .ok (Fv, .pointer (some a)) w
 UQ : ∀ (a : Addr) (w : World), (nilAhead 513 T (.pointer (some a)) "Protect").run prog w = .ok (some false) w
 UO:∀(l:Array Value) (w:World),(callFunc Fv l).run prog w=.ok (.enter Fv l) w
 alQ : ∀ (a : Addr) (w : World), (method 513 T (.pointer (some a)) "Fork").run prog w = .ok (ZM, .pointer (some a)) w
 amk : ∀ (a : Addr) (w : World), (nilAhead 513 T (.pointer (some a)) "Fork").run prog w = .ok (some false) w
 amj:∀(l:Array Value) (w:World),(callFunc ZM l).run prog w=.ok (.enter ZM l) w
 aiZ : ∀ (a : Addr) (w : World), (method 513 T (.pointer (some a)) "Drop").run prog w = .ok (ZN, .pointer (some a)) w
 ajp : ∀ (a : Addr) (w : World), (nilAhead 513 T (.pointer (some a)) "Drop").run prog w = .ok (some false) w
 ajn:∀(l:Array Value) (w:World),(callFunc ZN l).run prog w=.ok (.enter ZN l) w
def kj {σ:Type} (Hd:World->(Nat->Prop)->σ->Prop) (w:World) (D:Nat->Prop) (v:Value) (s:σ) (e:Ending) (w':World):Prop:=∃D',e=.returned v/\Hd w' D' s/\aH D w w'/\∀b,D' b->D b\/w.heap.size<=b
structure ja {σ:Type} (MT:y7) (lo mb:Nat) (Hd:World->(Nat->Prop)->σ->Prop) (Ok:σ->List Bool->Prop) (o:lK σ):Prop where
 kp:∀(w w':World) (D E:Nat->Prop) (s:σ),Hd w D s->aH E w w'->(∀b,D b->¬E b)->Hd w' D s
 dom:∀(w:World) (D:Nat->Prop) (s:σ),Hd w D s->∀b,D b->lo<=b/\b<w.heap.size
 ok:tj o Ok
 load:∀(w:World) D s fl (k:Nat) (a n way:Int),Hd w D s->Ok s fl->fl.getD k false=true->cH a->1<=n->n<=8->(way=0\/way=2)->Calls prog MT.Rm #[.pointer (some (Ad mb 0)),I (k:Int),I a,I n,I way] w (kj Hd w D (.tuple #[.string (o.load s k a n way).1.1,.agg (eI (o.load s k a n way).1.2)]) (o.load s k a n way).2)
 store:∀(w:World) D s fl (k:Nat) (a:Int) (d:ByteArray),Hd w D s->Ok s fl->fl.getD k false=true->cH a->1<=d.size->d.size<=8->Calls prog MT.MD #[.pointer (some (Ad mb 0)),I (k:Int),I a,.string d] w (kj Hd w D (.agg (eI (o.store s k a d).1)) (o.store s k a d).2)
 map:∀(w:World) D s fl (k:Nat) (p n q:Int),Hd w D s->Ok s fl->fl.getD k false=true->cH p->cH n->Calls prog MT.aj3 #[.pointer (some (Ad mb 0)),I (k:Int),I p,I n,I q] w (kj Hd w D (I (o.map s k p n q).1) (o.map s k p n q).2)
 qX:∀(w:World) D s fl (k:Nat) (p n:Int),Hd w D s->Ok s fl->fl.getD k false=true->cH p->cH n->Calls prog MT.Qr #[.pointer (some (Ad mb 0)),I (k:Int),I p,I n] w (kj Hd w D (I (o.qX s k p n).1) (o.qX s k p n).2)
 ko:∀(w:World) D s fl (k:Nat) (p n q:Int),Hd w D s->Ok s fl->fl.getD k false=true->cH p->cH n->Calls prog MT.Fv #[.pointer (some (Ad mb 0)),I (k:Int),I p,I n,I q] w (kj Hd w D (I (o.ko s k p n q).1) (o.ko s k p n q).2)
 fork:∀(w:World) D s fl (k:Nat),Hd w D s->Ok s fl->fl.getD k false=true->Calls prog MT.ZM #[.pointer (some (Ad mb 0)),I (k:Int)] w (kj Hd w D (I (o.fork s k).1) (o.fork s k).2)
 drop:∀(w:World) D s fl (k:Nat),Hd w D s->Ok s fl->fl.getD k false=true->Calls prog MT.ZN #[.pointer (some (Ad mb 0)),I (k:Int)] w (kj Hd w D (.tuple #[]) (o.drop s k))
def bO (p:bT):List Value:=[I (p.r 0),I (p.r 1),I (p.r 2),I (p.r 3),I (p.r 4),I (p.r 5),I (p.r 6),I (p.r 7),I p.pc,I p.st,I p.cd,I p.fk,I p.fa]
def kH (x:uN):List Value:=[I x.proc,I x.value]
theorem se (p:bT):(bO p).length=13:=rfl
theorem xg (p:uN):(kH p).length=2:=rfl
structure fR {σ:Type} (MT:y7) (Hd:World->(Nat->Prop)->σ->Prop) (lo mb gb:Nat) (w:World) (D:Nat->Prop) (vr vo:Value) (st:dB σ):Prop where
 head:w.heap[gb]?=some (.cells #[.iface MT.T (.pointer (some (Ad mb 0))),vr,vo] 191 (0,0))
 mem:Hd w D st.mem
 procs:w.ownsRow lo 77 13 vr st.ps.length (st.ps.flatMap bO)
 outs:w.ownsRow lo 91 2 vo st.out.length (st.out.flatMap kH)
 base:lo<=gb
 n1:¬D gb
 n2:¬si vr gb
 n3:¬si vo gb
 n4:∀b,si vr b->¬D b
 n5:∀b,si vo b->¬D b
 n6:∀b,si vr b->¬si vo b
def kM (gb:Nat) (D:Nat->Prop) (vr vo:Value) (b:Nat):Prop:=b=gb\/D b\/si vr b\/si vo b
section
variable {MT:y7} {σ:Type} {Hd:World->(Nat->Prop)->σ->Prop} {Ok:σ->List Bool->Prop} {o:lK σ} {lo mb gb:Nat} {w w':World} {D:Nat->Prop} {vr vo:Value} {st:dB σ}
theorem fR.kp (C:ja MT lo mb Hd Ok o) {E:Nat->Prop} (h:fR MT Hd lo mb gb w D vr vo st) (hk:aH E w w') (hd:∀b,kM gb D vr vo b->¬E b):fR MT Hd lo mb gb w' D vr vo st :=
 ⟨hk.keep h.head (hd _ (.inl rfl)),C.kp _ _ _ _ _ h.mem hk (λb hb=>hd b (.inr (.inl hb))),hk.row h.procs (λg hg=>hd g (.inr (.inr (.inl hg)))),hk.row h.outs (λg hg=>hd g (.inr (.inr (.inr hg)))),h.base,h.n1,h.n2,h.n3,h.n4,h.n5,h.n6⟩
theorem fR.below (C:ja MT lo mb Hd Ok o) (h:fR MT Hd lo mb gb w D vr vo st) (hb:Below w.heap.size w w'):fR MT Hd lo mb gb w' D vr vo st:=h.kp C (aH.bQ (D:=λ_=>False) hb) (λ_ _ g=>g)
theorem fR.lt (C:ja MT lo mb Hd Ok o) (h:fR MT Hd lo mb gb w D vr vo st) (b:Nat) (hb:kM gb D vr vo b):lo<=b/\b<w.heap.size:=by
 rcases hb with g | g | g | g
 . rw[g];exact⟨h.base,aQ h.head⟩
 . exact C.dom _ _ _ h.mem b g
 . exact h.procs.lt b g
 exact h.outs.lt b g
theorem fR.turn (C:ja MT lo mb Hd Ok o) {D':Nat->Prop} {m:σ} (h:fR MT Hd lo mb gb w D vr vo st) (hm:Hd w' D' m) (hk:aH D w w') (hd:∀b,D' b->D b\/w.heap.size<=b):fR MT Hd lo mb gb w' D' vr vo { st with mem:=m }:=by
 have h1:∀b,b<w.heap.size->¬D b->¬D' b:=λb hb hn g=>by
  rcases hd b g with x | x
  . exact hn x
  omega
 exact⟨hk.keep h.head h.n1,hm,hk.row h.procs h.n4,hk.row h.outs h.n5,h.base,h1 _ (aQ h.head) h.n1,h.n2,h.n3,λb hb=>h1 b (h.procs.lt b hb).2 (h.n4 b hb),λb hb=>h1 b (h.outs.lt b hb).2 (h.n5 b hb),h.n6⟩
def cV (MT:y7) (Hd:World->(Nat->Prop)->σ->Prop) (lo mb gb:Nat) (w:World) (D:Nat->Prop) (vr vo:Value) (st':dB σ) (w':World):Prop:=∃D' Rh Ri,fR MT Hd lo mb gb w' D' Rh Ri st'/\aH (kM gb D vr vo) w w'/\∀b,kM gb D' Rh Ri b->kM gb D vr vo b\/w.heap.size<=b
theorem cV.refl (h:fR MT Hd lo mb gb w D vr vo st):cV MT Hd lo mb gb w D vr vo st w:=⟨D,vr,vo,h,aH.refl _ _,λb hb=>.inl hb⟩
theorem cV.Qo (C:ja MT lo mb Hd Ok o) {D':Nat->Prop} {m:σ} (h:fR MT Hd lo mb gb w D vr vo st) (hm:Hd w' D' m) (hk:aH D w w') (hd:∀b,D' b->D b\/w.heap.size<=b):cV MT Hd lo mb gb w D vr vo { st with mem:=m } w' :=
 ⟨D',vr,vo,h.turn C hm hk hd,hk.mono (λb _ g=>.inr (.inl g)),λb hb=>by
  rcases hb with g | g | g | g
  . exact .inl (.inl g)
  . rcases hd b g with x | x
    . exact .inl (.inr (.inl x))
    exact .inr x
  . exact .inl (.inr (.inr (.inl g)))
  exact .inl (.inr (.inr (.inr g)))⟩
theorem cV.trans {w2:World} {D1:Nat->Prop} {r1 o1:Value} {st2:dB σ} (hk:aH (kM gb D vr vo) w w') (hd:∀b,kM gb D1 r1 o1 b->kM gb D vr vo b\/w.heap.size<=b) (h2:cV MT Hd lo mb gb w' D1 r1 o1 st2 w2):cV MT Hd lo mb gb w D vr vo st2 w2:=by
 obtain⟨D',Rh,Ri,hg,y,q⟩:=h2;have hs:=hk.size;refine⟨D',Rh,Ri,hg,hk.trans y (λb hb g=>?_),λb hb=>?_⟩
 . rcases hd b g with x | x
   . exact x
   omega
 rcases q b hb with x | x
 . exact hd b x
 exact .inr ω
theorem cV.after {w2:World} {st2:dB σ} (hb:Below w.heap.size w w') (h2:cV MT Hd lo mb gb w' D vr vo st2 w2):cV MT Hd lo mb gb w D vr vo st2 w2:=cV.trans (aH.bQ hb) (λb hb=>.inl hb) h2
theorem cV.more (C:ja MT lo mb Hd Ok o) {w2:World} {st2:dB σ} (h:cV MT Hd lo mb gb w D vr vo st2 w') (hb:Below w'.heap.size w' w2):cV MT Hd lo mb gb w D vr vo st2 w2:=by
 obtain⟨D',Rh,Ri,hg,q,b⟩:=h;exact⟨D',Rh,Ri,hg.below C hb,q.trans (aH.bQ hb) (λ_ _ g=>g),b⟩
theorem Pq {v v':Value} {O:Obj} (hat:v'.ownBlock=v.ownBlock\/v'.ownBlock=some (w.alloc O).heap.size) (b:Nat) (hb:si v' b):si v b\/b=w.heap.size+1:=by
 unfold si at hb ⊢;rcases hat with e | e
 . exact .inl (by rw[<- e];exact hb)
 right;rw[e,fY] at hb;injection hb with hb;exact hb.symm
theorem fR.asS (C:ja MT lo mb Hd Ok o) {w4:World} {O:Obj} {Rh:Value} {p:bT} (h:fR MT Hd lo mb gb w D vr vo st) (hgr:(w.alloc O).grownBy w4 vr.ownBlock) (hown:w4.ownsRow lo 77 13 Rh (st.ps.length+1) (st.ps.flatMap bO++bO p)) (hat:Rh.ownBlock=vr.ownBlock\/Rh.ownBlock=some (w.alloc O).heap.size) :
  cV MT Hd lo mb gb w D vr vo { st with ps:=st.ps++[p] } (w4.setCell (Ad gb 1) Rh):=by
 have s2:=hgr.size;rw[fY] at s2;have q:=Pq hat
 have kA:aH (si vr) w w4:=(aH.alloc (si vr) w O).trans (aH.grown hgr (λ_ e=>e)) (λ_ _ g=>g);have kS:aH (λb=>b=gb) w4 (w4.setCell (Ad gb 1) Rh):=aH.set _ _ _ _ rfl;have A:=aQ h.head;have y:=h.lt C;have e1:¬si Rh gb:=λg=>by
  rcases q _ g with x | x
  . exact h.n2 x
  omega
 refine⟨D,Rh,vo,⟨gH (kA.keep h.head h.n2) 1 Rh,?_,?_,?_,h.base,h.n1,e1,h.n3,?_,h.n5,?_⟩,?_,?_⟩
 . exact C.kp _ _ _ _ _ (C.kp _ _ _ _ _ h.mem kA (λb hb g=>h.n4 b g hb)) kS (λb hb g=>h.n1 (g ▸ hb))
 . show(w4.setCell _ _).ownsRow lo _ 13 Rh (st.ps++[p]).length ((st.ps++[p]).flatMap bO);rw[ft,tH];exact kS.row (by simpa using hown) (λg hg e=>e1 (e ▸ hg))
 . exact kS.row (kA.row h.outs (λg hg e=>h.n6 g e hg)) (λg hg e=>h.n3 (e ▸ hg))
 . intro b hb g;rcases q _ hb with x | x
   . exact h.n4 b x g
   have:=y b (.inr (.inl g));omega
 . intro b hb g;rcases q _ hb with x | x
   . exact h.n6 b x g
   have:=y b (.inr (.inr (.inr g)));omega
 . exact(kA.mono (λb _ g=>.inr (.inr (.inl g)))).trans (kS.mono (λb _ g=>.inl g)) (λ_ _ g=>g)
 intro b hb;rcases hb with g | g | g | g
 . exact .inl (.inl g)
 . exact .inl (.inr (.inl g))
 . rcases q _ g with x | x
   . exact .inl (.inr (.inr (.inl x)))
   exact .inr ω
 exact .inl (.inr (.inr (.inr g)))
theorem fR.asR (C:ja MT lo mb Hd Ok o) {w4:World} {O:Obj} {Ri:Value} {x:uN} (h:fR MT Hd lo mb gb w D vr vo st) (hgr:(w.alloc O).grownBy w4 vo.ownBlock) (hown:w4.ownsRow lo 91 2 Ri (st.out.length+1) (st.out.flatMap kH++kH x)) (hat:Ri.ownBlock=vo.ownBlock\/Ri.ownBlock=some (w.alloc O).heap.size) :
  cV MT Hd lo mb gb w D vr vo { st with out:=st.out++[x] } (w4.setCell (Ad gb 2) Ri):=by
 have s2:=hgr.size;rw[fY] at s2;have q:=Pq hat
 have kA:aH (si vo) w w4:=(aH.alloc (si vo) w O).trans (aH.grown hgr (λ_ e=>e)) (λ_ _ g=>g);have kS:aH (λb=>b=gb) w4 (w4.setCell (Ad gb 2) Ri):=aH.set _ _ _ _ rfl;have A:=aQ h.head;have y:=h.lt C;have e1:¬si Ri gb:=λg=>by
  rcases q _ g with x | x
  . exact h.n3 x
  omega
 refine⟨D,vr,Ri,⟨gH (kA.keep h.head h.n3) 2 Ri,?_,?_,?_,h.base,h.n1,h.n2,e1,h.n4,?_,?_⟩,?_,?_⟩
 . exact C.kp _ _ _ _ _ (C.kp _ _ _ _ _ h.mem kA (λb hb g=>h.n5 b g hb)) kS (λb hb g=>h.n1 (g ▸ hb))
 . exact kS.row (kA.row h.procs (λg hg e=>h.n6 g hg e)) (λg hg e=>h.n2 (e ▸ hg))
 . show(w4.setCell _ _).ownsRow lo _ 2 Ri (st.out++[x]).length ((st.out++[x]).flatMap kH);rw[ft,tH];exact kS.row (by simpa using hown) (λg hg e=>e1 (e ▸ hg))
 . intro b hb g;rcases q _ hb with x | x
   . exact h.n5 b x g
   have:=y b (.inr (.inl g));omega
 . intro b hb g;rcases q _ g with x | x
   . exact h.n6 b hb x
   have:=y b (.inr (.inr (.inl hb)));omega
 . exact(kA.mono (λb _ g=>.inr (.inr (.inr g)))).trans (kS.mono (λb _ g=>.inl g)) (λ_ _ g=>g)
 intro b hb;rcases hb with g | g | g | g
 . exact .inl (.inl g)
 . exact .inl (.inr (.inl g))
 . exact .inl (.inr (.inr (.inl g)))
 rcases q _ g with x | x
 . exact .inl (.inr (.inr (.inr x)))
 exact .inr ω
def iq (MT:y7) (ys:Nat->Prop) (Hd:World->(Nat->Prop)->σ->Prop) (lo mb gb:Nat) (w:World) (D:Nat->Prop) (vr vo:Value) (st':dB σ) (w':World):Prop:=∃D' Rh Ri,fR MT Hd lo mb gb w' D' Rh Ri st'/\aH (kM gb D vr vo) w w'/\(∀b,kM gb D' Rh Ri b->kM gb D vr vo b\/w.heap.size<=b)/\∀b,ys b->¬kM gb D' Rh Ri b
theorem iq.left {ys:Nat->Prop} {st':dB σ} (h:iq MT ys Hd lo mb gb w D vr vo st' w'):cV MT Hd lo mb gb w D vr vo st' w':=by
 obtain⟨D',r,v,h1,h2,h3,_⟩:=h;exact⟨D',r,v,h1,h2,h3⟩
theorem iq.set (C:ja MT lo mb Hd Ok o) {ys:Nat->Prop} {st':dB σ} (h:iq MT ys Hd lo mb gb w D vr vo st' w') (a:Addr) (x:Value) (hy:ys a.block) (hw:w.heap.size<=a.block):iq MT ys Hd lo mb gb w D vr vo st' (w'.setCell a x):=by
 obtain⟨D',r,v,h1,h2,h3,h4⟩:=h;have kS:aH (λb=>b=a.block) w' (w'.setCell a x):=aH.set _ _ _ _ rfl;exact⟨D',r,v,h1.kp C kS (λb hb e=>h4 _ hy (e ▸ hb)),h2.trans kS (λb hb e=>ω),h3,h4⟩
theorem iq.more (C:ja MT lo mb Hd Ok o) {ys:Nat->Prop} {w2:World} {st':dB σ} (h:iq MT ys Hd lo mb gb w D vr vo st' w') (hb:Below w'.heap.size w' w2):iq MT ys Hd lo mb gb w D vr vo st' w2:=by
 obtain⟨D',r,v,h1,h2,h3,h4⟩:=h;exact⟨D',r,v,h1.below C hb,h2.trans (aH.bQ hb) (λ_ _ g=>g),h3,h4⟩
theorem iq.alloc (C:ja MT lo mb Hd Ok o) {ys:Nat->Prop} {st':dB σ} (h:iq MT ys Hd lo mb gb w D vr vo st' w') (ob:Obj):iq MT (λb=>ys b\/b=w'.heap.size) Hd lo mb gb w D vr vo st' (w'.alloc ob):=by
 obtain⟨D',r,v,h1,h2,h3,h4⟩:=h;have hb:Below w'.heap.size w' (w'.alloc ob):=(aN _ _).alloc (aK _) ob;exact⟨D',r,v,h1.below C hb,h2.trans (aH.bQ hb) (λ_ _ g=>g),h3,λb hy g=>by
  rcases hy with e | e
  . exact h4 b e g
  have:=h1.lt C b g;omega⟩
theorem iq.sub {ys zs:Nat->Prop} {st':dB σ} (h:iq MT ys Hd lo mb gb w D vr vo st' w') (hs:∀b,zs b->ys b):iq MT zs Hd lo mb gb w D vr vo st' w':=by
 obtain⟨D',r,v,h1,h2,h3,h4⟩:=h;exact⟨D',r,v,h1,h2,h3,λb hb=>h4 b (hs b hb)⟩
theorem iq.behind (C:ja MT lo mb Hd Ok o) {w2:World} {st':dB σ} (h:fR MT Hd lo mb gb w D vr vo st) (hb:Below w.heap.size w w') (h2:cV MT Hd lo mb gb w' D vr vo st' w2):iq MT (λb=>w.heap.size<=b/\b<w'.heap.size) Hd lo mb gb w D vr vo st' w2:=by
 obtain⟨D',r,v,g1,g2,g3⟩:=h2;have hs:=hb.size;refine⟨D',r,v,g1,(aH.bQ hb).trans g2 (λ_ _ g=>g),λb hb'=>?_,λb hy g=>?_⟩
 . rcases g3 b hb' with x | x
   . exact .inl x
   exact .inr ω
 rcases g3 b g with x | x
 . have:=h.lt C b x;omega
 omega
theorem fR.aside (C:ja MT lo mb Hd Ok o) {w2:World} {b:Nat} {ob:Obj} (h:fR MT Hd lo mb gb w D vr vo st) (hk:aH (kM gb D vr vo) w' w2) (hw:w.heap.size<=b) (hb:w'.heap[b]?=some ob):w2.heap[b]?=some ob :=
 hk.keep hb (λg=>by have:=h.lt C b g;omega)
theorem iq.step {ys:Nat->Prop} {w2:World} {D1:Nat->Prop} {r1 o1:Value} {st2:dB σ} (hys:∀b,ys b->b<w'.heap.size) (hk:aH (kM gb D vr vo) w w') (hd:∀b,kM gb D1 r1 o1 b->kM gb D vr vo b\/w.heap.size<=b) (hn:∀b,ys b->¬kM gb D1 r1 o1 b) (h2:cV MT Hd lo mb gb w' D1 r1 o1 st2 w2):iq MT ys Hd lo mb gb w D vr vo st2 w2:=by
 obtain⟨D',Rh,Ri,hg,y,q⟩:=h2;have hs:=hk.size;refine⟨D',Rh,Ri,hg,hk.trans y (λb hb g=>?_),λb hb=>?_,λb hy g=>?_⟩
 . rcases hd b g with x | x
   . exact x
   omega
 . rcases q b hb with x | x
   . exact hd b x
   exact .inr ω
 rcases q b g with x | x
 . exact hn b hy x
 have:=hys b hy;omega
theorem cV.keep {w2:World} {st2:dB σ} {b:Nat} {ob:Obj} (h2:cV MT Hd lo mb gb w D vr vo st2 w2) (hb:w.heap[b]?=some ob) (hn:¬kM gb D vr vo b):w2.heap[b]?=some ob:=by
 obtain⟨_,_,_,_,q,_⟩:=h2;exact q.keep hb hn
theorem fR.proc (h:fR MT Hd lo mb gb w D vr vo st) (k:Nat) (hk:k<st.ps.length):∃pb cap,vr=.slice (some (Ad pb 0)) st.ps.length cap/\pb<w.heap.size/\(∀j,j<13->w.cell? (Ad pb (k*13+j))=(bO (aO st.ps k))[j]?)/\∀j,w.frozen? (Ad pb j)=false:=by
 obtain⟨ao,cap,e,_,hg⟩:=aZ h.procs;obtain⟨pb,rfl,_,b⟩:=hg ω;have hr:=h.procs;rw[e] at hr;exact⟨pb,cap,e,b,λj hj=>gw bO se Hz hr k j hk hj,λj=>ie hr j⟩
end
theorem Pp {w:World} {pb k:Nat} {q:bT} (h:∀j,j<13->w.cell? (Ad pb (k*13+j))=(bO q)[j]?):w.cell? (Ad pb (k*13))=some (I (q.r 0))/\w.cell? (Ad pb (k*13+1))=some (I (q.r 1))/\w.cell? (Ad pb (k*13+2))=some (I (q.r 2))/\w.cell? (Ad pb (k*13+3))=some (I (q.r 3))/\w.cell? (Ad pb (k*13+4))=some (I (q.r 4))/\w.cell? (Ad pb (k*13+5))=some (I (q.r 5))/\w.cell? (Ad pb (k*13+6))=some (I (q.r 6))/\w.cell? (Ad pb (k*13+7))=some (I (q.r 7))/\w.cell? (Ad pb (k*13+8))=some (I q.pc)/\w.cell? (Ad pb (k*13+9))=some (I q.st)/\w.cell? (Ad pb (k*13+10))=some (I q.cd)/\w.cell? (Ad pb (k*13+11))=some (I q.fk)/\w.cell? (Ad pb (k*13+12))=some (I q.fa):=⟨h 0 Δ,h 1 Δ,h 2 Δ,h 3 Δ,h 4 Δ,h 5 Δ,h 6 Δ,h 7 Δ,h 8 Δ,h 9 Δ,h 10 Δ,h 11 Δ,h 12 Δ⟩
open Go.RowKit
structure iI (lo mb:Nat) (w:World) (D:Nat->Prop) (k:aT):Prop where
 has:∃hs a n sz,cZ k.aR hs/\w.heap[mb]?=some (.cells (br a (aY k hs)) 185 (0,0))/\(∀U,aH (λb=>¬(n<=b/\b<sz)) w U->ju U a (aY k hs))/\lo<=n/\sz<=w.heap.size/\¬(n<=mb/\mb<sz)/\∀b,D b↔(b=mb\/(n<=b/\b<sz))
 base:lo<=mb
variable {lo mb:Nat} {w w':World} {D:Nat->Prop} {k:aT}
theorem iI.kp {E:Nat->Prop} (h:iI lo mb w D k) (hk:aH E w w') (hd:∀b,D b->¬E b):iI lo mb w' D k:=by
 obtain⟨⟨hs,a,n,sz,h1,h2,h3,h4,h5,h6,h7⟩,hb⟩:=h;refine⟨⟨hs,a,n,sz,h1,hk.keep h2 (hd mb ((h7 mb).2 (.inl rfl))),λU hU=>h3 U ?_,h4,eJ h5 hk.size,h6,h7⟩,hb⟩;exact(hk.mono (λb _ g x=>hd b ((h7 b).2 (.inr x)) g)).trans hU (λ_ _ g=>g)
theorem iI.dom (h:iI lo mb w D k) (b:Nat) (hb:D b):lo<=b/\b<w.heap.size:=by
 obtain⟨⟨hs,a,n,sz,h1,h2,h3,h4,h5,h6,h7⟩,hm⟩:=h;have:=aQ h2;rcases(h7 b).1 hb with e | e
 . subst e;exact⟨hm,this⟩
 omega
theorem iI.same (h:iI lo mb w D k) (hk:aH (λb=>b=mb) w w') (he:w'.heap[mb]?=w.heap[mb]?):iI lo mb w' D k:=by
 obtain⟨⟨hs,a,n,sz,h1,h2,h3,h4,h5,h6,h7⟩,hb⟩:=h;refine⟨⟨hs,a,n,sz,h1,he.trans h2,λU hU=>h3 U ?_,h4,eJ h5 hk.size,h6,h7⟩,hb⟩;exact(hk.mono (λb _ g x=>h6 (g ▸ x))).trans hU (λ_ _ g=>g)
def xP (lo mb:Nat) (w:World) (D:Nat->Prop) (k':aT) (w2:World):Prop:=∃D',iI lo mb w2 D' k'/\aH D w w2/\∀b,D' b->D b\/w.heap.size<=b
theorem iI.inD (h:iI lo mb w D k):D mb:=by
 obtain⟨⟨hs,a,n,sz,h1,h2,h3,h4,h5,h6,h7⟩,hb⟩:=h;exact(h7 mb).2 (.inl rfl)
theorem iI.turn {w1 w2:World} {k':aT} {hs':List bC} {a':jC} (h:iI lo mb w D k) (s:cZ k'.aR hs') (hK:∀U,aH (λb=>b<w.heap.size) w1 U->ju U a' (aY k' hs')) (b1:Below w.heap.size w w1) (hk:aH (λb=>b=mb) w1 w2) (hc:w2.heap[mb]?=some (.cells (br a' (aY k' hs')) 185 (0,0))):xP lo mb w D k' w2:=by
 have hd:=h.dom mb h.inD;have hz:=hk.size;have q:=b1.size;refine⟨λb=>b=mb\/(w.heap.size<=b/\b<w1.heap.size),⟨⟨hs',a',w.heap.size,w1.heap.size,s,hc,λU hU=>hK U ?_,ω,hz,ω,λb=>Iff.rfl⟩,h.base⟩,?_,λb hb=>?_⟩
 . exact(hk.mono (λb _ g=>ω)).trans hU (λb hb g=>ω)
 . exact(aH.bQ b1).trans (hk.mono (λb _ g=>g ▸ h.inD)) (λ_ _ g=>g)
 rcases hb with e | e
 . exact .inl (e ▸ h.inD)
 exact .inr e.1
theorem JK {K k':aT} {hs:List bC} {ok:Prop} [Decidable ok] {old:Array Value} (h:iI lo mb w D k) (hc:w.heap[mb]?=some (.cells old 185 (0,0))) (s:cZ k.aR hs) (ha:QO k K k' hs ok) {vs:List Value} {e:Ending} {w1:World} (ho:fL w K vs e w1) :
  ∃s0 n0 q0 s1 n1 q1 s2 n2 q2 s3 n3 q3 hd,e=.returned (.tuple (Value.agg #[.slice s0 n0 q0,.slice s1 n1 q1,.slice s2 n2 q2,.slice s3 n3 q3,I hd]::vs).toArray)/\Below w.heap.size w w1/\∀w2,aH (λb=>b=mb) w1 w2->w2.heap[mb]?=some (.cells (if ok then #[.slice s0 n0 q0,.slice s1 n1 q1,.slice s2 n2 q2,.slice s3 n3 q3,I hd] else old) 185 (0,0))->xP lo mb w D k' w2:=by
 obtain⟨q,a1,s1,he,hU,hb⟩:=ae0 ho;refine⟨a1.aS,_,a1.cS,a1.aF,_,a1.cF,a1.aL,_,a1.cL,a1.aP,_,a1.cP,_,he,hb,λw2 hk hm=>?_⟩;by_cases c:ok
 . rw[aC c] at hm;obtain⟨e1,e2⟩:=ha.1 c;subst e1;exact h.turn (a':=a1) (hs':=q) (k':=k') (by unfold cZ at *;rw[e2];exact s1.trans s) hU hb hk hm
 rw[aB c] at hm;rw[ha.2 c];have h1:iI lo mb w1 D k:=h.kp (aH.bQ (D:=λ_=>False) hb) (λ_ _ g=>g);have yr:=aU hc hb (aQ hc);exact⟨D,h1.same hk (hm.trans yr.symm),(aH.bQ hb).trans (hk.mono (λb _ g=>g ▸ h.inD)) (λ_ _ g=>g),λb hb=>.inl hb⟩
theorem Wv (W:World) (b:Nat) (v0 v1 v2 v3 v4:Value):aH (λx=>x=b) W (((((W.setCell (Ad b 0) v0).setCell (Ad b 1) v1).setCell (Ad b 2) v2).setCell (Ad b 3) v3).setCell (Ad b 4) v4):=by
 have k:∀(A:World) (i:Nat) (v:Value),aH (λx=>x=b) A (A.setCell (Ad b i) v):=λA i v=>aH.set _ A (Ad b i) v rfl
 exact((((k _ _ _).trans (k _ _ _) (λ_ _ g=>g)).trans (k _ _ _) (λ_ _ g=>g)).trans (k _ _ _) (λ_ _ g=>g)).trans (k _ _ _) (λ_ _ g=>g)
theorem A8 (mb:Nat) (s0 s1 s2 s3:Option Addr) (n0 q0 n1 q1 n2 q2 n3 q3:Nat) (hd er:Int) (x0 x1 x2 x3 x4:Value) (w:World) (hm:w.heap[mb]?=some (.cells #[x0,x1,x2,x3,x4] 185 (0,0))) :
  Calls prog 259 #[.pointer (some (Ad mb 0)),.agg #[.slice s0 n0 q0,.slice s1 n1 q1,.slice s2 n2 q2,.slice s3 n3 q3,I hd],I er] w λe w'=>e=.returned (I er)/\aH (λb=>b=mb) w w'/\w'.heap[mb]?=some (.cells (if er=0 then #[.slice s0 n0 q0,.slice s1 n1 q1,.slice s2 n2 q2,.slice s3 n3 q3,I hd] else #[x0,x1,x2,x3,x4]) 185 (0,0)):=by
 obtain⟨O,hO⟩:=ex (Obj.cells #[.slice s0 n0 q0,.slice s1 n1 q1,.slice s2 n2 q2,.slice s3 n3 q3,I hd] 30 (0,0));have yr:(w.alloc O).heap[mb]?=some (.cells #[x0,x1,x2,x3,x4] 185 (0,0)):=bu hm O;have A:=aQ hm;have B:¬mb=w.heap.size:=by omega
 have f0:=bG yr 0;have f1:=bG yr 1;have f2:=bG yr 2;have f3:=bG yr 3;have f4:=bG yr 4;obtain⟨c0,c1,c2,c3,c4⟩:=o5 yr;rw[hO] at f0 f1 f2 f3 f4 c0 c1 c2 c3 c4;have q:=ai yr;have HO:=ai hO;have y:=ai (aH.alloc (λb=>b=mb) w O);clear hm yr hO A;by_cases c:er=0
 . subst c;go_enter func259,ntmps259;go_wp2;go_ret;rw[<- HO.o];exact⟨rfl,y.o.trans (Wv _ mb _ _ _ _ _) (λ_ _ g=>g),gH (gH (gH (gH (gH q.o 0 _) 1 _) 2 _) 3 _) 4 _⟩
 have cb:(er==0)=false:=by grind
 rw[aB c];clear c;go_enter func259,ntmps259;go_wp2;go_ret;rw[<- HO.o];exact⟨rfl,y.o,q.o⟩
open Go.RowKit
variable {lo mb:Nat} {w w':World} {D:Nat->Prop} {k:aT} {fl:List Bool} {j:Nat}
theorem xP.past {w0 w2 w3:World} {k':aT} (hb:Below w.heap.size w w0) (hD:∀b,D b->b<w.heap.size) (hz:w.heap.size<w0.heap.size) (h:xP lo mb w0 D k' w2) (hk:aH (λb=>b=w.heap.size) w2 w3):xP lo mb w D k' w3:=by
 obtain⟨D',h1,h2,h3⟩:=h;refine⟨D',h1.kp hk (λb hb1 e=>?_),(aH.bQ hb).trans ((h2.mono (D1:=λb=>D b\/b=w.heap.size) (λb _ g=>.inl g)).trans (hk.mono (λb _ g=>.inr g)) (λ_ _ g=>g)) (λb hb g=>g.elim id (λe=>ω)),λb hb1=>(h3 b hb1).imp id (λg=>eJ hb.size g)⟩;rcases h3 b hb1 with g | g
 . have:=hD b g;omega
 omega
theorem Pv (ho:fO k fl) (hl:fl.getD j false=true):cH (j:Int):=by
 have:=(ho.at_ hl).1;have:=ho.right.c.2.2.1.2;exact⟨ω,ω⟩
theorem JJ (N:List aX×Int) (F G:FuncId) (xs:Array Value) (hF:(F=255/\G=263/\∃p n q:Int,xs=#[I p,I n,I q])\/(F=258/\G=266/\∃p n:Int,xs=#[I p,I n])\/(F=256/\G=264/\∃p n q:Int,xs=#[I p,I n,I q]))
  (h:iI lo mb w D k) (ho:fO k fl) (hl:fl.getD j false=true) (hcl:∀hs a,ju w a (aY k hs)->pY (aY k hs)->cH (j:Int)->Calls prog G (#[.agg (br a (aY k hs)),I (j:Int)]++xs) w (fL w (kF (aY k hs) j N).1 [I (kF (aY k hs) j N).2])) :
  Calls prog F (#[.pointer (some (Ad mb 0)),I (j:Int)]++xs) w (kj (iI lo mb) w D (I (gL k j N).1) (gL k j N).2):=by
 obtain⟨⟨hs,a,_,_,s,hc,hK,_,_,_,_⟩,hb⟩:=id h;obtain⟨K,eK,hA⟩:=afd ho hl s N;generalize gL k j N=R at eK hA ⊢;obtain⟨er,k'⟩:=R;simp only at eK hA ⊢;have hC:=hcl hs a (hK w (aH.refl _ _)) (tT (ho.right.CZ s)) (Pv ho hl);rw[eK] at hC;have HC:Hid (Calls prog G (#[.agg (br a (aY k hs)),I (j:Int)]++xs) w λe w1=>∃s0 n0 q0 s1 n1 q1 s2 n2 q2 s3 n3 q3 hd,e=.returned (.tuple #[.agg #[.slice s0 n0 q0,.slice s1 n1 q1,.slice s2 n2 q2,.slice s3 n3 q3,I hd],I er])/\Below w.heap.size w w1/\∀w2,aH (λb=>b=mb) w1 w2->w2.heap[mb]?=some (.cells (if er=0 then #[.slice s0 n0 q0,.slice s1 n1 q1,.slice s2 n2 q2,.slice s3 n3 q3,I hd] else br a (aY k hs)) 185 (0,0))->xP lo mb w D k' w2):=hC.mono λe w1 ho=>by
  obtain⟨s0,n0,q0,s1,n1,q1,s2,n2,q2,s3,n3,q3,hd,rfl,B,A⟩:=JK h hc s hA ho;exact⟨_,_,_,_,_,_,_,_,_,_,_,_,_,rfl,B,λw2 x y=>A w2 x y⟩
 have HP:Hid (∀w2,xP lo mb w D k' w2->kj (iI lo mb) w D (I er) k' (.returned (I er)) w2):=λw2 ⟨D',a1,a2,a3⟩=>⟨D',rfl,a1,a2,a3⟩
 generalize kj (iI lo mb) w D (I er) k'=P at HP ⊢;have Hm:=ai hc;clear hC eK hA h hK ho hl hc hcl;generalize aY k hs=K0 at HC Hm;unfold br at HC Hm;generalize K0.aR.length=m0,K0.frames.length=m1,K0.slots.length=m2,K0.aj.length=m3,K0.hand=m4 at HC Hm;clear s;obtain⟨c0,c1,c2,c3,c4⟩:=o5 Hm.o;rcases hF with⟨rfl,rfl,p,n,q,rfl⟩ | ⟨rfl,rfl,p,n,rfl⟩ | ⟨rfl,rfl,p,n,q,rfl⟩
 all_goals
  simp only[List.append_toArray,D5,List.nil_append] at HC ⊢
  first | go_enter func255,ntmps255 | go_enter func258,ntmps258 | go_enter func256,ntmps256
  go_wp2_with (first
   | ((first | go_at_call 263 | go_at_call 266 | go_at_call 264);refine HC.o.mono ?_;rintro e w1 ⟨s0,n0,q0,s1,n1,q1,s2,n2,q2,s3,n3,q3,hd,rfl,B,A⟩;have cD:=ai B;have O:=ai A;clear B A)
   | (go_at_call 259;refine(A8 mb _ _ _ _ _ _ _ _ _ _ _ _ _ _ _ _ _ _ _ _ (aU Hm.o cD.o (aQ Hm.o))).mono ?_;rintro e w2 ⟨rfl,J,L⟩;have M:=ai (O.o _ J L);clear J L))
  exact HP.o _ M.o
theorem afg  (h:iI lo mb w D k) (ho:fO k fl) (hl:fl.getD j false=true) :
  Calls prog 253 #[.pointer (some (Ad mb 0)),I (j:Int)] w (kj (iI lo mb) w D (I (gM k j).1) (gM k j).2):=by
 obtain⟨⟨hs,a,_,_,s,hc,hK,_,_,_,_⟩,hb⟩:=id h;obtain⟨K,x,eK,hA⟩:=afh ho hl s;generalize gM k j=R at eK hA ⊢;obtain⟨er,k'⟩:=R;simp only at eK hA ⊢;have hC:=aez yN (aY k hs) a j w (hK w (aH.refl _ _)) (tT (ho.right.CZ s)) (Pv ho hl);rw[eK] at hC;have HC:Hid (Calls prog 261 #[.agg (br a (aY k hs)),I (j:Int)] w λe w1=>∃s0 n0 q0 s1 n1 q1 s2 n2 q2 s3 n3 q3 hd,e=.returned (.tuple #[.agg #[.slice s0 n0 q0,.slice s1 n1 q1,.slice s2 n2 q2,.slice s3 n3 q3,I hd],I x,I er])/\Below w.heap.size w w1/\∀w2,aH (λb=>b=mb) w1 w2->w2.heap[mb]?=some (.cells (if er=0 then #[.slice s0 n0 q0,.slice s1 n1 q1,.slice s2 n2 q2,.slice s3 n3 q3,I hd] else br a (aY k hs)) 185 (0,0))->xP lo mb w D k' w2):=hC.mono λe w1 ho=>by
  obtain⟨s0,n0,q0,s1,n1,q1,s2,n2,q2,s3,n3,q3,hd,rfl,A,q⟩:=JK h hc s hA ho;exact⟨_,_,_,_,_,_,_,_,_,_,_,_,_,rfl,A,λw2 x y=>q w2 x y⟩
 obtain⟨P,hP⟩:=ex (kj (iI lo mb) w D (I er) k');have HP:Hid (∀w2,xP lo mb w D k' w2->P (.returned (I er)) w2):=λw2 ⟨D',a1,a2,a3⟩=>by rw[hP];exact⟨D',rfl,a1,a2,a3⟩
 rw[<- hP];have Hm:=ai hc;clear hC eK hA hP h hK ho hl hc;generalize aY k hs=K0 at HC Hm;unfold br at HC Hm;generalize K0.aR.length=m0,K0.frames.length=m1,K0.slots.length=m2,K0.aj.length=m3,K0.hand=m4 at HC Hm;clear s;obtain⟨c0,c1,c2,c3,c4⟩:=o5 Hm.o;go_enter func253,ntmps253;go_wp2_with (first
  | (go_at_call 261;refine HC.o.mono ?_;rintro e w1 ⟨s0,n0,q0,s1,n1,q1,s2,n2,q2,s3,n3,q3,hd,rfl,A,q⟩;have cD:=ai A;have J:=ai q;have HX:=ai ((aN w1.heap.size w1).alloc (aK _) (.cells #[.slice s0 n0 q0,.slice s1 n1 q1,.slice s2 n2 q2,.slice s3 n3 q3,I hd] 30));clear A q)
  | (go_at_call 259;refine(A8 mb _ _ _ _ _ _ _ _ _ _ _ _ _ _ _ _ _ _ _ _ (aU (aU Hm.o cD.o (aQ Hm.o)) HX.o (dV (aQ Hm.o) cD.o.size))).mono ?_;rintro e w2 ⟨rfl,B,F⟩;have G:=ai (J.o _ ((aH.bQ HX.o).trans B (λ_ _ g=>g)) F);clear B F))
 exact HP.o _ G.o
theorem afi  (h:iI lo mb w D k) (ho:fO k fl) (hl:fl.getD j false=true) :
  Calls prog 252 #[.pointer (some (Ad mb 0)),I (j:Int)] w (kj (iI lo mb) w D (.tuple #[]) (mE k j)):=by
 obtain⟨⟨hs,a,_,_,s,hc,hK,_,_,_,_⟩,hb⟩:=id h;obtain⟨eK,hS⟩:=afj ho hl s;generalize mE k j=k' at eK hS ⊢;have hA:QO k (aY k' hs) k' hs True:=⟨λ_=>⟨rfl,hS⟩,λg=>absurd trivial g⟩;have hC:=aeA yN (aY k hs) a j w (hK w (aH.refl _ _)) (tT (ho.right.CZ s)) (Pv ho hl);rw[eK] at hC;have HC:Hid (Calls prog 260 #[.agg (br a (aY k hs)),I (j:Int)] w λe w1=>∃s0 n0 q0 s1 n1 q1 s2 n2 q2 s3 n3 q3 hd,e=.returned (.tuple #[.agg #[.slice s0 n0 q0,.slice s1 n1 q1,.slice s2 n2 q2,.slice s3 n3 q3,I hd],I 0])/\Below w.heap.size w w1/\∀w2,aH (λb=>b=mb) w1 w2->w2.heap[mb]?=some (.cells (if True then #[.slice s0 n0 q0,.slice s1 n1 q1,.slice s2 n2 q2,.slice s3 n3 q3,I hd] else br a (aY k hs)) 185 (0,0))->xP lo mb w D k' w2):=hC.mono λe w1 ho=>by
  obtain⟨s0,n0,q0,s1,n1,q1,s2,n2,q2,s3,n3,q3,hd,rfl,A,q⟩:=JK h hc s hA ho;exact⟨_,_,_,_,_,_,_,_,_,_,_,_,_,rfl,A,λw2 x y=>q w2 x y⟩
 obtain⟨P,hP⟩:=ex (kj (iI lo mb) w D (.tuple #[]) k');have HP:Hid (∀w2,xP lo mb w D k' w2->P (.returned (.tuple #[])) w2):=λw2 ⟨D',a1,a2,a3⟩=>by rw[hP];exact⟨D',rfl,a1,a2,a3⟩
 rw[<- hP];have Hm:=ai hc;clear hC eK hA hP h hK ho hl hc;generalize aY k hs=K0 at HC Hm;unfold br at HC Hm;generalize K0.aR.length=m0,K0.frames.length=m1,K0.slots.length=m2,K0.aj.length=m3,K0.hand=m4 at HC Hm;clear s;obtain⟨c0,c1,c2,c3,c4⟩:=o5 Hm.o;go_enter func252,ntmps252;go_wp2_with (first
  | (go_at_call 260;refine HC.o.mono ?_;rintro e w1 ⟨s0,n0,q0,s1,n1,q1,s2,n2,q2,s3,n3,q3,hd,rfl,A,q⟩;have cD:=ai A;have J:=ai q;clear A q)
  | (go_at_call 259;refine(A8 mb _ _ _ _ _ _ _ _ _ _ _ _ _ _ _ _ _ _ _ _ (aU Hm.o cD.o (aQ Hm.o))).mono ?_;rintro e w2 ⟨rfl,B,F⟩;have G:=ai (J.o _ B (by rw[aC trivial];exact F));clear B F))
 exact yu (v:=.tuple #[]) (by simp[results,results252,go_sem]) rfl (HP.o _ G.o)
open Go.RowKit
variable {lo mb:Nat} {w w':World} {D:Nat->Prop} {k:aT} {fl:List Bool} {j:Nat}
theorem afe (ad n way:Int) (h:iI lo mb w D k) (ho:fO k fl) (hl:fl.getD j false=true) (had:cH ad) (h1:1<=n) (h8:n<=8) (hw:way=0\/way=2) :
  Calls prog 254 #[.pointer (some (Ad mb 0)),I (j:Int),I ad,I n,I way] w (kj (iI lo mb) w D (.tuple #[.string (iu k j ad n way).1.1,.agg (eI (iu k j ad n way).1.2)]) (iu k j ad n way).2):=by
 obtain⟨WA,pU⟩:=ex (w.alloc (.cells #[I 0,I 0] 75));have F:Below w.heap.size w WA:=by rw[pU];exact(aN _ _).alloc (aK _) _
 have hz:=bH w #[I 0,I 0] 75;rw[<- pU] at hz;have hD:∀b,D b->b<w.heap.size:=λb g=>(h.dom b g).2
 have O:w.heap.size<WA.heap.size:=by rw[pU];simp
 have h:=h.kp (aH.bQ (D:=λ_=>False) F) (λ_ _ g=>g);obtain⟨⟨hs,a,_,_,s,hc,hK,_,_,_,_⟩,hb⟩:=id h;obtain⟨K,eK,hA⟩:=aff ho hl s ad n way h1 h8 hw;generalize iu k j ad n way=R at eK hA ⊢;obtain⟨⟨str,f1,f2⟩,k'⟩:=R;simp only at eK hA ⊢;have hC:=aey yN (aY k hs) a j ad n way WA (hK WA (aH.refl _ _)) (tT (ho.right.CZ s)) (Pv ho hl) had;rw[eK] at hC;have HC:Hid (Calls prog 262 #[.agg (br a (aY k hs)),I (j:Int),I ad,I n,I way] WA λe w1=>∃s0 n0 q0 s1 n1 q1 s2 n2 q2 s3 n3 q3 hd,e=.returned (.tuple #[.agg #[.slice s0 n0 q0,.slice s1 n1 q1,.slice s2 n2 q2,.slice s3 n3 q3,I hd],.string str,.agg #[I f1,I f2],I 0])/\Below WA.heap.size WA w1/\∀w2,aH (λb=>b=mb) w1 w2->w2.heap[mb]?=some (.cells (if f1=0 then #[.slice s0 n0 q0,.slice s1 n1 q1,.slice s2 n2 q2,.slice s3 n3 q3,I hd] else br a (aY k hs)) 185 (0,0))->xP lo mb WA D k' w2):=hC.mono λe w1 ho=>by
  obtain⟨s0,n0,q0,s1,n1,q1,s2,n2,q2,s3,n3,q3,hd,rfl,q,B⟩:=JK h hc s hA ho;exact⟨_,_,_,_,_,_,_,_,_,_,_,_,_,rfl,q,λw2 x y=>B w2 x y⟩
 obtain⟨P,hP⟩:=ex (kj (iI lo mb) w D (.tuple #[.string str,.agg (eI (f1,f2))]) k');have HP:Hid (∀w2 w3,xP lo mb WA D k' w2->aH (λb=>b=w.heap.size) w2 w3->P (.returned (.tuple #[.string str,.agg #[I f1,I f2]])) w3):=λw2 w3 g1 g2=>by obtain⟨D',a1,a2,a3⟩:=g1.past F hD O g2;rw[hP];exact⟨D',rfl,a1,a2,a3⟩
 rw[<- hP];have HZ:=ai (λV (g:Below WA.heap.size WA V)=>aU hz g (aQ hz));have fU:=ai F;have Au:=ai pU;have U:Hid (mb<w.heap.size):=hD mb h.inD;have Hm:=ai hc;clear hz F hD O h1 h8 hw had hC eK hA hP h hK ho hl hc;generalize aY k hs=K0 at HC Hm;unfold br at HC Hm;generalize K0.aR.length=m0,K0.frames.length=m1,K0.slots.length=m2,K0.aj.length=m3,K0.hand=m4 at HC Hm;clear s;obtain⟨c0,c1,c2,c3,c4⟩:=o5 Hm.o;rw[pU] at c0 c1 c2 c3 c4;have HC:Hid (Calls _ _ _ (w.alloc (.cells #[I 0,I 0] 75)) _):=pU ▸ HC;clear pU;go_enter func254,ntmps254;go_wp2_with fail;refine HC.o.mono ?_;rintro e w1 ⟨s0,n0,q0,s1,n1,q1,s2,n2,q2,s3,n3,q3,hd,rfl,q,B⟩;rw[<- Au.o] at q;have HX:=ai (((aN w1.heap.size w1).alloc (aK _) (.cells #[.slice s0 n0 q0,.slice s1 n1 q1,.slice s2 n2 q2,.slice s3 n3 q3,I hd] 30)).alloc ξ (.cells #[I f1,I f2] 75));have hq:=bH (w1.alloc (.cells #[.slice s0 n0 q0,.slice s1 n1 q1,.slice s2 n2 q2,.slice s3 n3 q3,I hd] 30)) #[I f1,I f2] 75;rw[fY] at hq;have HQ:=ai hq;have HS:=ai q.size;have J:=ai (HZ.o _ (q.trans (HX.o.mono q.size)));have N:=ai (aU (aU Hm.o q (aQ Hm.o)) HX.o (dV (aQ Hm.o) q.size));have T:=ai B;clear hq q B;by_cases c:f1=0
 case' pos =>
  subst c;go_wp2_with (go_at_call 259;refine(A8 mb _ _ _ _ _ _ _ _ _ _ _ _ _ _ _ _ _ _ _ _ N.o).mono ?_;rintro e w2 ⟨rfl,G,M⟩;have Y5:=ai (T.o _ ((aH.bQ HX.o).trans G (λ_ _ g=>g)) (by first | exact M | simpa using M));have L:=G.keep J.o (λg=>by have:=U.o;omega);have Q:=G.keep HQ.o (λg=>by have:=aQ Hm.o;have:=HS.o;omega);obtain⟨y0,y1⟩:=xZ Q;obtain⟨z0,z1⟩:=xZ L;have g0:=bG L;clear L Q G M)
 case' neg =>
  have cb:(f1==0)=false:=by grind
  have Y5:=ai (T.o _ (aH.bQ HX.o) (by rw[aB c];exact N.o));obtain⟨y0,y1⟩:=xZ HQ.o;obtain⟨z0,z1⟩:=xZ J.o;have g0:=bG J.o;clear c;go_wp2_with fail
 all_goals
  rw[<- Au.o] at Y5;go_region;go_wp2
  first | refine b9 (v:=.tuple #[.string str,.agg #[I f1,I f2]]) (by simp[results,results254,go_sem,z0,z1]) rfl ?_ | refine b9 (v:=.tuple #[.string str,.agg #[I 0,I f2]]) (by simp[results,results254,go_sem,z0,z1]) rfl ?_
  refine HP.o _ _ Y5.o ?_;have kk:∀(A:World) (i:Nat) (v:Value),aH (λb=>b=w.heap.size) A (A.setCell (Ad w.heap.size i) v):=λA i v=>aH.set _ A (Ad w.heap.size i) v rfl
  first | exact((kk _ _ _).trans (kk _ _ _) (λ_ _ g=>g)).trans (aH.drew _ _) (λ_ _ g=>g) | exact(aH.drew _ _).trans ((kk _ _ _).trans (kk _ _ _) (λ_ _ g=>g)) (λ_ _ g=>g)
theorem acm (ad:Int) (d:ByteArray) (h:iI lo mb w D k) (ho:fO k fl) (hl:fl.getD j false=true) (had:cH ad) (h1:1<=d.size) (h8:d.size<=8) :
  Calls prog 257 #[.pointer (some (Ad mb 0)),I (j:Int),I ad,.string d] w (kj (iI lo mb) w D (.agg (eI (jJ k j ad d).1)) (jJ k j ad d).2):=by
 obtain⟨WA,pU⟩:=ex (w.alloc (.cells #[I 0,I 0] 75));have F:Below w.heap.size w WA:=by rw[pU];exact(aN _ _).alloc (aK _) _
 have hz:=bH w #[I 0,I 0] 75;rw[<- pU] at hz;have hD:∀b,D b->b<w.heap.size:=λb g=>(h.dom b g).2
 have O:w.heap.size<WA.heap.size:=by rw[pU];simp
 have h:=h.kp (aH.bQ (D:=λ_=>False) F) (λ_ _ g=>g);obtain⟨⟨hs,a,_,_,s,hc,hK,_,_,_,_⟩,hb⟩:=id h;obtain⟨K,eK,hA⟩:=acn ho hl s ad d h1 h8;generalize jJ k j ad d=R at eK hA ⊢;obtain⟨⟨f1,f2⟩,k'⟩:=R;simp only at eK hA ⊢;have hC:=abF yN (aY k hs) a j ad d WA (hK WA (aH.refl _ _)) (tT (ho.right.CZ s)) (Pv ho hl) had;rw[eK] at hC;have HC:Hid (Calls prog 265 #[.agg (br a (aY k hs)),I (j:Int),I ad,.string d] WA λe w1=>∃s0 n0 q0 s1 n1 q1 s2 n2 q2 s3 n3 q3 hd,e=.returned (.tuple #[.agg #[.slice s0 n0 q0,.slice s1 n1 q1,.slice s2 n2 q2,.slice s3 n3 q3,I hd],.agg #[I f1,I f2],I 0])/\Below WA.heap.size WA w1/\∀w2,aH (λb=>b=mb) w1 w2->w2.heap[mb]?=some (.cells (if f1=0 then #[.slice s0 n0 q0,.slice s1 n1 q1,.slice s2 n2 q2,.slice s3 n3 q3,I hd] else br a (aY k hs)) 185 (0,0))->xP lo mb WA D k' w2):=hC.mono λe w1 ho=>by
  obtain⟨s0,n0,q0,s1,n1,q1,s2,n2,q2,s3,n3,q3,hd,rfl,q,B⟩:=JK h hc s hA ho;exact⟨_,_,_,_,_,_,_,_,_,_,_,_,_,rfl,q,λw2 x y=>B w2 x y⟩
 obtain⟨P,hP⟩:=ex (kj (iI lo mb) w D (.agg (eI (f1,f2))) k');have HP:Hid (∀w2 w3,xP lo mb WA D k' w2->aH (λb=>b=w.heap.size) w2 w3->P (.returned (.agg #[I f1,I f2])) w3):=λw2 w3 g1 g2=>by obtain⟨D',a1,a2,a3⟩:=g1.past F hD O g2;rw[hP];exact⟨D',rfl,a1,a2,a3⟩
 rw[<- hP];have HZ:=ai (λV (g:Below WA.heap.size WA V)=>aU hz g (aQ hz));have fU:=ai F;have Au:=ai pU;have U:Hid (mb<w.heap.size):=hD mb h.inD;have Hm:=ai hc;clear hz F hD O h1 h8 had hC eK hA hP h hK ho hl hc;generalize aY k hs=K0 at HC Hm;unfold br at HC Hm;generalize K0.aR.length=m0,K0.frames.length=m1,K0.slots.length=m2,K0.aj.length=m3,K0.hand=m4 at HC Hm;clear s;obtain⟨c0,c1,c2,c3,c4⟩:=o5 Hm.o;rw[pU] at c0 c1 c2 c3 c4;have HC:Hid (Calls _ _ _ (w.alloc (.cells #[I 0,I 0] 75)) _):=pU ▸ HC;clear pU;go_enter func257,ntmps257;go_wp2_with fail;refine HC.o.mono ?_;rintro e w1 ⟨s0,n0,q0,s1,n1,q1,s2,n2,q2,s3,n3,q3,hd,rfl,q,B⟩;rw[<- Au.o] at q;have HX:=ai (((aN w1.heap.size w1).alloc (aK _) (.cells #[.slice s0 n0 q0,.slice s1 n1 q1,.slice s2 n2 q2,.slice s3 n3 q3,I hd] 30)).alloc ξ (.cells #[I f1,I f2] 75));have hq:=bH (w1.alloc (.cells #[.slice s0 n0 q0,.slice s1 n1 q1,.slice s2 n2 q2,.slice s3 n3 q3,I hd] 30)) #[I f1,I f2] 75;rw[fY] at hq;have HQ:=ai hq;have HS:=ai q.size;have J:=ai (HZ.o _ (q.trans (HX.o.mono q.size)));have N:=ai (aU (aU Hm.o q (aQ Hm.o)) HX.o (dV (aQ Hm.o) q.size));have T:=ai B;clear hq q B;by_cases c:f1=0
 case' pos =>
  subst c;go_wp2_with (go_at_call 259;refine(A8 mb _ _ _ _ _ _ _ _ _ _ _ _ _ _ _ _ _ _ _ _ N.o).mono ?_;rintro e w2 ⟨rfl,G,M⟩;have Y5:=ai (T.o _ ((aH.bQ HX.o).trans G (λ_ _ g=>g)) (by first | exact M | simpa using M));have L:=G.keep J.o (λg=>by have:=U.o;omega);have Q:=G.keep HQ.o (λg=>by have:=aQ Hm.o;have:=HS.o;omega);obtain⟨y0,y1⟩:=xZ Q;obtain⟨z0,z1⟩:=xZ L;have g0:=bG L;clear L Q G M)
 case' neg =>
  have cb:(f1==0)=false:=by grind
  have Y5:=ai (T.o _ (aH.bQ HX.o) (by rw[aB c];exact N.o));obtain⟨y0,y1⟩:=xZ HQ.o;obtain⟨z0,z1⟩:=xZ J.o;have g0:=bG J.o;clear c;go_wp2_with fail
 all_goals
  rw[<- Au.o] at Y5
  first | refine b9 (v:=.agg #[I f1,I f2]) (by simp[results,results257,go_sem,z0,z1]) rfl ?_ | refine b9 (v:=.agg #[I 0,I f2]) (by simp[results,results257,go_sem,z0,z1]) rfl ?_
  refine HP.o _ _ Y5.o ?_;have kk:∀(A:World) (i:Nat) (v:Value),aH (λb=>b=w.heap.size) A (A.setCell (Ad w.heap.size i) v):=λA i v=>aH.set _ A (Ad w.heap.size i) v rfl
  exact(kk _ _ _).trans (kk _ _ _) (λ_ _ g=>g)
open Go.RowKit
def xf:y7 where
 T:=229
 Rm:=309
 MD:=312
 aj3:=310
 Qr:=313
 Fv:=311
 ZM:=308
 ZN:=307
 aiY:=λ_ _=>by kernel_rfl
 ajo:=λ_ _=>by kernel_rfl
 ajm:=λ_ _=>by kernel_rfl
 agJ:=λ_ _=>by kernel_rfl
 ag4:=λ_ _=>by kernel_rfl
 ag1:=λ_ _=>by kernel_rfl
 aqe:=λ_ _=>by kernel_rfl
 aq3:=λ_ _=>by kernel_rfl
 aq0:=λ_ _=>by kernel_rfl
 agI:=λ_ _=>by kernel_rfl
 ag3:=λ_ _=>by kernel_rfl
 ag0:=λ_ _=>by kernel_rfl
 UE:=λ_ _=>by kernel_rfl
 UQ:=λ_ _=>by kernel_rfl
 UO:=λ_ _=>by kernel_rfl
 alQ:=λ_ _=>by kernel_rfl
 amk:=λ_ _=>by kernel_rfl
 amj:=λ_ _=>by kernel_rfl
 aiZ:=λ_ _=>by kernel_rfl
 ajp:=λ_ _=>by kernel_rfl
 ajn:=λ_ _=>by kernel_rfl
def vq:y7 where
 T:=183
 Rm:=254
 MD:=257
 aj3:=255
 Qr:=258
 Fv:=256
 ZM:=253
 ZN:=252
 aiY:=λ_ _=>by kernel_rfl
 ajo:=λ_ _=>by kernel_rfl
 ajm:=λ_ _=>by kernel_rfl
 agJ:=λ_ _=>by kernel_rfl
 ag4:=λ_ _=>by kernel_rfl
 ag1:=λ_ _=>by kernel_rfl
 aqe:=λ_ _=>by kernel_rfl
 aq3:=λ_ _=>by kernel_rfl
 aq0:=λ_ _=>by kernel_rfl
 agI:=λ_ _=>by kernel_rfl
 ag3:=λ_ _=>by kernel_rfl
 ag0:=λ_ _=>by kernel_rfl
 UE:=λ_ _=>by kernel_rfl
 UQ:=λ_ _=>by kernel_rfl
 UO:=λ_ _=>by kernel_rfl
 alQ:=λ_ _=>by kernel_rfl
 amk:=λ_ _=>by kernel_rfl
 amj:=λ_ _=>by kernel_rfl
 aiZ:=λ_ _=>by kernel_rfl
 ajp:=λ_ _=>by kernel_rfl
 ajn:=λ_ _=>by kernel_rfl
open Go.RowKit
theorem Ut (lo mb:Nat):ja vq lo mb (iI lo mb) fO dY where
 kp:=λw w' D E s h hk hd=>h.kp hk hd
 dom:=λw D s h=>h.dom
 ok:=jr
 load:=λw D s fl k a n way h ho hl ha h1 h8 hw=>afe a n way h ho hl ha h1 h8 hw
 store:=λw D s fl k a d h ho hl ha h1 h8=>acm a d h ho hl ha h1 h8
 map:=λw D s fl k p n q h ho hl hp hn=>JJ (dZ (dX s k) p n q) _ _ #[I p,I n,I q] (.inl ⟨rfl,rfl,p,n,q,rfl⟩) h ho hl (λhs a hK hF hj=>ahy yN (aY s hs) a k p n q w hK hF hj hp hn)
 qX:=λw D s fl k p n h ho hl hp hn=>JJ (cU (dX s k) p n) _ _ #[I p,I n] (.inr (.inl ⟨rfl,rfl,p,n,rfl⟩)) h ho hl (λhs a hK hF hj=>abE yN (aY s hs) a k p n w hK hF hj hp hn)
 ko:=λw D s fl k p n q h ho hl hp hn=>JJ (cu (dX s k) p n q) _ _ #[I p,I n,I q] (.inr (.inr ⟨rfl,rfl,p,n,q,rfl⟩)) h ho hl (λhs a hK hF hj=>VI yN (aY s hs) a k p n q w hK hF hj hp hn)
 fork:=λw D s fl k h ho hl=>afg h ho hl
 drop:=λw D s fl k h ho hl=>afi h ho hl
end Go.Proofs.YtlgoihmkgaaemaaGreat
