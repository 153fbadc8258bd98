import Derived.Test.YtlgoihmkgaaemaaGreatGN27
set_option maxHeartbeats 20000000
set_option linter.unusedVariables false
set_option maxRecDepth 100000
set_option linter.unusedSimpArgs false
namespace Go.Proofs.YtlgoihmkgaaemaaGreat
open Go.RowKit
def pQ (v:Value) (b:Nat):Prop:=v.ownBlock=some b
theorem IM (a : Addr) (w : World) : (method 513 183 (.pointer (some a)) "Load").run Tryz.prog w = .ok (254, .pointer (some a)) w := by kernel_rfl
theorem Ls (a : Addr) (w : World) : (nilAhead 513 183 (.pointer (some a)) "Load").run Tryz.prog w = .ok (some false) w := by kernel_rfl
theorem Q9 (a : Addr) (w : World) : (method 513 183 (.pointer (some a)) "Store").run Tryz.prog w = .ok (257, .pointer (some a)) w := by kernel_rfl
theorem Tq (a : Addr) (w : World) : (nilAhead 513 183 (.pointer (some a)) "Store").run Tryz.prog w = .ok (some false) w := by kernel_rfl
theorem Wv (a : Addr) (w : World) : (method 513 183 (.pointer (some a)) "Map").run Tryz.prog w = .ok (255, .pointer (some a)) w := by kernel_rfl
theorem ZG (a : Addr) (w : World) : (nilAhead 513 183 (.pointer (some a)) "Map").run Tryz.prog w = .ok (some false) w := by kernel_rfl
theorem Q8 (a : Addr) (w : World) : (method 513 183 (.pointer (some a)) "Unmap").run Tryz.prog w = .ok (258, .pointer (some a)) w := by kernel_rfl
theorem Tp (a : Addr) (w : World) : (nilAhead 513 183 (.pointer (some a)) "Unmap").run Tryz.prog w = .ok (some false) w := by kernel_rfl
theorem MB (a : Addr) (w : World) : (method 513 183 (.pointer (some a)) "Protect").run Tryz.prog w = .ok (256, .pointer (some a)) w := by kernel_rfl
theorem OD (a : Addr) (w : World) : (nilAhead 513 183 (.pointer (some a)) "Protect").run Tryz.prog w = .ok (some false) w := by kernel_rfl
theorem Tm (a : Addr) (w : World) : (method 513 183 (.pointer (some a)) "Fork").run Tryz.prog w = .ok (253, .pointer (some a)) w := by kernel_rfl
theorem Ww (a : Addr) (w : World) : (nilAhead 513 183 (.pointer (some a)) "Fork").run Tryz.prog w = .ok (some false) w := by kernel_rfl
theorem IP (a : Addr) (w : World) : (method 513 183 (.pointer (some a)) "Drop").run Tryz.prog w = .ok (252, .pointer (some a)) w := by kernel_rfl
theorem Lt (a : Addr) (w : World) : (nilAhead 513 183 (.pointer (some a)) "Drop").run Tryz.prog w = .ok (some false) w := by kernel_rfl
def od {σ:Type} (Hd:World->(Nat->Prop)->σ->Prop) (w:World) (D:Nat->Prop) (v:Value) (s:σ) (e:Ending) (w':World):Prop:=∃D',e=.returned v/\Hd w' D' s/\aD D w w'/\∀b,D' b->D b∨w.heap.size<=b
structure iB {σ:Type} (lo mb:Nat) (Hd:World->(Nat->Prop)->σ->Prop) (Ok:σ->List Bool->Prop) (o:gH σ):Prop where
 kp:∀(w w':World) (D E:Nat->Prop) (s:σ),Hd w D s->aD E w w'->(∀b,D b->¬E b)->Hd w' D s
 dom:∀(w:World) (D:Nat->Prop) (s:σ),Hd w D s->∀b,D b->lo<=b/\b<w.heap.size
 ok:qE o Ok
 load:∀(w:World) D s fl (k:Nat) (a n way:Int),Hd w D s->Ok s fl->fl.getD k false=true->cO a->1<=n->n<=8->(way=0∨way=2)->Calls Tryz.prog 254 #[.pointer (some (Ad mb 0)),I (k:Int),I a,I n,I way] w (od Hd w D (.tuple #[.string (o.load s k a n way).1.1,.agg (gU (o.load s k a n way).1.2)]) (o.load s k a n way).2)
 store:∀(w:World) D s fl (k:Nat) (a:Int) (d:ByteArray),Hd w D s->Ok s fl->fl.getD k false=true->cO a->1<=d.size->d.size<=8->Calls Tryz.prog 257 #[.pointer (some (Ad mb 0)),I (k:Int),I a,.string d] w (od Hd w D (.agg (gU (o.store s k a d).1)) (o.store s k a d).2)
 map:∀(w:World) D s fl (k:Nat) (p n q:Int),Hd w D s->Ok s fl->fl.getD k false=true->cO p->cO n->Calls Tryz.prog 255 #[.pointer (some (Ad mb 0)),I (k:Int),I p,I n,I q] w (od Hd w D (I (o.map s k p n q).1) (o.map s k p n q).2)
 pd:∀(w:World) D s fl (k:Nat) (p n:Int),Hd w D s->Ok s fl->fl.getD k false=true->cO p->cO n->Calls Tryz.prog 258 #[.pointer (some (Ad mb 0)),I (k:Int),I p,I n] w (od Hd w D (I (o.pd s k p n).1) (o.pd s k p n).2)
 jt:∀(w:World) D s fl (k:Nat) (p n q:Int),Hd w D s->Ok s fl->fl.getD k false=true->cO p->cO n->Calls Tryz.prog 256 #[.pointer (some (Ad mb 0)),I (k:Int),I p,I n,I q] w (od Hd w D (I (o.jt s k p n q).1) (o.jt s k p n q).2)
 fork:∀(w:World) D s fl (k:Nat),Hd w D s->Ok s fl->fl.getD k false=true->Calls Tryz.prog 253 #[.pointer (some (Ad mb 0)),I (k:Int)] w (od Hd w D (I (o.fork s k).1) (o.fork s k).2)
 drop:∀(w:World) D s fl (k:Nat),Hd w D s->Ok s fl->fl.getD k false=true->Calls Tryz.prog 252 #[.pointer (some (Ad mb 0)),I (k:Int)] w (od Hd w D (.tuple #[]) (o.drop s k))
def bU (p:bT):List Value:=[I (p.r 0),I (p.r 1),I (p.r 2),I (p.r 3),I (p.r 4),I (p.r 5),I (p.r 6),I (p.r 7),I p.pc,I p.st,I p.cd,I p.fk,I p.fa]
def jE (x:sI):List Value:=[I x.proc,I x.value]
theorem rW (p:bT):(bU p).length=13:=rfl
theorem yc (p:sI):(jE p).length=2:=rfl
structure fW {σ:Type} (Hd:World->(Nat->Prop)->σ->Prop) (lo mb gb:Nat) (w:World) (D:Nat->Prop) (vr vo:Value) (st:dE σ):Prop where
 head:w.heap[gb]?=some (.cells #[.iface 183 (.pointer (some (Ad mb 0))),vr,vo] 191 (0,0))
 mem:Hd w D st.mem
 procs:w.ownsRow lo 77 13 vr st.ps.length (st.ps.flatMap bU)
 outs:w.ownsRow lo 91 2 vo st.out.length (st.out.flatMap jE)
 base:lo<=gb
 n1:¬D gb
 n2:¬pQ vr gb
 n3:¬pQ vo gb
 n4:∀b,pQ vr b->¬D b
 n5:∀b,pQ vo b->¬D b
 n6:∀b,pQ vr b->¬pQ vo b
def kH (gb:Nat) (D:Nat->Prop) (vr vo:Value) (b:Nat):Prop:=b=gb∨D b∨pQ vr b∨pQ vo b
section
variable {σ:Type} {Hd:World->(Nat->Prop)->σ->Prop} {Ok:σ->List Bool->Prop} {o:gH σ} {lo mb gb:Nat} {w w':World} {D:Nat->Prop} {vr vo:Value} {st:dE σ}
theorem fW.kp (C:iB lo mb Hd Ok o) {E:Nat->Prop} (h:fW Hd lo mb gb w D vr vo st) (hk:aD E w w') (hd:∀b,kH gb D vr vo b->¬E b):fW Hd lo mb gb w' D vr vo st :=
 ⟨hk.keep h.head (hd _ (.inl rfl)),C.kp _ _ _ _ _ h.mem hk (fun b hb=>hd b (.inr (.inl hb))),hk.row h.procs (fun g hg=>hd g (.inr (.inr (.inl hg)))),hk.row h.outs (fun g hg=>hd g (.inr (.inr (.inr hg)))),h.base,h.n1,h.n2,h.n3,h.n4,h.n5,h.n6⟩
theorem fW.below (C:iB lo mb Hd Ok o) (h:fW Hd lo mb gb w D vr vo st) (hb:Below w.heap.size w w'):fW Hd lo mb gb w' D vr vo st:=h.kp C (aD.b9 (D:=fun _=>False) hb) (fun _ _ g=>g)
theorem fW.lt (C:iB lo mb Hd Ok o) (h:fW Hd lo mb gb w D vr vo st) (b:Nat) (hb:kH gb D vr vo b):lo<=b/\b<w.heap.size:=by
 rcases hb with g | g | g | g
 · rw[g];exact⟨h.base,aJ h.head⟩
 · exact C.dom _ _ _ h.mem b g
 · exact h.procs.lt b g
 · exact h.outs.lt b g
theorem fW.turn (C:iB lo mb Hd Ok o) {D':Nat->Prop} {m:σ} (h:fW Hd lo mb gb w D vr vo st) (hm:Hd w' D' m) (hk:aD D w w') (hd:∀b,D' b->D b∨w.heap.size<=b):fW Hd lo mb gb w' D' vr vo { st with mem:=m }:=by
 have h1:∀b,b<w.heap.size->¬D b->¬D' b:=fun b hb hn g=>by
  rcases hd b g with x | x
  · exact hn x
  · omega
 exact⟨hk.keep h.head h.n1,hm,hk.row h.procs h.n4,hk.row h.outs h.n5,h.base,h1 _ (aJ h.head) h.n1,h.n2,h.n3,fun b hb=>h1 b (h.procs.lt b hb).2 (h.n4 b hb),fun b hb=>h1 b (h.outs.lt b hb).2 (h.n5 b hb),h.n6⟩
def cJ (Hd:World->(Nat->Prop)->σ->Prop) (lo mb gb:Nat) (w:World) (D:Nat->Prop) (vr vo:Value) (st':dE σ) (w':World):Prop:=∃D' Ob Oc,fW Hd lo mb gb w' D' Ob Oc st'/\aD (kH gb D vr vo) w w'/\∀b,kH gb D' Ob Oc b->kH gb D vr vo b∨w.heap.size<=b
theorem cJ.refl (h:fW Hd lo mb gb w D vr vo st):cJ Hd lo mb gb w D vr vo st w:=⟨D,vr,vo,h,aD.refl _ _,fun b hb=>.inl hb⟩
theorem cJ.Fb (C:iB lo mb Hd Ok o) {D':Nat->Prop} {m:σ} (h:fW Hd lo mb gb w D vr vo st) (hm:Hd w' D' m) (hk:aD D w w') (hd:∀b,D' b->D b∨w.heap.size<=b):cJ Hd lo mb gb w D vr vo { st with mem:=m } w' :=
 ⟨D',vr,vo,h.turn C hm hk hd,hk.mono (fun b _ g=>.inr (.inl g)),fun b hb=>by
  rcases hb with g | g | g | g
  · exact .inl (.inl g)
  · rcases hd b g with x | x
    · exact .inl (.inr (.inl x))
    · exact .inr x
  · exact .inl (.inr (.inr (.inl g)))
  · exact .inl (.inr (.inr (.inr g)))⟩
theorem cJ.trans {w2:World} {D1:Nat->Prop} {r1 o1:Value} {st2:dE σ} (hk:aD (kH gb D vr vo) w w') (hd:∀b,kH gb D1 r1 o1 b->kH gb D vr vo b∨w.heap.size<=b) (h2:cJ Hd lo mb gb w' D1 r1 o1 st2 w2):cJ Hd lo mb gb w D vr vo st2 w2:=by
 obtain⟨D',Ob,Oc,hg,hk2,hd2⟩:=h2;have hs:=hk.size;refine⟨D',Ob,Oc,hg,hk.trans hk2 (fun b hb g=>?_),fun b hb=>?_⟩
 · rcases hd b g with x | x
   · exact x
   · omega
 · rcases hd2 b hb with x | x
   · exact hd b x
   · exact .inr (by omega)
theorem cJ.after {w2:World} {st2:dE σ} (hb:Below w.heap.size w w') (h2:cJ Hd lo mb gb w' D vr vo st2 w2):cJ Hd lo mb gb w D vr vo st2 w2:=cJ.trans (aD.b9 hb) (fun b hb=>.inl hb) h2
theorem cJ.more (C:iB lo mb Hd Ok o) {w2:World} {st2:dE σ} (h:cJ Hd lo mb gb w D vr vo st2 w') (hb:Below w'.heap.size w' w2):cJ Hd lo mb gb w D vr vo st2 w2:=by
 obtain⟨D',Ob,Oc,hg,hk2,hd2⟩:=h;exact⟨D',Ob,Oc,hg.below C hb,hk2.trans (aD.b9 hb) (fun _ _ g=>g),hd2⟩
theorem Lr {v v':Value} {O:Obj} (hat:v'.ownBlock=v.ownBlock∨v'.ownBlock=some (w.alloc O).heap.size) (b:Nat) (hb:pQ v' b):pQ v b∨b=w.heap.size+1:=by
 unfold pQ at hb ⊢;rcases hat with e | e
 · exact .inl (by rw[<- e];exact hb)
 · right;rw[e,fF] at hb;injection hb with hb;exact hb.symm
theorem fW.alY (C:iB lo mb Hd Ok o) {w4:World} {O:Obj} {Ob:Value} {p:bT} (h:fW Hd lo mb gb w D vr vo st) (hgr:(w.alloc O).grownBy w4 vr.ownBlock) (hown:w4.ownsRow lo 77 13 Ob (st.ps.length+1) (st.ps.flatMap bU++bU p)) (hat:Ob.ownBlock=vr.ownBlock∨Ob.ownBlock=some (w.alloc O).heap.size) :
  cJ Hd lo mb gb w D vr vo { st with ps:=st.ps++[p] } (w4.setCell (Ad gb 1) Ob):=by
 have s2:=hgr.size;rw[fF] at s2;have hbk:=Lr hat
 have kA:aD (pQ vr) w w4:=(aD.alloc (pQ vr) w O).trans (aD.grown hgr (fun _ e=>e)) (fun _ _ g=>g);have kS:aD (fun b=>b=gb) w4 (w4.setCell (Ad gb 1) Ob):=aD.set _ _ _ _ rfl;have lgb:=aJ h.head;have hlt:=h.lt C;have e1:¬pQ Ob gb:=fun g=>by
  rcases hbk _ g with x | x
  · exact h.n2 x
  · omega
 refine⟨D,Ob,vo,⟨fh (kA.keep h.head h.n2) 1 Ob,?_,?_,?_,h.base,h.n1,e1,h.n3,?_,h.n5,?_⟩,?_,?_⟩
 · exact C.kp _ _ _ _ _ (C.kp _ _ _ _ _ h.mem kA (fun b hb g=>h.n4 b g hb)) kS (fun b hb g=>h.n1 (g ▸ hb))
 · show(w4.setCell _ _).ownsRow lo _ 13 Ob (st.ps++[p]).length ((st.ps++[p]).flatMap bU);rw[fK,xN];exact kS.row (by simpa using hown) (fun g hg e=>e1 (e ▸ hg))
 · exact kS.row (kA.row h.outs (fun g hg e=>h.n6 g e hg)) (fun g hg e=>h.n3 (e ▸ hg))
 · intro b hb g;rcases hbk _ hb with x | x
   · exact h.n4 b x g
   · have:=hlt b (.inr (.inl g));omega
 · intro b hb g;rcases hbk _ hb with x | x
   · exact h.n6 b x g
   · have:=hlt b (.inr (.inr (.inr g)));omega
 · exact(kA.mono (fun b _ g=>.inr (.inr (.inl g)))).trans (kS.mono (fun b _ g=>.inl g)) (fun _ _ g=>g)
 · intro b hb;rcases hb with g | g | g | g
   · exact .inl (.inl g)
   · exact .inl (.inr (.inl g))
   · rcases hbk _ g with x | x
     · exact .inl (.inr (.inr (.inl x)))
     · exact .inr (by omega)
   · exact .inl (.inr (.inr (.inr g)))
theorem fW.alX (C:iB lo mb Hd Ok o) {w4:World} {O:Obj} {Oc:Value} {x:sI} (h:fW Hd lo mb gb w D vr vo st) (hgr:(w.alloc O).grownBy w4 vo.ownBlock) (hown:w4.ownsRow lo 91 2 Oc (st.out.length+1) (st.out.flatMap jE++jE x)) (hat:Oc.ownBlock=vo.ownBlock∨Oc.ownBlock=some (w.alloc O).heap.size) :
  cJ Hd lo mb gb w D vr vo { st with out:=st.out++[x] } (w4.setCell (Ad gb 2) Oc):=by
 have s2:=hgr.size;rw[fF] at s2;have hbk:=Lr hat
 have kA:aD (pQ vo) w w4:=(aD.alloc (pQ vo) w O).trans (aD.grown hgr (fun _ e=>e)) (fun _ _ g=>g);have kS:aD (fun b=>b=gb) w4 (w4.setCell (Ad gb 2) Oc):=aD.set _ _ _ _ rfl;have lgb:=aJ h.head;have hlt:=h.lt C;have e1:¬pQ Oc gb:=fun g=>by
  rcases hbk _ g with x | x
  · exact h.n3 x
  · omega
 refine⟨D,vr,Oc,⟨fh (kA.keep h.head h.n3) 2 Oc,?_,?_,?_,h.base,h.n1,h.n2,e1,h.n4,?_,?_⟩,?_,?_⟩
 · exact C.kp _ _ _ _ _ (C.kp _ _ _ _ _ h.mem kA (fun b hb g=>h.n5 b g hb)) kS (fun b hb g=>h.n1 (g ▸ hb))
 · exact kS.row (kA.row h.procs (fun g hg e=>h.n6 g hg e)) (fun g hg e=>h.n2 (e ▸ hg))
 · show(w4.setCell _ _).ownsRow lo _ 2 Oc (st.out++[x]).length ((st.out++[x]).flatMap jE);rw[fK,xN];exact kS.row (by simpa using hown) (fun g hg e=>e1 (e ▸ hg))
 · intro b hb g;rcases hbk _ hb with x | x
   · exact h.n5 b x g
   · have:=hlt b (.inr (.inl g));omega
 · intro b hb g;rcases hbk _ g with x | x
   · exact h.n6 b hb x
   · have:=hlt b (.inr (.inr (.inl hb)));omega
 · exact(kA.mono (fun b _ g=>.inr (.inr (.inr g)))).trans (kS.mono (fun b _ g=>.inl g)) (fun _ _ g=>g)
 · intro b hb;rcases hb with g | g | g | g
   · exact .inl (.inl g)
   · exact .inl (.inr (.inl g))
   · exact .inl (.inr (.inr (.inl g)))
   · rcases hbk _ g with x | x
     · exact .inl (.inr (.inr (.inr x)))
     · exact .inr (by omega)
def gN (ys:Nat->Prop) (Hd:World->(Nat->Prop)->σ->Prop) (lo mb gb:Nat) (w:World) (D:Nat->Prop) (vr vo:Value) (st':dE σ) (w':World):Prop:=∃D' Ob Oc,fW Hd lo mb gb w' D' Ob Oc st'/\aD (kH gb D vr vo) w w'/\(∀b,kH gb D' Ob Oc b->kH gb D vr vo b∨w.heap.size<=b)/\∀b,ys b->¬kH gb D' Ob Oc b
theorem gN.left {ys:Nat->Prop} {st':dE σ} (h:gN ys Hd lo mb gb w D vr vo st' w'):cJ Hd lo mb gb w D vr vo st' w':=by
 obtain⟨D',r,v,h1,h2,h3,_⟩:=h;exact⟨D',r,v,h1,h2,h3⟩
theorem gN.set (C:iB lo mb Hd Ok o) {ys:Nat->Prop} {st':dE σ} (h:gN ys Hd lo mb gb w D vr vo st' w') (a:Addr) (x:Value) (hy:ys a.block) (hw:w.heap.size<=a.block):gN ys Hd lo mb gb w D vr vo st' (w'.setCell a x):=by
 obtain⟨D',r,v,h1,h2,h3,h4⟩:=h;have kS:aD (fun b=>b=a.block) w' (w'.setCell a x):=aD.set _ _ _ _ rfl;exact⟨D',r,v,h1.kp C kS (fun b hb e=>h4 _ hy (e ▸ hb)),h2.trans kS (fun b hb e=>by omega),h3,h4⟩
theorem gN.more (C:iB lo mb Hd Ok o) {ys:Nat->Prop} {w2:World} {st':dE σ} (h:gN ys Hd lo mb gb w D vr vo st' w') (hb:Below w'.heap.size w' w2):gN ys Hd lo mb gb w D vr vo st' w2:=by
 obtain⟨D',r,v,h1,h2,h3,h4⟩:=h;exact⟨D',r,v,h1.below C hb,h2.trans (aD.b9 hb) (fun _ _ g=>g),h3,h4⟩
theorem gN.alloc (C:iB lo mb Hd Ok o) {ys:Nat->Prop} {st':dE σ} (h:gN ys Hd lo mb gb w D vr vo st' w') (ob:Obj):gN (fun b=>ys b∨b=w'.heap.size) Hd lo mb gb w D vr vo st' (w'.alloc ob):=by
 obtain⟨D',r,v,h1,h2,h3,h4⟩:=h;have hb:Below w'.heap.size w' (w'.alloc ob):=(aK _ _).alloc (aI _) ob;exact⟨D',r,v,h1.below C hb,h2.trans (aD.b9 hb) (fun _ _ g=>g),h3,fun b hy g=>by
  rcases hy with e | e
  · exact h4 b e g
  · have:=h1.lt C b g;omega⟩
theorem gN.sub {ys zs:Nat->Prop} {st':dE σ} (h:gN ys Hd lo mb gb w D vr vo st' w') (hs:∀b,zs b->ys b):gN zs Hd lo mb gb w D vr vo st' w':=by
 obtain⟨D',r,v,h1,h2,h3,h4⟩:=h;exact⟨D',r,v,h1,h2,h3,fun b hb=>h4 b (hs b hb)⟩
theorem gN.behind (C:iB lo mb Hd Ok o) {w2:World} {st':dE σ} (h:fW Hd lo mb gb w D vr vo st) (hb:Below w.heap.size w w') (h2:cJ Hd lo mb gb w' D vr vo st' w2):gN (fun b=>w.heap.size<=b/\b<w'.heap.size) Hd lo mb gb w D vr vo st' w2:=by
 obtain⟨D',r,v,g1,g2,g3⟩:=h2;have hs:=hb.size;refine⟨D',r,v,g1,(aD.b9 hb).trans g2 (fun _ _ g=>g),fun b hb'=>?_,fun b hy g=>?_⟩
 · rcases g3 b hb' with x | x
   · exact .inl x
   · exact .inr (by omega)
 · rcases g3 b g with x | x
   · have:=h.lt C b x;omega
   · omega
theorem fW.aside (C:iB lo mb Hd Ok o) {w2:World} {b:Nat} {ob:Obj} (h:fW Hd lo mb gb w D vr vo st) (hk:aD (kH gb D vr vo) w' w2) (hw:w.heap.size<=b) (hb:w'.heap[b]?=some ob):w2.heap[b]?=some ob :=
 hk.keep hb (fun g=>by have:=h.lt C b g;omega)
theorem gN.step {ys:Nat->Prop} {w2:World} {D1:Nat->Prop} {r1 o1:Value} {st2:dE σ} (hys:∀b,ys b->b<w'.heap.size) (hk:aD (kH gb D vr vo) w w') (hd:∀b,kH gb D1 r1 o1 b->kH gb D vr vo b∨w.heap.size<=b) (hn:∀b,ys b->¬kH gb D1 r1 o1 b) (h2:cJ Hd lo mb gb w' D1 r1 o1 st2 w2):gN ys Hd lo mb gb w D vr vo st2 w2:=by
 obtain⟨D',Ob,Oc,hg,hk2,hd2⟩:=h2;have hs:=hk.size;refine⟨D',Ob,Oc,hg,hk.trans hk2 (fun b hb g=>?_),fun b hb=>?_,fun b hy g=>?_⟩
 · rcases hd b g with x | x
   · exact x
   · omega
 · rcases hd2 b hb with x | x
   · exact hd b x
   · exact .inr (by omega)
 · rcases hd2 b g with x | x
   · exact hn b hy x
   · have:=hys b hy;omega
theorem cJ.keep {w2:World} {st2:dE σ} {b:Nat} {ob:Obj} (h2:cJ Hd lo mb gb w D vr vo st2 w2) (hb:w.heap[b]?=some ob) (hn:¬kH gb D vr vo b):w2.heap[b]?=some ob:=by
 obtain⟨_,_,_,_,hk2,_⟩:=h2;exact hk2.keep hb hn
theorem fW.proc (h:fW Hd lo mb gb w D vr vo st) (k:Nat) (hk:k<st.ps.length):∃pb cap,vr=.slice (some (Ad pb 0)) st.ps.length cap/\pb<w.heap.size/\(∀j,j<13->w.cell? (Ad pb (k*13+j))=(bU (aN st.ps k))[j]?)/\∀j,w.frozen? (Ad pb j)=false:=by
 obtain⟨ao,cap,e,_,hg⟩:=bj h.procs;obtain⟨pb,rfl,_,hlt⟩:=hg (by omega);have hr:=h.procs;rw[e] at hr;exact⟨pb,cap,e,hlt,fun j hj=>kj bU rW Cy hr k j hk hj,fun j=>iL hr j⟩
end
open Go.RowKit
structure gB (lo mb:Nat) (w:World) (D:Nat->Prop) (k:aT):Prop where
 has:∃hs a n sz,cC k.aM hs/\w.heap[mb]?=some (.cells (bg a (aV k hs)) 185 (0,0))/\(∀U,aD (fun b=>¬(n<=b/\b<sz)) w U->jd U a (aV k hs))/\lo<=n/\sz<=w.heap.size/\¬(n<=mb/\mb<sz)/\∀b,D b↔(b=mb∨(n<=b/\b<sz))
 base:lo<=mb
variable {lo mb:Nat} {w w':World} {D:Nat->Prop} {k:aT}
theorem gB.kp {E:Nat->Prop} (h:gB lo mb w D k) (hk:aD E w w') (hd:∀b,D b->¬E b):gB lo mb w' D k:=by
 obtain⟨⟨hs,a,n,sz,h1,h2,h3,h4,h5,h6,h7⟩,hb⟩:=h;refine⟨⟨hs,a,n,sz,h1,hk.keep h2 (hd mb ((h7 mb).2 (.inl rfl))),fun U hU=>h3 U ?_,h4,gY h5 hk.size,h6,h7⟩,hb⟩;exact(hk.mono (fun b _ g x=>hd b ((h7 b).2 (.inr x)) g)).trans hU (fun _ _ g=>g)
theorem gB.dom (h:gB lo mb w D k) (b:Nat) (hb:D b):lo<=b/\b<w.heap.size:=by
 obtain⟨⟨hs,a,n,sz,h1,h2,h3,h4,h5,h6,h7⟩,hm⟩:=h;have:=aJ h2;rcases(h7 b).1 hb with e | e
 · subst e;exact⟨hm,this⟩
 · omega
theorem gB.same (h:gB lo mb w D k) (hk:aD (fun b=>b=mb) w w') (he:w'.heap[mb]?=w.heap[mb]?):gB lo mb w' D k:=by
 obtain⟨⟨hs,a,n,sz,h1,h2,h3,h4,h5,h6,h7⟩,hb⟩:=h;refine⟨⟨hs,a,n,sz,h1,he.trans h2,fun U hU=>h3 U ?_,h4,gY h5 hk.size,h6,h7⟩,hb⟩;exact(hk.mono (fun b _ g x=>h6 (g ▸ x))).trans hU (fun _ _ g=>g)
def pP (lo mb:Nat) (w:World) (D:Nat->Prop) (k':aT) (w2:World):Prop:=∃D',gB lo mb w2 D' k'/\aD D w w2/\∀b,D' b->D b∨w.heap.size<=b
theorem gB.inD (h:gB lo mb w D k):D mb:=by
 obtain⟨⟨hs,a,n,sz,h1,h2,h3,h4,h5,h6,h7⟩,hb⟩:=h;exact(h7 mb).2 (.inl rfl)
theorem gB.turn {w1 w2:World} {k':aT} {hs':List bJ} {a':jc} (h:gB lo mb w D k) (s:cC k'.aM hs') (hK:∀U,aD (fun b=>b<w.heap.size) w1 U->jd U a' (aV k' hs')) (b1:Below w.heap.size w w1) (hk:aD (fun b=>b=mb) w1 w2) (hc:w2.heap[mb]?=some (.cells (bg a' (aV k' hs')) 185 (0,0))):pP lo mb w D k' w2:=by
 have hd:=h.dom mb h.inD;have hz:=hk.size;have hz1:=b1.size;refine⟨fun b=>b=mb∨(w.heap.size<=b/\b<w1.heap.size),⟨⟨hs',a',w.heap.size,w1.heap.size,s,hc,fun U hU=>hK U ?_,by omega,hz,by omega,fun b=>Iff.rfl⟩,h.base⟩,?_,fun b hb=>?_⟩
 · exact(hk.mono (fun b _ g=>by omega)).trans hU (fun b hb g=>by omega)
 · exact(aD.b9 b1).trans (hk.mono (fun b _ g=>g ▸ h.inD)) (fun _ _ g=>g)
 · rcases hb with e | e
   · exact .inl (e ▸ h.inD)
   · exact .inr e.1
theorem Ah {K k':aT} {hs:List bJ} {ok:Prop} [Decidable ok] {old:Array Value} (h:gB lo mb w D k) (hc:w.heap[mb]?=some (.cells old 185 (0,0))) (s:cC k.aM hs) (ha:Mz k K k' hs ok) {vs:List Value} {e:Ending} {w1:World} (ho:cA w K vs e w1) :
  ∃s0 n0 q0 s1 n1 q1 s2 n2 q2 s3 n3 q3 hd,e=.returned (.tuple (Value.agg #[.slice s0 n0 q0,.slice s1 n1 q1,.slice s2 n2 q2,.slice s3 n3 q3,I hd]::vs).toArray)/\Below w.heap.size w w1/\∀w2,aD (fun b=>b=mb) w1 w2->w2.heap[mb]?=some (.cells (if ok then #[.slice s0 n0 q0,.slice s1 n1 q1,.slice s2 n2 q2,.slice s3 n3 q3,I hd] else old) 185 (0,0))->pP lo mb w D k' w2:=by
 obtain⟨hs1,a1,s1,he,hU,hb⟩:=Zm ho;refine⟨a1.aS,_,a1.cS,a1.aF,_,a1.cF,a1.aL,_,a1.cL,a1.aP,_,a1.cP,_,he,hb,fun w2 hk hm=>?_⟩;by_cases c:ok
 · rw[aC c] at hm;obtain⟨e1,e2⟩:=ha.1 c;subst e1;exact h.turn (a':=a1) (hs':=hs1) (k':=k') (by unfold cC at *;rw[e2];exact s1.trans s) hU hb hk hm
 · rw[aA c] at hm;rw[ha.2 c];have h1:gB lo mb w1 D k:=h.kp (aD.b9 (D:=fun _=>False) hb) (fun _ _ g=>g);have nJ:=aO hc hb (aJ hc);exact⟨D,h1.same hk (hm.trans nJ.symm),(aD.b9 hb).trans (hk.mono (fun b _ g=>g ▸ h.inD)) (fun _ _ g=>g),fun b hb=>.inl hb⟩
theorem Q7 (W:World) (b:Nat) (v0 v1 v2 v3 v4:Value):aD (fun x=>x=b) W (((((W.setCell (Ad b 0) v0).setCell (Ad b 1) v1).setCell (Ad b 2) v2).setCell (Ad b 3) v3).setCell (Ad b 4) v4):=by
 have k:∀(A:World) (i:Nat) (v:Value),aD (fun x=>x=b) A (A.setCell (Ad b i) v):=fun A i v=>aD.set _ A (Ad b i) v rfl
 exact((((k _ _ _).trans (k _ _ _) (fun _ _ g=>g)).trans (k _ _ _) (fun _ _ g=>g)).trans (k _ _ _) (fun _ _ g=>g)).trans (k _ _ _) (fun _ _ g=>g)
theorem tu (mb:Nat) (s0 s1 s2 s3:Option Addr) (n0 q0 n1 q1 n2 q2 n3 q3:Nat) (hd er:Int) (x0 x1 x2 x3 x4:Value) (w:World) (hm:w.heap[mb]?=some (.cells #[x0,x1,x2,x3,x4] 185 (0,0))) :
  Calls Tryz.prog 259 #[.pointer (some (Ad mb 0)),.agg #[.slice s0 n0 q0,.slice s1 n1 q1,.slice s2 n2 q2,.slice s3 n3 q3,I hd],I er] w fun e w'=>e=.returned (I er)/\aD (fun b=>b=mb) w w'/\w'.heap[mb]?=some (.cells (if er=0 then #[.slice s0 n0 q0,.slice s1 n1 q1,.slice s2 n2 q2,.slice s3 n3 q3,I hd] else #[x0,x1,x2,x3,x4]) 185 (0,0)):=by
 obtain⟨O,hO⟩:=ex (Obj.cells #[.slice s0 n0 q0,.slice s1 n1 q1,.slice s2 n2 q2,.slice s3 n3 q3,I hd] 30 (0,0));have nJ:(w.alloc O).heap[mb]?=some (.cells #[x0,x1,x2,x3,x4] 185 (0,0)):=br hm O;have hlt:=aJ hm;have hne:¬mb=w.heap.size:=by omega
 have f0:=aR nJ 0;have f1:=aR nJ 1;have f2:=aR nJ 2;have f3:=aR nJ 3;have f4:=aR nJ 4;obtain⟨c0,c1,c2,c3,c4⟩:=iH nJ;rw[hO] at f0 f1 f2 f3 f4 c0 c1 c2 c3 c4;have Sg:=ai nJ;have HO:=ai hO;have Z9:=ai (aD.alloc (fun b=>b=mb) w O);clear hm nJ hO hlt;by_cases c:er=0
 · subst c;go_enter Tryz.func259,Tryz.ntmps259;go_wp2;go_ret;rw[<- HO.o];exact⟨rfl,Z9.o.trans (Q7 _ mb _ _ _ _ _) (fun _ _ g=>g),fh (fh (fh (fh (fh Sg.o 0 _) 1 _) 2 _) 3 _) 4 _⟩
 · have cb:(er==0)=false:=by grind
   rw[aA c];clear c;go_enter Tryz.func259,Tryz.ntmps259;go_wp2;go_ret;rw[<- HO.o];exact⟨rfl,Z9.o,Sg.o⟩
open Go.RowKit
variable {lo mb:Nat} {w w':World} {D:Nat->Prop} {k:aT} {fl:List Bool} {j:Nat}
theorem pP.past {w0 w2 w3:World} {k':aT} (hb:Below w.heap.size w w0) (hD:∀b,D b->b<w.heap.size) (hz:w.heap.size<w0.heap.size) (h:pP lo mb w0 D k' w2) (hk:aD (fun b=>b=w.heap.size) w2 w3):pP lo mb w D k' w3:=by
 obtain⟨D',h1,h2,h3⟩:=h;refine⟨D',h1.kp hk (fun b hb1 e=>?_),(aD.b9 hb).trans ((h2.mono (D1:=fun b=>D b∨b=w.heap.size) (fun b _ g=>.inl g)).trans (hk.mono (fun b _ g=>.inr g)) (fun _ _ g=>g)) (fun b hb g=>g.elim id (fun e=>by omega)),fun b hb1=>(h3 b hb1).imp id (fun g=>gY hb.size g)⟩;rcases h3 b hb1 with g | g
 · have:=hD b g;omega
 · omega
theorem Ee (ho:dn k fl) (hl:fl.getD j false=true):cO (j:Int):=by
 have:=(ho.at_ hl).1;have:=ho.right.c.2.2.1.2;exact⟨by omega,by omega⟩
theorem abU (p n q:Int) (h:gB lo mb w D k) (ho:dn k fl) (hl:fl.getD j false=true) (hp:cO p) (hn:cO n) :
  Calls Tryz.prog 255 #[.pointer (some (Ad mb 0)),I (j:Int),I p,I n,I q] w (od (gB lo mb) w D (I (eH k j (dK (df k j) p n q)).1) (eH k j (dK (df k j) p n q)).2):=by
 obtain⟨⟨hs,a,_,_,s,hc,hK,_,_,_,_⟩,hb⟩:=id h;obtain⟨K,eK,hA⟩:=Gg ho hl s (dK (df k j) p n q);have eK:iy (aV k hs) (j:Int) (dK (ak (aV k hs).aj (j:Int).toNat).aU p n q)=(K,(eH k j (dK (df k j) p n q)).1):=eK;obtain⟨R,hR⟩:=ex (eH k j (dK (df k j) p n q));rw[<- hR] at eK hA ⊢;obtain⟨er,k'⟩:=R;simp only at eK hA ⊢;have hC:=abw vY (aV k hs) a j p n q w (hK w (aD.refl _ _)) (oc (ho.right.wT s)) (Ee ho hl) hp hn;rw[eK] at hC;have HC:Hid (Calls Tryz.prog 263 #[.agg (bg a (aV k hs)),I (j:Int),I p,I n,I q] w fun e w1=>∃s0 n0 q0 s1 n1 q1 s2 n2 q2 s3 n3 q3 hd,e=.returned (.tuple #[.agg #[.slice s0 n0 q0,.slice s1 n1 q1,.slice s2 n2 q2,.slice s3 n3 q3,I hd],I er])/\Below w.heap.size w w1/\∀w2,aD (fun b=>b=mb) w1 w2->w2.heap[mb]?=some (.cells (if er=0 then #[.slice s0 n0 q0,.slice s1 n1 q1,.slice s2 n2 q2,.slice s3 n3 q3,I hd] else bg a (aV k hs)) 185 (0,0))->pP lo mb w D k' w2):=hC.mono fun e w1 ho=>by
  obtain⟨s0,n0,q0,s1,n1,q1,s2,n2,q2,s3,n3,q3,hd,rfl,hb1,hfin⟩:=Ah h hc s hA ho;exact⟨_,_,_,_,_,_,_,_,_,_,_,_,_,rfl,hb1,fun w2 x y=>hfin w2 x y⟩
 obtain⟨P,hP⟩:=ex (od (gB lo mb) w D (I er) k');have HP:Hid (∀w2,pP lo mb w D k' w2->P (.returned (I er)) w2):=fun w2 ⟨D',a1,a2,a3⟩=>by rw[hP];exact⟨D',rfl,a1,a2,a3⟩
 rw[<- hP];have vB:=ai hc;clear hC eK hA hR hP h hK ho hl hc;obtain⟨K0,T6⟩:=ex (aV k hs);rw[<- T6] at HC vB;unfold bg at HC vB;obtain⟨m0,hm0⟩:=ex K0.aM.length;obtain⟨m1,nJ⟩:=ex K0.frames.length;obtain⟨m2,hm2⟩:=ex K0.slots.length;obtain⟨m3,PU⟩:=ex K0.aj.length;obtain⟨m4,T4⟩:=ex K0.hand;rw[<- hm0,<- nJ,<- hm2,<- PU,<- T4] at HC vB;clear hm0 nJ hm2 PU T4 T6 s;obtain⟨c0,c1,c2,c3,c4⟩:=iH vB.o;go_enter Tryz.func255,Tryz.ntmps255;go_wp2_with (first
  | (go_at_call 263;refine HC.o.mono ?_;rintro e w1 ⟨s0,n0,q0,s1,n1,q1,s2,n2,q2,s3,n3,q3,hd,rfl,hb1,hfin⟩;have cN:=ai hb1;have Uz:=ai hfin;clear hb1 hfin)
  | (go_at_call 259;refine(tu mb _ _ _ _ _ _ _ _ _ _ _ _ _ _ _ _ _ _ _ _ (aO vB.o cN.o (aJ vB.o))).mono ?_;rintro e w2 ⟨rfl,hk2,hm2⟩;have LF:=ai (Uz.o _ hk2 hm2);clear hk2 hm2))
 exact HP.o _ LF.o
theorem Wq (p n:Int) (h:gB lo mb w D k) (ho:dn k fl) (hl:fl.getD j false=true) (hp:cO p) (hn:cO n) :
  Calls Tryz.prog 258 #[.pointer (some (Ad mb 0)),I (j:Int),I p,I n] w (od (gB lo mb) w D (I (eH k j (cR (df k j) p n)).1) (eH k j (cR (df k j) p n)).2):=by
 obtain⟨⟨hs,a,_,_,s,hc,hK,_,_,_,_⟩,hb⟩:=id h;obtain⟨K,eK,hA⟩:=Gg ho hl s (cR (df k j) p n);have eK:iy (aV k hs) (j:Int) (cR (ak (aV k hs).aj (j:Int).toNat).aU p n)=(K,(eH k j (cR (df k j) p n)).1):=eK;obtain⟨R,hR⟩:=ex (eH k j (cR (df k j) p n));rw[<- hR] at eK hA ⊢;obtain⟨er,k'⟩:=R;simp only at eK hA ⊢;have hC:=VF vY (aV k hs) a j p n w (hK w (aD.refl _ _)) (oc (ho.right.wT s)) (Ee ho hl) hp hn;rw[eK] at hC;have HC:Hid (Calls Tryz.prog 266 #[.agg (bg a (aV k hs)),I (j:Int),I p,I n] w fun e w1=>∃s0 n0 q0 s1 n1 q1 s2 n2 q2 s3 n3 q3 hd,e=.returned (.tuple #[.agg #[.slice s0 n0 q0,.slice s1 n1 q1,.slice s2 n2 q2,.slice s3 n3 q3,I hd],I er])/\Below w.heap.size w w1/\∀w2,aD (fun b=>b=mb) w1 w2->w2.heap[mb]?=some (.cells (if er=0 then #[.slice s0 n0 q0,.slice s1 n1 q1,.slice s2 n2 q2,.slice s3 n3 q3,I hd] else bg a (aV k hs)) 185 (0,0))->pP lo mb w D k' w2):=hC.mono fun e w1 ho=>by
  obtain⟨s0,n0,q0,s1,n1,q1,s2,n2,q2,s3,n3,q3,hd,rfl,hb1,hfin⟩:=Ah h hc s hA ho;exact⟨_,_,_,_,_,_,_,_,_,_,_,_,_,rfl,hb1,fun w2 x y=>hfin w2 x y⟩
 obtain⟨P,hP⟩:=ex (od (gB lo mb) w D (I er) k');have HP:Hid (∀w2,pP lo mb w D k' w2->P (.returned (I er)) w2):=fun w2 ⟨D',a1,a2,a3⟩=>by rw[hP];exact⟨D',rfl,a1,a2,a3⟩
 rw[<- hP];have vB:=ai hc;clear hC eK hA hR hP h hK ho hl hc;obtain⟨K0,T6⟩:=ex (aV k hs);rw[<- T6] at HC vB;unfold bg at HC vB;obtain⟨m0,hm0⟩:=ex K0.aM.length;obtain⟨m1,nJ⟩:=ex K0.frames.length;obtain⟨m2,hm2⟩:=ex K0.slots.length;obtain⟨m3,PU⟩:=ex K0.aj.length;obtain⟨m4,T4⟩:=ex K0.hand;rw[<- hm0,<- nJ,<- hm2,<- PU,<- T4] at HC vB;clear hm0 nJ hm2 PU T4 T6 s;obtain⟨c0,c1,c2,c3,c4⟩:=iH vB.o;go_enter Tryz.func258,Tryz.ntmps258;go_wp2_with (first
  | (go_at_call 266;refine HC.o.mono ?_;rintro e w1 ⟨s0,n0,q0,s1,n1,q1,s2,n2,q2,s3,n3,q3,hd,rfl,hb1,hfin⟩;have cN:=ai hb1;have Uz:=ai hfin;clear hb1 hfin)
  | (go_at_call 259;refine(tu mb _ _ _ _ _ _ _ _ _ _ _ _ _ _ _ _ _ _ _ _ (aO vB.o cN.o (aJ vB.o))).mono ?_;rintro e w2 ⟨rfl,hk2,hm2⟩;have LF:=ai (Uz.o _ hk2 hm2);clear hk2 hm2))
 exact HP.o _ LF.o
theorem Q6 (p n q:Int) (h:gB lo mb w D k) (ho:dn k fl) (hl:fl.getD j false=true) (hp:cO p) (hn:cO n) :
  Calls Tryz.prog 256 #[.pointer (some (Ad mb 0)),I (j:Int),I p,I n,I q] w (od (gB lo mb) w D (I (eH k j (bV (df k j) p n q)).1) (eH k j (bV (df k j) p n q)).2):=by
 obtain⟨⟨hs,a,_,_,s,hc,hK,_,_,_,_⟩,hb⟩:=id h;obtain⟨K,eK,hA⟩:=Gg ho hl s (bV (df k j) p n q);have eK:iy (aV k hs) (j:Int) (bV (ak (aV k hs).aj (j:Int).toNat).aU p n q)=(K,(eH k j (bV (df k j) p n q)).1):=eK;obtain⟨R,hR⟩:=ex (eH k j (bV (df k j) p n q));rw[<- hR] at eK hA ⊢;obtain⟨er,k'⟩:=R;simp only at eK hA ⊢;have hC:=QA vY (aV k hs) a j p n q w (hK w (aD.refl _ _)) (oc (ho.right.wT s)) (Ee ho hl) hp hn;rw[eK] at hC;have HC:Hid (Calls Tryz.prog 264 #[.agg (bg a (aV k hs)),I (j:Int),I p,I n,I q] w fun e w1=>∃s0 n0 q0 s1 n1 q1 s2 n2 q2 s3 n3 q3 hd,e=.returned (.tuple #[.agg #[.slice s0 n0 q0,.slice s1 n1 q1,.slice s2 n2 q2,.slice s3 n3 q3,I hd],I er])/\Below w.heap.size w w1/\∀w2,aD (fun b=>b=mb) w1 w2->w2.heap[mb]?=some (.cells (if er=0 then #[.slice s0 n0 q0,.slice s1 n1 q1,.slice s2 n2 q2,.slice s3 n3 q3,I hd] else bg a (aV k hs)) 185 (0,0))->pP lo mb w D k' w2):=hC.mono fun e w1 ho=>by
  obtain⟨s0,n0,q0,s1,n1,q1,s2,n2,q2,s3,n3,q3,hd,rfl,hb1,hfin⟩:=Ah h hc s hA ho;exact⟨_,_,_,_,_,_,_,_,_,_,_,_,_,rfl,hb1,fun w2 x y=>hfin w2 x y⟩
 obtain⟨P,hP⟩:=ex (od (gB lo mb) w D (I er) k');have HP:Hid (∀w2,pP lo mb w D k' w2->P (.returned (I er)) w2):=fun w2 ⟨D',a1,a2,a3⟩=>by rw[hP];exact⟨D',rfl,a1,a2,a3⟩
 rw[<- hP];have vB:=ai hc;clear hC eK hA hR hP h hK ho hl hc;obtain⟨K0,T6⟩:=ex (aV k hs);rw[<- T6] at HC vB;unfold bg at HC vB;obtain⟨m0,hm0⟩:=ex K0.aM.length;obtain⟨m1,nJ⟩:=ex K0.frames.length;obtain⟨m2,hm2⟩:=ex K0.slots.length;obtain⟨m3,PU⟩:=ex K0.aj.length;obtain⟨m4,T4⟩:=ex K0.hand;rw[<- hm0,<- nJ,<- hm2,<- PU,<- T4] at HC vB;clear hm0 nJ hm2 PU T4 T6 s;obtain⟨c0,c1,c2,c3,c4⟩:=iH vB.o;go_enter Tryz.func256,Tryz.ntmps256;go_wp2_with (first
  | (go_at_call 264;refine HC.o.mono ?_;rintro e w1 ⟨s0,n0,q0,s1,n1,q1,s2,n2,q2,s3,n3,q3,hd,rfl,hb1,hfin⟩;have cN:=ai hb1;have Uz:=ai hfin;clear hb1 hfin)
  | (go_at_call 259;refine(tu mb _ _ _ _ _ _ _ _ _ _ _ _ _ _ _ _ _ _ _ _ (aO vB.o cN.o (aJ vB.o))).mono ?_;rintro e w2 ⟨rfl,hk2,hm2⟩;have LF:=ai (Uz.o _ hk2 hm2);clear hk2 hm2))
 exact HP.o _ LF.o
theorem Zv  (h:gB lo mb w D k) (ho:dn k fl) (hl:fl.getD j false=true) :
  Calls Tryz.prog 253 #[.pointer (some (Ad mb 0)),I (j:Int)] w (od (gB lo mb) w D (I (gu k j).1) (gu k j).2):=by
 obtain⟨⟨hs,a,_,_,s,hc,hK,_,_,_,_⟩,hb⟩:=id h;obtain⟨K,x,eK,hA⟩:=Zw ho hl s;obtain⟨R,hR⟩:=ex (gu k j);rw[<- hR] at eK hA ⊢;obtain⟨er,k'⟩:=R;simp only at eK hA ⊢;have hC:=YR vY (aV k hs) a j w (hK w (aD.refl _ _)) (oc (ho.right.wT s)) (Ee ho hl);rw[eK] at hC;have HC:Hid (Calls Tryz.prog 261 #[.agg (bg a (aV k hs)),I (j:Int)] w fun e w1=>∃s0 n0 q0 s1 n1 q1 s2 n2 q2 s3 n3 q3 hd,e=.returned (.tuple #[.agg #[.slice s0 n0 q0,.slice s1 n1 q1,.slice s2 n2 q2,.slice s3 n3 q3,I hd],I x,I er])/\Below w.heap.size w w1/\∀w2,aD (fun b=>b=mb) w1 w2->w2.heap[mb]?=some (.cells (if er=0 then #[.slice s0 n0 q0,.slice s1 n1 q1,.slice s2 n2 q2,.slice s3 n3 q3,I hd] else bg a (aV k hs)) 185 (0,0))->pP lo mb w D k' w2):=hC.mono fun e w1 ho=>by
  obtain⟨s0,n0,q0,s1,n1,q1,s2,n2,q2,s3,n3,q3,hd,rfl,hb1,hfin⟩:=Ah h hc s hA ho;exact⟨_,_,_,_,_,_,_,_,_,_,_,_,_,rfl,hb1,fun w2 x y=>hfin w2 x y⟩
 obtain⟨P,hP⟩:=ex (od (gB lo mb) w D (I er) k');have HP:Hid (∀w2,pP lo mb w D k' w2->P (.returned (I er)) w2):=fun w2 ⟨D',a1,a2,a3⟩=>by rw[hP];exact⟨D',rfl,a1,a2,a3⟩
 rw[<- hP];have vB:=ai hc;clear hC eK hA hR hP h hK ho hl hc;obtain⟨K0,T6⟩:=ex (aV k hs);rw[<- T6] at HC vB;unfold bg at HC vB;obtain⟨m0,hm0⟩:=ex K0.aM.length;obtain⟨m1,nJ⟩:=ex K0.frames.length;obtain⟨m2,hm2⟩:=ex K0.slots.length;obtain⟨m3,PU⟩:=ex K0.aj.length;obtain⟨m4,T4⟩:=ex K0.hand;rw[<- hm0,<- nJ,<- hm2,<- PU,<- T4] at HC vB;clear hm0 nJ hm2 PU T4 T6 s;obtain⟨c0,c1,c2,c3,c4⟩:=iH vB.o;go_enter Tryz.func253,Tryz.ntmps253;go_wp2_with (first
  | (go_at_call 261;refine HC.o.mono ?_;rintro e w1 ⟨s0,n0,q0,s1,n1,q1,s2,n2,q2,s3,n3,q3,hd,rfl,hb1,hfin⟩;have cN:=ai hb1;have Uz:=ai hfin;have HX:=ai ((aK w1.heap.size w1).alloc (aI _) (.cells #[.slice s0 n0 q0,.slice s1 n1 q1,.slice s2 n2 q2,.slice s3 n3 q3,I hd] 30));clear hb1 hfin)
  | (go_at_call 259;refine(tu mb _ _ _ _ _ _ _ _ _ _ _ _ _ _ _ _ _ _ _ _ (aO (aO vB.o cN.o (aJ vB.o)) HX.o (fL (aJ vB.o) cN.o.size))).mono ?_;rintro e w2 ⟨rfl,hk2,hm2⟩;have LF:=ai (Uz.o _ ((aD.b9 HX.o).trans hk2 (fun _ _ g=>g)) hm2);clear hk2 hm2))
 exact HP.o _ LF.o
theorem Zx  (h:gB lo mb w D k) (ho:dn k fl) (hl:fl.getD j false=true) :
  Calls Tryz.prog 252 #[.pointer (some (Ad mb 0)),I (j:Int)] w (od (gB lo mb) w D (.tuple #[]) (jy k j)):=by
 obtain⟨⟨hs,a,_,_,s,hc,hK,_,_,_,_⟩,hb⟩:=id h;obtain⟨eK,hS⟩:=Zy ho hl s;obtain⟨k',hk'⟩:=ex (jy k j);rw[<- hk'] at eK hS ⊢;have hA:Mz k (aV k' hs) k' hs True:=⟨fun _=>⟨rfl,hS⟩,fun g=>absurd trivial g⟩;have hC:=YS vY (aV k hs) a j w (hK w (aD.refl _ _)) (oc (ho.right.wT s)) (Ee ho hl);rw[eK] at hC;have HC:Hid (Calls Tryz.prog 260 #[.agg (bg a (aV k hs)),I (j:Int)] w fun e w1=>∃s0 n0 q0 s1 n1 q1 s2 n2 q2 s3 n3 q3 hd,e=.returned (.tuple #[.agg #[.slice s0 n0 q0,.slice s1 n1 q1,.slice s2 n2 q2,.slice s3 n3 q3,I hd],I 0])/\Below w.heap.size w w1/\∀w2,aD (fun b=>b=mb) w1 w2->w2.heap[mb]?=some (.cells (if True then #[.slice s0 n0 q0,.slice s1 n1 q1,.slice s2 n2 q2,.slice s3 n3 q3,I hd] else bg a (aV k hs)) 185 (0,0))->pP lo mb w D k' w2):=hC.mono fun e w1 ho=>by
  obtain⟨s0,n0,q0,s1,n1,q1,s2,n2,q2,s3,n3,q3,hd,rfl,hb1,hfin⟩:=Ah h hc s hA ho;exact⟨_,_,_,_,_,_,_,_,_,_,_,_,_,rfl,hb1,fun w2 x y=>hfin w2 x y⟩
 obtain⟨P,hP⟩:=ex (od (gB lo mb) w D (.tuple #[]) k');have HP:Hid (∀w2,pP lo mb w D k' w2->P (.returned (.tuple #[])) w2):=fun w2 ⟨D',a1,a2,a3⟩=>by rw[hP];exact⟨D',rfl,a1,a2,a3⟩
 rw[<- hP];have vB:=ai hc;clear hC eK hA hk' hP h hK ho hl hc;obtain⟨K0,T6⟩:=ex (aV k hs);rw[<- T6] at HC vB;unfold bg at HC vB;obtain⟨m0,hm0⟩:=ex K0.aM.length;obtain⟨m1,nJ⟩:=ex K0.frames.length;obtain⟨m2,hm2⟩:=ex K0.slots.length;obtain⟨m3,PU⟩:=ex K0.aj.length;obtain⟨m4,T4⟩:=ex K0.hand;rw[<- hm0,<- nJ,<- hm2,<- PU,<- T4] at HC vB;clear hm0 nJ hm2 PU T4 T6 s;obtain⟨c0,c1,c2,c3,c4⟩:=iH vB.o;go_enter Tryz.func252,Tryz.ntmps252;go_wp2_with (first
  | (go_at_call 260;refine HC.o.mono ?_;rintro e w1 ⟨s0,n0,q0,s1,n1,q1,s2,n2,q2,s3,n3,q3,hd,rfl,hb1,hfin⟩;have cN:=ai hb1;have Uz:=ai hfin;clear hb1 hfin)
  | (go_at_call 259;refine(tu mb _ _ _ _ _ _ _ _ _ _ _ _ _ _ _ _ _ _ _ _ (aO vB.o cN.o (aJ vB.o))).mono ?_;rintro e w2 ⟨rfl,hk2,hm2⟩;have LF:=ai (Uz.o _ hk2 (by rw[aC trivial];exact hm2));clear hk2 hm2))
 exact vE (v:=.tuple #[]) (by simp[results,Tryz.results252,go_sem]) rfl (HP.o _ LF.o)
end Go.Proofs.YtlgoihmkgaaemaaGreat
