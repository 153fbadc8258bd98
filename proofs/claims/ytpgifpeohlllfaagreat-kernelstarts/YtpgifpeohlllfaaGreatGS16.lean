import Derived.Test.YtpgifpeohlllfaaGreatGS00
import Derived.Test.YtpgifpeohlllfaaGreatGS15
import Derived.Test.YtpgifpeohlllfaaGreatGS08
import Derived.Test.YtpgifpeohlllfaaGreatGS10
set_option maxHeartbeats 20000000
set_option linter.unusedVariables false
set_option maxRecDepth 100000
set_option linter.unusedSimpArgs false
namespace Go.Proofs.YtpgifpeohlllfaaGreat
namespace KO
open Go.RowKit GK
open FW (ai aB)
open KW (bE bD aK aZ fu cI aJ)
open KS (Lc bJ oY dC blk cU)
def eI (s:LM.Sh):List Value:=[I s.page,.string s.data,.slice s.ao s.bh.length s.cap]
def fI (f:LM.Fx):List Value:=[I f.off,.string f.bytes]
def vX (s:LM.Sh):Value:=.slice s.ao s.bh.length s.cap
inductive Lb where
 | no | head | frames | slots | aj | ak
 | aD (i:Nat)
 | aA (i:Nat)
 | bh (i:Nat)
structure St where
 lab:Nat->Lb
 vS:Value
 vF:Value
 vL:Value
 vP:Value
 L:List Lc
structure Kr (lo:Nat) (w:World) (S:St) (k:KM.Kn):Prop where
 kP:∀b,S.lab b≠.no->lo<=b/\b<w.heap.size
 ak:w.ownsRow lo 50 3 S.vS k.ak.length (k.ak.flatMap eI)
 bh:∀i,i<k.ak.length->w.ownsRow lo 52 2 (vX (LM.aW k.ak i)) (LM.aW k.ak i).bh.length ((LM.aW k.ak i).bh.flatMap fI)
 frames:w.ownsRow lo 40 4 S.vF k.frames.length (k.frames.flatMap bE)
 slots:w.ownsRow lo 86 2 S.vL k.slots.length (k.slots.flatMap bD)
 aj:w.ownsRow lo 43 3 S.vP S.L.length (S.L.flatMap bJ)
 len:S.L.length=k.aj.length
 each:∀i,i<k.aj.length->cU lo w (dC S.L i) (KM.au k.aj i)
 lS:∀b,blk S.vS b->S.lab b=.ak
 lX:∀i,i<k.ak.length->∀b,blk (vX (LM.aW k.ak i)) b->S.lab b=.bh i
 lF:∀b,blk S.vF b->S.lab b=.frames
 lL:∀b,blk S.vL b->S.lab b=.slots
 lP:∀b,blk S.vP b->S.lab b=.aj
 lA:∀i,i<k.aj.length->∀b,blk (dC S.L i).va b->S.lab b=.aD i
 lE:∀i,i<k.aj.length->∀b,blk (dC S.L i).vp b->S.lab b=.aA i
structure Km (lo mb:Nat) (tt:TypeId) (X:List Value) (w:World) (S:St) (k:KM.Kn):Prop extends Kr lo w S k where
 head:w.heap[mb]?=some (.cells ([S.vS,S.vF,S.vL,S.vP,I k.hand]++X).toArray tt (0,0))
 lH:S.lab mb=.head
structure Ch (S:St) (w:World) (S':St) (w':World):Prop where
 kp:Kp (fun b=>S.lab b≠.no) w w'
 no:∀b,b<w.heap.size->S.lab b=.no->S'.lab b=.no
 eS:S'.vS=S.vS
 eF:S'.vF=S.vF
 eL:S'.vL=S.vL
 eP:S'.vP=S.vP
theorem Ch.refl (S:St) (w:World):Ch S w S w:=⟨Kp.refl _ _,fun _ _ h=>h,rfl,rfl,rfl,rfl⟩
theorem Ch.trans {S S1 S2:St} {w w1 w2:World} (h:Ch S w S1 w1) (g:Ch S1 w1 S2 w2):Ch S w S2 w2 :=
 ⟨⟨g.kp.os.trans h.kp.os,g.kp.tape.trans h.kp.tape,g.kp.output.trans h.kp.output,Nat.le_trans h.kp.size g.kp.size,fun b hb hn=>by
  have hb1:=Nat.lt_of_lt_of_le hb h.kp.size
  have hn0:S.lab b=.no:=Classical.not_not.1 hn
  have Oe:=h.no b hb hn0
  exact(g.kp.block b hb1 (fun x=>x Oe)).trans (h.kp.block b hb hn)⟩,fun b hb hn=>g.no b (Nat.lt_of_lt_of_le hb h.kp.size) (h.no b hb hn),g.eS.trans h.eS,g.eF.trans h.eF,g.eL.trans h.eL,g.eP.trans h.eP⟩
theorem Ch.below {S:St} {w w':World} (h:Below w.heap.size w w'):Ch S w S w':=⟨Kp.aY h,fun _ _ h=>h,rfl,rfl,rfl,rfl⟩
theorem Ch.set {S:St} {w:World} {g j:Nat} {u:Value} (h:S.lab g≠.no):Ch S w S (w.setCell (Ad g j) u):=⟨Kp.set _ _ _ _ h,fun _ _ h=>h,rfl,rfl,rfl,rfl⟩
theorem Ch.keep {S S':St} {w w':World} {b:Nat} {o:Obj} (h:Ch S w S' w') (hb:w.heap[b]?=some o) (hn:S.lab b=.no):w'.heap[b]?=some o:=h.kp.keep hb (fun x=>x hn)
theorem Kr.kp {lo:Nat} {w w':World} {S:St} {k:KM.Kn} {E:Nat->Prop} (h:Kr lo w S k) (hk:Kp E w w') (he:∀b,S.lab b≠.no->¬E b):Kr lo w' S k:=by
 have z:∀{b:Nat} {c:Lb},S.lab b=c->c≠.no->¬E b:=fun e hc=>he _ (by rw[e];exact hc)
 exact⟨fun b hb=>⟨(h.kP b hb).1,Nat.lt_of_lt_of_le (h.kP b hb).2 hk.size⟩,hk.row h.ak (fun b hb=>z (h.lS b hb) (by simp)),fun i hi=>hk.row (h.bh i hi) (fun b hb=>z (h.lX i hi b hb) (by simp)),hk.row h.frames (fun b hb=>z (h.lF b hb) (by simp)),hk.row h.slots (fun b hb=>z (h.lL b hb) (by simp)),hk.row h.aj (fun b hb=>z (h.lP b hb) (by simp)),h.len,fun i hi=>(h.each i hi).kp hk (fun b hb=>z (h.lA i hi b hb) (by simp)) (fun b hb=>z (h.lE i hi b hb) (by simp)),h.lS,h.lX,h.lF,h.lL,h.lP,h.lA,h.lE⟩
theorem Kr.below {lo:Nat} {w w':World} {S:St} {k:KM.Kn} (h:Kr lo w S k) (hb:Below w.heap.size w w'):Kr lo w' S k:=h.kp (Kp.aY (D:=fun _=>False) hb) (fun _ _ g=>g)
theorem Kr.mono {lo lo':Nat} {w:World} {S:St} {k:KM.Kn} (h:Kr lo w S k) (hl:lo'<=lo):Kr lo' w S k:=by
 have z:∀{e:TypeId} {n m:Nat} {v:Value} {xs:List Value},w.ownsRow lo e n v m xs->w.ownsRow lo' e n v m xs:=fun hr=>jO hr (fun g hg=>Nat.le_trans hl (hr.lt g hg).1)
 exact⟨fun b hb=>⟨Nat.le_trans hl (h.kP b hb).1,(h.kP b hb).2⟩,z h.ak,fun i hi=>z (h.bh i hi),z h.frames,z h.slots,z h.aj,h.len,fun i hi=>(h.each i hi).mono hl,h.lS,h.lX,h.lF,h.lL,h.lP,h.lA,h.lE⟩
theorem Km.below {lo mb:Nat} {tt:TypeId} {X:List Value} {w w':World} {S:St} {k:KM.Kn} (h:Km lo mb tt X w S k) (hb:Below w.heap.size w w'):Km lo mb tt X w' S k:=⟨h.toKr.below hb,B.below h.head hb (B.isLt h.head),h.lH⟩
theorem Km.kp {lo mb:Nat} {tt:TypeId} {X:List Value} {w w':World} {S:St} {k:KM.Kn} {E:Nat->Prop} (h:Km lo mb tt X w S k) (hk:Kp E w w') (he:∀b,S.lab b≠.no->¬E b):Km lo mb tt X w' S k:=⟨h.toKr.kp hk he,hk.keep h.head (he mb (by rw[h.lH];simp)),h.lH⟩
theorem Kr.new {lo:Nat} {w:World} {S:St} {k:KM.Kn} (h:Kr lo w S k) {b:Nat} (hb:w.heap.size<=b):S.lab b=.no:=Classical.not_not.1 fun x=>by have:=(h.kP b x).2;omega
theorem jN {α:Type} {w:World} {base:Nat} {e:TypeId} {k:Nat} (f:α->List Value) (hf:∀x,(f x).length=k) (d:α) {l:List α} {v:Value} (hr:w.ownsRow base e k v l.length (l.flatMap f)):∃ao cap,v=.slice ao l.length cap/\l.length<=cap/\aZ f k d w ao l:=by
 obtain⟨ao,cap,rfl,hle,hg⟩:=aQ hr
 refine⟨ao,cap,rfl,hle,fun hl=>?_⟩
 obtain⟨g,rfl,hg1,hg2⟩:=hg hl
 exact⟨g,0,rfl,hg2,fun i hi j hj=>by rw[Nat.zero_add];exact iQ f hf d hr i j hi hj⟩
theorem Kr.acF {lo:Nat} {w:World} {S:St} {k:KM.Kn} (h:Kr lo w S k):∃ao cap,S.vS=.slice ao k.ak.length cap/\k.ak.length<=cap/\LM.gT w ao k.ak:=by
 obtain⟨ao,cap,e,hc,hr⟩:=jN eI (fun _=>rfl) LM.L5 h.ak
 refine⟨ao,cap,e,hc,fun hl=>?_⟩
 obtain⟨b,off,e1,hb,hi⟩:=hr hl
 refine⟨b,off,e1,hb,fun i hlt=>⟨?_,hi i hlt 1 (by omega),hi i hlt 2 (by omega),fun hx=>?_⟩⟩
 · have:=hi i hlt 0 (by omega)
   rw[Nat.add_zero] at this
   exact this
 · obtain⟨ax,cx,ex,_,hrx⟩:=jN fI (fun _=>rfl) LM.Ze (h.bh i hlt)
   injection ex with e1 e2 e3
   rw[e1]
   obtain⟨b2,Ee,g1,g2,g3⟩:=hrx hx
   refine⟨b2,Ee,g1,g2,fun n hn=>⟨?_,g3 n hn 1 (by omega)⟩⟩
   have:=g3 n hn 0 (by omega)
   rw[Nat.add_zero] at this
   exact this
theorem Kr.acE {lo:Nat} {w:World} {S:St} {k:KM.Kn} (h:Kr lo w S k):∃ao cap,S.vP=.slice ao k.aj.length cap/\k.aj.length<=cap/\KW.jY w ao k.aj:=by
 obtain⟨ao,cap,e,hc,hr⟩:=jN bJ (fun _=>rfl) oY h.aj
 rw[h.len] at e hc
 refine⟨ao,cap,e,hc,fun hl=>?_⟩
 obtain⟨b,off,e1,hb,hi⟩:=hr (by rw[h.len];exact hl)
 refine⟨b,off,e1,hb,fun i hlt=>?_⟩
 have hlt':i<S.L.length:=by rw[h.len];exact hlt
 have hs:=h.each i hlt
 obtain⟨ap,cp,hvp,Rh,hgp⟩:=jN aK (fun _=>rfl) KM.jI hs.aH
 have c0:=hi i hlt' 0 (by omega)
 have c1:=hi i hlt' 1 (by omega)
 have c2:=hi i hlt' 2 (by omega)
 rw[Nat.add_zero] at c0
 refine⟨(dC S.L i).va,ap,cp,?_,c1,?_,hs.aD.has,hgp,Rh⟩
 · rw[<- hs.live];exact c0
 · rw[<- hvp];exact c2
structure VD (S:St) (k:KM.Kn) (a:fu):Prop where
 eS:S.vS=.slice a.aS k.ak.length a.cS
 eF:S.vF=.slice a.aF k.frames.length a.cF
 eL:S.vL=.slice a.aL k.slots.length a.cL
 eP:S.vP=.slice a.aP k.aj.length a.cP
theorem Kr.has {lo:Nat} {w:World} {S:St} {k:KM.Kn} (h:Kr lo w S k):∃a,VD S k a/\cI w a k:=by
 obtain⟨aS,cS,eS,_,hS⟩:=h.acF
 obtain⟨aP,cP,eP,_,hP⟩:=h.acE
 obtain⟨aF,cF,eF,_,hF⟩:=jN bE (fun _=>rfl) KM.kY h.frames
 obtain⟨aL,cL,eL,_,hL⟩:=jN bD (fun _=>rfl) KM.sS h.slots
 exact⟨⟨aS,cS,aF,cF,aL,cL,aP,cP⟩,⟨eS,eF,eL,eP⟩,⟨hS,hF,hL,hP⟩⟩
theorem Kr.uh {lo:Nat} {w:World} {S:St} {k:KM.Kn} (h:Kr lo w S k) {g n cap:Nat} (hv:S.vF=.slice (some (Ad g 0)) n cap) {i j:Nat} (hi:i<k.frames.length) (hj:j<4) {f:KM.Fr} {u:Value} (e:bE f=(bE (KM.aI k.frames i)).set j u) :
  Kr lo (w.setCell (Ad g (i*4+j)) u) S { k with frames:=k.frames.set i f }:=by
 have hk:Kp (fun b=>b=g) w (w.setCell (Ad g (i*4+j)) u):=Kp.set _ _ _ _ rfl
 have hg:S.lab g=.frames:=h.lF g (by rw[hv];rfl)
 have z:∀{b:Nat} {c:Lb},S.lab b=c->c≠.frames->¬b=g:=fun e hc x=>hc (by rw[<- e,x];exact hg)
 have hn:n=k.frames.length:=by
  obtain⟨ao,c,e,_⟩:=aQ h.frames
  rw[hv] at e
  injection e
 subst hn
 have hr:=h.frames
 rw[hv] at hr
 refine⟨fun b hb=>⟨(h.kP b hb).1,Nat.lt_of_lt_of_le (h.kP b hb).2 hk.size⟩,hk.row h.ak (fun b hb=>z (h.lS b hb) (by simp)),fun i hi=>hk.row (h.bh i hi) (fun b hb=>z (h.lX i hi b hb) (by simp)),?_,hk.row h.slots (fun b hb=>z (h.lL b hb) (by simp)),hk.row h.aj (fun b hb=>z (h.lP b hb) (by simp)),h.len,fun i hi=>(h.each i hi).kp hk (fun b hb=>z (h.lA i hi b hb) (by simp)) (fun b hb=>z (h.lE i hi b hb) (by simp)),h.lS,h.lX,h.lF,h.lL,h.lP,h.lA,h.lE⟩
 have:=jM hr (i*4+j) u
 show World.ownsRow _ lo _ 4 S.vF (k.frames.set i f).length _
 rw[List.length_set,hv,gN bE 4 (fun _=>rfl) KM.kY f j u hj k.frames i hi e]
 exact this
theorem Kr.MS {lo:Nat} {w:World} {S:St} {k:KM.Kn} (h:Kr lo w S k) {g n cap:Nat} (hv:S.vL=.slice (some (Ad g 0)) n cap) {i j:Nat} (hi:i<k.slots.length) (hj:j<2) {f:KM.Sl} {u:Value} (e:bD f=(bD (KM.bG k.slots i)).set j u) :
  Kr lo (w.setCell (Ad g (i*2+j)) u) S { k with slots:=k.slots.set i f }:=by
 have hk:Kp (fun b=>b=g) w (w.setCell (Ad g (i*2+j)) u):=Kp.set _ _ _ _ rfl
 have hg:S.lab g=.slots:=h.lL g (by rw[hv];rfl)
 have z:∀{b:Nat} {c:Lb},S.lab b=c->c≠.slots->¬b=g:=fun e hc x=>hc (by rw[<- e,x];exact hg)
 have hn:n=k.slots.length:=by
  obtain⟨ao,c,e,_⟩:=aQ h.slots
  rw[hv] at e
  injection e
 subst hn
 have hr:=h.slots
 rw[hv] at hr
 refine⟨fun b hb=>⟨(h.kP b hb).1,Nat.lt_of_lt_of_le (h.kP b hb).2 hk.size⟩,hk.row h.ak (fun b hb=>z (h.lS b hb) (by simp)),fun i hi=>hk.row (h.bh i hi) (fun b hb=>z (h.lX i hi b hb) (by simp)),hk.row h.frames (fun b hb=>z (h.lF b hb) (by simp)),?_,hk.row h.aj (fun b hb=>z (h.lP b hb) (by simp)),h.len,fun i hi=>(h.each i hi).kp hk (fun b hb=>z (h.lA i hi b hb) (by simp)) (fun b hb=>z (h.lE i hi b hb) (by simp)),h.lS,h.lX,h.lF,h.lL,h.lP,h.lA,h.lE⟩
 have:=jM hr (i*2+j) u
 show World.ownsRow _ lo _ 2 S.vL (k.slots.set i f).length _
 rw[List.length_set,hv,gN bD 2 (fun _=>rfl) KM.sS f j u hj k.slots i hi e]
 exact this
theorem Kr.turn {lo:Nat} {w w2:World} {S:St} {k:KM.Kn} (h:Kr lo w S k) {j:Nat} (hj:j<k.aj.length) {l:Lc} {s:KM.Sp} {lab':Nat->Lb}
  (hk:Kp (fun b=>S.lab b=.aA j∨S.lab b=.aj∨S.lab b=.aD j) w w2) (hrow:w2.ownsRow lo 43 3 S.vP S.L.length ((S.L.set j l).flatMap bJ)) (hs:cU lo w2 l s)
  (hb:∀b,lab' b≠.no->lo<=b/\b<w2.heap.size) (hlab:∀b c,S.lab b=c->c≠.no->c≠.aD j->c≠.aA j->lab' b=c) (hA:∀b,blk l.va b->lab' b=.aD j) (hE:∀b,blk l.vp b->lab' b=.aA j) :
  Kr lo w2 ⟨lab',S.vS,S.vF,S.vL,S.vP,S.L.set j l⟩ { k with aj:=k.aj.set j s }:=by
 have z:∀{b:Nat} {c:Lb},S.lab b=c->c≠.aA j->c≠.aj->c≠.aD j->¬(S.lab b=.aA j∨S.lab b=.aj∨S.lab b=.aD j):=fun e h1 h2 h3 x=>by
  rw[e] at x
  rcases x with x | x | x
  · exact h1 x
  · exact h2 x
  · exact h3 x
 have Y7:(S.L.set j l).length=S.L.length:=List.length_set
 have hl:=h.len
 have at_:∀i,i<k.aj.length->dC (S.L.set j l) i=if j=i then l else dC S.L i:=fun i hi=>by
  unfold dC
  by_cases c:j=i
  · subst c;rw[if_pos rfl,KM.bK _ _ _ _ (by omega)]
  · rw[if_neg c,KM.getD_set_ne _ _ _ _ _ c]
 refine⟨hb,hk.row h.ak (fun b hb=>z (h.lS b hb) (by simp) (by simp) (by simp)),fun i hi=>hk.row (h.bh i hi) (fun b hb=>z (h.lX i hi b hb) (by simp) (by simp) (by simp)),hk.row h.frames (fun b hb=>z (h.lF b hb) (by simp) (by simp) (by simp)),hk.row h.slots (fun b hb=>z (h.lL b hb) (by simp) (by simp) (by simp)),?_,?_,?_,fun b hb=>hlab b _ (h.lS b hb) (by simp) (by simp) (by simp),fun i hi b hb=>hlab b _ (h.lX i hi b hb) (by simp) (by simp) (by simp),fun b hb=>hlab b _ (h.lF b hb) (by simp) (by simp) (by simp),fun b hb=>hlab b _ (h.lL b hb) (by simp) (by simp) (by simp),fun b hb=>hlab b _ (h.lP b hb) (by simp) (by simp) (by simp),?_,?_⟩
 · show World.ownsRow w2 lo _ 3 S.vP (S.L.set j l).length _
   rw[Y7];exact hrow
 · show(S.L.set j l).length=(k.aj.set j s).length
   rw[Y7,List.length_set,hl]
 · intro i hi
   have hi:i<k.aj.length:=by rw[<- List.length_set];exact hi
   show cU lo w2 (dC (S.L.set j l) i) (KM.au (k.aj.set j s) i)
   rw[at_ i hi,KM.gL _ _ _ _ hj]
   by_cases c:j=i
   · rw[if_pos c,if_pos c];exact hs
   · rw[if_neg c,if_neg c]
     exact(h.each i hi).kp hk (fun b hb=>z (h.lA i hi b hb) (by simp) (by simp) (by simp;omega)) (fun b hb=>z (h.lE i hi b hb) (by simp;omega) (by simp) (by simp))
 · intro i hi b hb
   have hi:i<k.aj.length:=by rw[<- List.length_set];exact hi
   have hb:blk (dC (S.L.set j l) i).va b:=hb
   rw[at_ i hi] at hb
   by_cases c:j=i
   · rw[if_pos c] at hb;rw[<- c];exact hA b hb
   · rw[if_neg c] at hb;exact hlab b _ (h.lA i hi b hb) (by simp) (by simp;omega) (by simp)
 · intro i hi b hb
   have hi:i<k.aj.length:=by rw[<- List.length_set];exact hi
   have hb:blk (dC (S.L.set j l) i).vp b:=hb
   rw[at_ i hi] at hb
   by_cases c:j=i
   · rw[if_pos c] at hb;rw[<- c];exact hE b hb
   · rw[if_neg c] at hb;exact hlab b _ (h.lE i hi b hb) (by simp) (by simp) (by simp;omega)
end KO
namespace KM
open Go.RowKit
def bZ (a n:Int):Int:=(a+n-1)/16
def dz (k:Kn) (j:Nat) (a way:Int):Nat×Kn:=cj k j (a/16) way []
def iI (k:Kn) (j:Nat) (a n way:Int):Nat×Kn:=cj (dz k j a way).2 j (bZ a n) way [((dz k j a way).1:Int)]
def aO (k:Kn) (j:Nat) (a n way:Int):List Nat×Kn:=if bZ a n=a/16 then ([(dz k j a way).1],(dz k j a way).2) else ([(dz k j a way).1,(iI k j a n way).1],(iI k j a n way).2)
structure Reached (k:Kn) (j:Nat) (a n way:Int):Prop where
 right:aU (aO k j a n way).2
 kept:Kept k (aO k j a n way).2
 one:bc (au (aO k j a n way).2.aj j).aA (a/16)=some ⟨a/16,1,(dz k j a way).1⟩/\(dz k j a way).1<k.frames.length
 two:bZ a n≠a/16->bc (au (aO k j a n way).2.aj j).aA (bZ a n)=some ⟨bZ a n,1,(iI k j a n way).1⟩/\(iI k j a n way).1<k.frames.length
theorem nT {k:Kn} (h:aU k) {j:Nat} (hj:j<k.aj.length) (a n way:Int) (h1:mapped k j (a/16)) (h2:mapped k j (bZ a n)):Reached k j a n way:=by
 have A:=(kF h hj h1 way (held:=[]) (by simp)).1
 by_cases c:bZ a n=a/16
 · have e:aO k j a n way=([(dz k j a way).1],(dz k j a way).2):=by unfold aO;rw[if_pos c]
   exact⟨by rw[e];exact A.right,by rw[e];exact A.kept,by rw[e];exact⟨A.here,A.lt⟩,fun x=>absurd c x⟩
 · have hj':j<(dz k j a way).2.aj.length:=by have:=A.kept.np;unfold dz;omega
   have B:=(kF (k:=(dz k j a way).2) A.right hj' (A.kept.mapped hj h2) way (held:=[((dz k j a way).1:Int)]) (by simp)).1
   have e:aO k j a n way=([(dz k j a way).1,(iI k j a n way).1],(iI k j a n way).2):=by unfold aO;rw[if_neg c]
   refine⟨by rw[e];exact B.right,by rw[e];exact A.kept.trans B.kept,?_,fun _=>?_⟩
   · rw[e]
     exact⟨B.stay j hj' (a/16) _ A.here rfl (by simp[dz]) (fun x=>c x.2.symm),A.lt⟩
   · rw[e]
     refine⟨B.here,?_⟩
     have hl:=B.lt
     have hn:=A.kept.nf
     show(iI k j a n way).1<_
     unfold iI
     unfold dz at hl ⊢
     omega
def y9 (k:Kn) (j:Nat) (es:List En) (e:En):Kn:=cN { k with aj:=k.aj.set j (dV (au k.aj j) es) } e
theorem Lz {k:Kn} (h:aU k) {j:Nat} (hj:j<k.aj.length) {pre post:List En} {e:En} (he:(au k.aj j).aA=pre++e::post):(y9 k j (pre++post) e).frames.length=k.frames.length/\(y9 k j (pre++post) e).slots.length=k.slots.length/\(y9 k j (pre++post) e).ak=k.ak/\(y9 k j (pre++post) e).hand=k.hand/\(y9 k j (pre++post) e).aj=k.aj.set j (dV (au k.aj j) (pre++post)) /\
  (∀n,aI (y9 k j (pre++post) e).frames n=if e.kind=1/\e.loc=(n:Int) then lq (aI k.frames n) else aI k.frames n) /\
  (∀n,bG (y9 k j (pre++post) e).slots n=if e.kind=2/\e.loc=(n:Int) then n7 (bG k.slots n) else bG k.slots n):=by
 have hm:e∈(au k.aj j).aA:=by rw[he];simp
 unfold y9 cN
 rcases fV h hj hm with b | b
 · rw[if_pos b.1]
   refine⟨List.length_set,rfl,rfl,rfl,rfl,fun n=>?_,fun n=>?_⟩
   · show aI (k.frames.set _ (lq (aI k.frames _))) n=_
     rw[eU _ _ _ _ b.2.2]
     by_cases c:e.loc.toNat=n
     · rw[if_pos c,if_pos ⟨b.1,by omega⟩,c]
     · rw[if_neg c,if_neg (by omega)]
   · show bG k.slots n=_
     rw[if_neg (by omega)]
 · rw[if_neg (by omega)]
   refine⟨rfl,List.length_set,rfl,rfl,rfl,fun n=>?_,fun n=>?_⟩
   · show aI k.frames n=_
     rw[if_neg (by omega)]
   · show bG (k.slots.set _ (n7 (bG k.slots _))) n=_
     rw[nO _ _ _ _ b.2.2]
     by_cases c:e.loc.toNat=n
     · rw[if_pos c,if_pos ⟨b.1,by omega⟩,c]
     · rw[if_neg c,if_neg (by omega)]
theorem Lx {k:Kn} (h:aU k) {j:Nat} (hj:j<k.aj.length) {pre post:List En} {e:En} (he:(au k.aj j).aA=pre++e::post):aU (y9 k j (pre++post) e):=by
 have hsp:=h.sp hj
 obtain⟨f1,f2,f3,f4,f5,f6,f7⟩:=Lz h hj he
 have hlen:(y9 k j (pre++post) e).aj.length=k.aj.length:=by rw[f5,List.length_set]
 have hin:∀x,x∈pre++post->x∈(au k.aj j).aA:=fun x hx=>by
  rw[he]
  rcases List.mem_append.1 hx with g | g
  · exact List.mem_append.2 (.inl g)
  · exact List.mem_append.2 (.inr (List.mem_cons_of_mem _ g))
 have qy:∀kd a:Int,∃X Y,names k.aj kd a=X++(nm (au k.aj j).aD kd a [e]++Y)/\names (k.aj.set j (dV (au k.aj j) (pre++post))) kd a=X++Y:=fun kd a=>by
  obtain⟨u,v,g1,g2⟩:=uu k.aj j (dV (au k.aj j) (pre++post)) kd a hj
  refine⟨u++nm (au k.aj j).aD kd a pre,nm (au k.aj j).aD kd a post++v,?_,?_⟩
  · rw[g1,qu,he,fJ,qm]
    simp only[List.append_assoc]
  · rw[g2,qu]
    show u++(nm (au k.aj j).aD kd a (pre++post)++v)=_
    rw[fJ]
    simp only[List.append_assoc]
 refine⟨?_,by rw[f3];exact h.eN,by rw[f4,f1];exact h.hand,?_,?_,?_,?_⟩
 · have:=h.counts
   unfold KM.counts at this ⊢
   rw[f1,f2,f3,hlen]
   exact this
 · rw[f1,f2,f3,f5]
   intro s hs
   rcases List.mem_or_eq_of_mem_set hs with g | rfl
   · exact h.each s g
   · refine⟨fun dd=>?_,hsp.aD,?_,fun x hx=>hsp.vW x (hin x hx),hsp.ak⟩
     · have hnil:=(hsp.dead dd).2
       rw[he] at hnil
       exact absurd hnil (by simp)
     · have hr:kI (au k.aj j).aA:=hsp.eN
       rw[he] at hr
       exact List.Pairwise.sublist ((List.Sublist.append (List.Sublist.refl pre) (List.sublist_cons_self e post)).map _) hr
 · rw[f2,f5,DV _ _ (dV (au k.aj j) (pre++post)) hj rfl];exact h.room
 · intro n hn
   rw[f1] at hn
   rw[f3,f5,f6]
   obtain⟨X,Y,h1,h2⟩:=qy 1 n
   rw[h2]
   have hf:=h.nz n hn
   rw[h1] at hf
   by_cases c2:e.kind=1/\e.loc=(n:Int)
   · rw[if_pos c2]
     rw[ld _ c2] at hf
     exact hf.less
   · rw[if_neg c2]
     rw[jS _ c2] at hf
     exact hf
 · intro n hn
   rw[f2] at hn
   rw[f5,f7]
   obtain⟨X,Y,h1,h2⟩:=qy 2 n
   rw[h2]
   have hf:=h.slt n hn
   rw[h1] at hf
   by_cases c2:e.kind=2/\e.loc=(n:Int)
   · rw[if_pos c2]
     rw[ld _ c2] at hf
     exact hf.less
   · rw[if_neg c2]
     rw[jS _ c2] at hf
     exact hf
end KM
namespace KO
open Go.RowKit GK
open FW (ai aB)
open KW (bE bD aK aZ fu cI aJ)
open KS (Lc bJ oY dC blk cU)
variable {lo mb:Nat} {tt:TypeId} {X:List Value} {w:World} {S:St} {k:KM.Kn}
theorem DJ (h:Km lo mb tt X w S k) {g j:Nat} {u:Value} {c:Lb} (hg:S.lab g=c) (hc:c≠.head):(w.setCell (Ad g j) u).heap[mb]?=some (.cells ([S.vS,S.vF,S.vL,S.vP,I k.hand]++X).toArray tt (0,0)) :=
 B.other h.head g j u (fun e=>hc (by rw[<- hg,<- e];exact h.lH))
theorem Km.uh (h:Km lo mb tt X w S k) {g n cap:Nat} (hv:S.vF=.slice (some (Ad g 0)) n cap) {i j:Nat} (hi:i<k.frames.length) (hj:j<4) {f:KM.Fr} {u:Value} (e:bE f=(bE (KM.aI k.frames i)).set j u) :
  Km lo mb tt X (w.setCell (Ad g (i*4+j)) u) S { k with frames:=k.frames.set i f }:=⟨h.toKr.uh hv hi hj e,DJ h (h.lF g (by rw[hv];rfl)) (by simp),h.lH⟩
theorem Km.MS (h:Km lo mb tt X w S k) {g n cap:Nat} (hv:S.vL=.slice (some (Ad g 0)) n cap) {i j:Nat} (hi:i<k.slots.length) (hj:j<2) {f:KM.Sl} {u:Value} (e:bD f=(bD (KM.bG k.slots i)).set j u) :
  Km lo mb tt X (w.setCell (Ad g (i*2+j)) u) S { k with slots:=k.slots.set i f }:=⟨h.toKr.MS hv hi hj e,DJ h (h.lL g (by rw[hv];rfl)) (by simp),h.lH⟩
theorem Pe (h:Kr lo w S k) {g n cap:Nat} (hv:S.vF=.slice (some (Ad g 0)) n cap) {V:World} {i:Nat} {u:Value}:Ch S V S (V.setCell (Ad g i) u):=Ch.set (by rw[h.lF g (by rw[hv];rfl)];simp)
theorem chL (h:Kr lo w S k) {g n cap:Nat} (hv:S.vL=.slice (some (Ad g 0)) n cap) {V:World} {i:Nat} {u:Value}:Ch S V S (V.setCell (Ad g i) u):=Ch.set (by rw[h.lL g (by rw[hv];rfl)];simp)
theorem Km.NI (h:Km lo mb tt X w S k) {g n cap:Nat} (hv:S.vF=.slice (some (Ad g 0)) n cap) {i:Nat} (hi:i<k.frames.length) (f:KM.Fr) :
  Km lo mb tt X ((((w.setCell (Ad g (i*4)) (.string f.data)).setCell (Ad g (i*4+1)) (I f.refs)).setCell (Ad g (i*4+2)) (.bool f.b9)).setCell (Ad g (i*4+3)) (.bool f.seen)) S { k with frames:=k.frames.set i f } /\
  Ch S w S ((((w.setCell (Ad g (i*4)) (.string f.data)).setCell (Ad g (i*4+1)) (I f.refs)).setCell (Ad g (i*4+2)) (.bool f.b9)).setCell (Ad g (i*4+3)) (.bool f.seen)):=by
 have h1:=h.uh hv hi (j:=0) (by omega) (f:=⟨f.data,(KM.aI k.frames i).refs,(KM.aI k.frames i).b9,(KM.aI k.frames i).seen⟩) (u:=.string f.data) rfl
 have h2:=h1.uh hv (i:=i) (by simpa using hi) (j:=1) (by omega) (f:=⟨f.data,f.refs,(KM.aI k.frames i).b9,(KM.aI k.frames i).seen⟩) (u:=I f.refs) (by simp only[KM.aI,KM.bK _ _ _ _ hi];rfl)
 have h3:=h2.uh hv (i:=i) (by simpa using hi) (j:=2) (by omega) (f:=⟨f.data,f.refs,f.b9,(KM.aI k.frames i).seen⟩) (u:=.bool f.b9) (by simp only[KM.aI,List.set_set,KM.bK _ _ _ _ hi];rfl)
 have h4:=h3.uh hv (i:=i) (by simpa using hi) (j:=3) (by omega) (f:=f) (u:=.bool f.seen) (by simp only[KM.aI,List.set_set,KM.bK _ _ _ _ hi];rfl)
 simp only[List.set_set] at h4
 exact⟨h4,(((Pe h.toKr hv).trans (Pe h.toKr hv)).trans (Pe h.toKr hv)).trans (Pe h.toKr hv)⟩
theorem Km.XM (h:Km lo mb tt X w S k) {g n cap:Nat} (hv:S.vL=.slice (some (Ad g 0)) n cap) {i:Nat} (hi:i<k.slots.length) (f:KM.Sl) :
  Km lo mb tt X ((w.setCell (Ad g (i*2)) (.string f.data)).setCell (Ad g (i*2+1)) (I f.refs)) S { k with slots:=k.slots.set i f } /\
  Ch S w S ((w.setCell (Ad g (i*2)) (.string f.data)).setCell (Ad g (i*2+1)) (I f.refs)):=by
 have h1:=h.MS hv hi (j:=0) (by omega) (f:=⟨f.data,(KM.bG k.slots i).refs⟩) (u:=.string f.data) rfl
 have h2:=h1.MS hv (i:=i) (by simpa using hi) (j:=1) (by omega) (f:=f) (u:=I f.refs) (by simp only[KM.bG,KM.bK _ _ _ _ hi];rfl)
 simp only[List.set_set] at h2
 exact⟨h2,(chL h.toKr hv).trans (chL h.toKr hv)⟩
theorem Km.QG (h:Km lo mb tt X w S k) (x:Int):Km lo mb tt X (w.setCell (Ad mb 4) (I x)) S { k with hand:=x }/\Ch S w S (w.setCell (Ad mb 4) (I x)):=by
 have hk:Kp (fun b=>b=mb) w (w.setCell (Ad mb 4) (I x)):=Kp.set _ _ _ _ rfl
 have z:∀{b:Nat} {c:Lb},S.lab b=c->c≠.head->¬b=mb:=fun e hc x=>hc (by rw[<- e,x];exact h.lH)
 refine⟨⟨⟨fun b hb=>⟨(h.kP b hb).1,Nat.lt_of_lt_of_le (h.kP b hb).2 hk.size⟩,hk.row h.ak (fun b hb=>z (h.lS b hb) (by simp)),fun i hi=>hk.row (h.bh i hi) (fun b hb=>z (h.lX i hi b hb) (by simp)),hk.row h.frames (fun b hb=>z (h.lF b hb) (by simp)),hk.row h.slots (fun b hb=>z (h.lL b hb) (by simp)),hk.row h.aj (fun b hb=>z (h.lP b hb) (by simp)),h.len,fun i hi=>(h.each i hi).kp hk (fun b hb=>z (h.lA i hi b hb) (by simp)) (fun b hb=>z (h.lE i hi b hb) (by simp)),h.lS,h.lX,h.lF,h.lL,h.lP,h.lA,h.lE⟩,?_,h.lH⟩,Ch.set (by rw[h.lH];simp)⟩
 rw[B.set h.head 4 (I x)]
 simp
theorem Km.turn {w2:World} (h:Km lo mb tt X w S k) {j:Nat} (hj:j<k.aj.length) {l:Lc} {s:KM.Sp} {lab':Nat->Lb}
  (hk:Kp (fun b=>S.lab b=.aA j∨S.lab b=.aj∨S.lab b=.aD j) w w2) (hrow:w2.ownsRow lo 43 3 S.vP S.L.length ((S.L.set j l).flatMap bJ)) (hs:cU lo w2 l s)
  (hb:∀b,lab' b≠.no->lo<=b/\b<w2.heap.size) (hlab:∀b c,S.lab b=c->c≠.no->c≠.aD j->c≠.aA j->lab' b=c) (hA:∀b,blk l.va b->lab' b=.aD j) (hE:∀b,blk l.vp b->lab' b=.aA j) :
  Km lo mb tt X w2 ⟨lab',S.vS,S.vF,S.vL,S.vP,S.L.set j l⟩ { k with aj:=k.aj.set j s } :=
 ⟨h.toKr.turn hj hk hrow hs hb hlab hA hE,hk.keep h.head (fun x=>by rw[h.lH] at x;simp at x),hlab mb _ h.lH (by simp) (by simp) (by simp)⟩
theorem I0 (L:List Lc) (j:Nat):L.set j (dC L j)=L:=by
 unfold dC
 by_cases h:j<L.length
 · rw[List.getD_eq_getElem?_getD,List.getElem?_eq_getElem h,Option.getD_some,List.set_getElem_self]
 · exact List.set_eq_of_length_le (by omega)
theorem Km.kZ (h:Km lo mb tt X w S k) {j:Nat} (hj:j<k.aj.length) {g n cap:Nat} (hv:(dC S.L j).vp=.slice (some (Ad g 0)) n cap) {i c:Nat} (hi:i<(KM.au k.aj j).aA.length) (hc:c<3) {e:KM.En} {u:Value} (he:aK e=(aK (KM.aN (KM.au k.aj j).aA i)).set c u) :
  Km lo mb tt X (w.setCell (Ad g (i*3+c)) u) S { k with aj:=k.aj.set j (KM.dV (KM.au k.aj j) ((KM.au k.aj j).aA.set i e)) }/\Ch S w S (w.setCell (Ad g (i*3+c)) u):=by
 have hgl:S.lab g=.aA j:=h.lE j hj g (by rw[hv];rfl)
 have hk:Kp (fun b=>b=g) w (w.setCell (Ad g (i*3+c)) u):=Kp.set _ _ _ _ rfl
 have z:∀{b:Nat} {c:Lb},S.lab b=c->c≠.aA j->¬b=g:=fun e hc x=>hc (by rw[<- e,x];exact hgl)
 have hs:=h.each j hj
 have hn:n=(KM.au k.aj j).aA.length:=by
  obtain⟨ao,c,e,_⟩:=aQ hs.aH
  rw[hv] at e
  injection e
 subst hn
 have hr:=hs.aH
 rw[hv] at hr
 refine⟨?_,Ch.set (by rw[hgl];simp)⟩
 have:=h.turn (w2:=w.setCell (Ad g (i*3+c)) u) hj (l:=dC S.L j) (s:=KM.dV (KM.au k.aj j) ((KM.au k.aj j).aA.set i e)) (lab':=S.lab) (hk.mono (fun b _ e=>.inl (by rw[e];exact hgl))) (by rw[I0];exact hk.row h.aj (fun b hb=>z (h.lP b hb) (by simp))) ⟨hs.live,hk.row hs.aD (fun b hb=>z (h.lA j hj b hb) (by simp)),?_⟩ (fun b hb=>⟨(h.kP b hb).1,Nat.lt_of_lt_of_le (h.kP b hb).2 hk.size⟩) (fun b c e _ _ _=>e) (fun b hb=>h.lA j hj b hb) (fun b hb=>h.lE j hj b hb)
 · rw[I0] at this;exact this
 · have r2:=jM hr (i*3+c) u
   show World.ownsRow _ lo _ 3 (dC S.L j).vp ((KM.au k.aj j).aA.set i e).length (((KM.au k.aj j).aA.set i e).flatMap aK)
   rw[List.length_set,hv,gN aK 3 (fun _=>rfl) KM.jI e c u hc _ i hi he]
   exact r2
def Ej (S:St) (j:Nat) (v:Value):Nat->Lb:=fun b=>if v.ownBlock=some b then .aA j else S.lab b
theorem Km.gw {w1:World} (h:Km lo mb tt X w S k) {j:Nat} (hj:j<k.aj.length) {v:Value} {es:List KM.En} {pb n cap:Nat} (hP:S.vP=.slice (some (Ad pb 0)) n cap)
  (hk:Kp (fun b=>S.lab b=.aA j) w w1) (hr:w1.ownsRow lo 45 3 v es.length (es.flatMap aK)) (hat:∀b,blk v b->S.lab b=.aA j∨S.lab b=.no) :
  Km lo mb tt X (w1.setCell (Ad pb (j*3+2)) v) ⟨Ej S j v,S.vS,S.vF,S.vL,S.vP,S.L.set j ⟨(dC S.L j).lv,(dC S.L j).va,v⟩⟩ { k with aj:=k.aj.set j (KM.dV (KM.au k.aj j) es) } /\
  ((∀b,b<w.heap.size->blk v b->S.lab b=.aA j)->Ch S w ⟨Ej S j v,S.vS,S.vF,S.vL,S.vP,S.L.set j ⟨(dC S.L j).lv,(dC S.L j).va,v⟩⟩ (w1.setCell (Ad pb (j*3+2)) v)):=by
 have hpl:S.lab pb=.aj:=h.lP pb (by rw[hP];rfl)
 have gY:Kp (fun b=>b=pb) w1 (w1.setCell (Ad pb (j*3+2)) v):=Kp.set _ _ _ _ rfl
 have hs:=h.each j hj
 have hl:=h.len
 have hrl:∀b,blk v b->lo<=b/\b<w1.heap.size:=fun b hb=>hr.lt b hb
 have hlab:∀b c,S.lab b=c->c≠.no->c≠.aA j->Ej S j v b=c:=fun b c e h1 h2=>by
  unfold Ej
  rw[if_neg,e]
  intro x
  rcases hat b x with y | y
  · exact h2 (e.symm.trans y)
  · exact h1 (e.symm.trans y)
 have hn:n=S.L.length:=by
  obtain⟨ao,c,e,_⟩:=aQ h.aj
  rw[hP] at e
  injection e
 subst hn
 have hr1:=hk.row h.aj (fun b hb e=>by rw[h.lP b hb] at e;simp at e)
 rw[hP] at hr1
 have hr2:=jM hr1 (j*3+2) v
 rw[<- gN bJ 3 (fun _=>rfl) oY ⟨(dC S.L j).lv,(dC S.L j).va,v⟩ 2 v (by omega) S.L j (by omega) rfl] at hr2
 have hsz:=Nat.le_trans hk.size gY.size
 refine⟨h.turn hj (l:=⟨(dC S.L j).lv,(dC S.L j).va,v⟩) (s:=KM.dV (KM.au k.aj j) es) (lab':=Ej S j v) ((hk.mono (D1:=fun b=>S.lab b=.aA j∨S.lab b=.aj∨S.lab b=.aD j) (fun b _ e=>.inl e)).trans gY (fun b _ e=>.inr (.inl (by rw[e];exact hpl)))) (by rw[hP];exact hr2) ⟨hs.live,?_,?_⟩ ?_ (fun b c e h1 _ h3=>hlab b c e h1 h3) (fun b hb=>hlab b _ (h.lA j hj b hb) (by simp) (by simp)) (fun b hb=>if_pos hb),fun hold=>⟨?_,?_,rfl,rfl,rfl,rfl⟩⟩
 · exact gY.row (hk.row hs.aD (fun b hb e=>by rw[h.lA j hj b hb] at e;simp at e)) (fun b hb e=>by have:=h.lA j hj b hb;rw[e,hpl] at this;simp at this)
 · exact gY.row hr (fun b hb e=>by
    subst e
    rcases hat b hb with y | y <;> · rw[hpl] at y;simp at y)
 · intro b hb
   unfold Ej at hb
   by_cases c:v.ownBlock=some b
   · exact⟨(hrl b c).1,Nat.lt_of_lt_of_le (hrl b c).2 gY.size⟩
   · rw[if_neg c] at hb
     exact⟨(h.kP b hb).1,Nat.lt_of_lt_of_le (h.kP b hb).2 hsz⟩
 · exact(hk.mono (fun b _ e=>by rw[e];simp)).trans gY (fun b _ e=>by rw[e,hpl];simp)
 · intro b hb hno
   show Ej S j v b=.no
   unfold Ej
   rw[if_neg,hno]
   intro x
   have:=hold b hb x
   rw[hno] at this
   simp at this
end KO
namespace KM
open Go.RowKit
theorem jV {α:Type} (d:α):∀(l m:List α),l.length=m.length->(∀i,i<l.length->l.getD i d=m.getD i d)->l=m
 | [],[],_,_=>rfl
 | [],b::r,h,_=>by simp at h
 | a::r,[],h,_=>by simp at h
 | a::r,b::t,h,g=>by
  have h0:a=b:=g 0 (Nat.zero_lt_succ _)
  have h1:=jV d r t (by simpa using h) (fun i hi=>g (i+1) (Nat.succ_lt_succ hi))
  rw[h0,h1]
def E0 (f:Fr) (d:Int):Fr:=if f.refs+d=0 then kY else ⟨f.data,f.refs+d,f.b9,f.seen⟩
def EZ (f:Sl) (d:Int):Sl:=if f.refs+d=0 then sS else ⟨f.data,f.refs+d⟩
def gD (k:Kn) (e:En) (d:Int):Kn:=if e.kind=1 then { k with frames:=k.frames.set e.loc.toNat (E0 (aI k.frames e.loc.toNat) d) } else { k with slots:=k.slots.set e.loc.toNat (EZ (bG k.slots e.loc.toNat) d) }
theorem vY (k:Kn) (e:En):gD k e (-1)=cN k e:=by
 have h1:∀f:Fr,E0 f (-1)=lq f:=fun f=>by unfold E0 lq;rw[<- Int.sub_eq_add_neg]
 have h2:∀f:Sl,EZ f (-1)=n7 f:=fun f=>by unfold EZ n7;rw[<- Int.sub_eq_add_neg]
 unfold gD cN
 rw[h1,h2]
theorem tv (k:Kn) (e:En):(cN k e).aj=k.aj:=by unfold cN;split <;> rfl
theorem GL (k:Kn) (e:En):(cN k e).ak=k.ak/\(cN k e).hand=k.hand:=by unfold cN;split <;> exact⟨rfl,rfl⟩
theorem Kl (k:Kn) (e:En):(cN k e).frames.length=k.frames.length/\(cN k e).slots.length=k.slots.length:=by
 unfold cN
 split
 · exact⟨List.length_set,rfl⟩
 · exact⟨rfl,List.length_set⟩
def kZ (k:Kn) (j:Nat) (es:List En):Kn:={ k with aj:=k.aj.set j (dV (au k.aj j) es) }
theorem GJ (k:Kn) (j:Nat) (es:List En) (e:En):cN (kZ k j es) e=kZ (cN k e) j es:=by unfold cN kZ;split <;> rfl
theorem J1 (k:Kn) (j:Nat) (hj:j<k.aj.length) (es fs:List En):kZ (kZ k j es) j fs=kZ k j fs:=by
 unfold kZ
 simp only[List.set_set]
 rw[gL _ _ _ _ hj,if_pos rfl]
 rfl
theorem J2 (k:Kn) (j:Nat) (hj:j<k.aj.length):kZ k j (au k.aj j).aA=k:=by
 unfold kZ
 have:k.aj.set j (dV (au k.aj j) (au k.aj j).aA)=k.aj:=jV Fw _ _ List.length_set (fun i hi=>by
  have:=gL k.aj j i (dV (au k.aj j) (au k.aj j).aA) hj
  unfold au at this ⊢
  rw[this]
  by_cases c:j=i
  · rw[if_pos c,c];rfl
  · rw[if_neg c])
 rw[this]
theorem QH (k:Kn) (j:Nat) (hj:j<k.aj.length) (es:List En):(au (kZ k j es).aj j).aA=es:=by
 show(au (k.aj.set j _) j).aA=es
 rw[gL _ _ _ _ hj,if_pos rfl]
 rfl
def dg (k:Kn) (es:List En) (p:En->Bool):Nat->Kn
 | 0=>k
 | n+1=>if p (aN es n) then cN (dg k es p n) (aN es n) else dg k es p n
def jC (es:List En) (p:En->Bool):List En:=es.filter fun e=>!p e
def gv (k:Kn) (j:Nat) (p:En->Bool):Kn:=kZ (dg k (au k.aj j).aA p (au k.aj j).aA.length) j (jC (au k.aj j).aA p)
theorem gJ (k:Kn) (es:List En) (p:En->Bool):∀n,(dg k es p n).aj=k.aj
 | 0=>rfl
 | n+1=>by
  unfold dg
  split
  · rw[tv,gJ k es p n]
  · exact gJ k es p n
theorem y8 (k:Kn) (es:List En) (p:En->Bool):∀n,(dg k es p n).ak=k.ak/\(dg k es p n).hand=k.hand/\(dg k es p n).frames.length=k.frames.length/\(dg k es p n).slots.length=k.slots.length
 | 0=>⟨rfl,rfl,rfl,rfl⟩
 | n+1=>by
  have ih:=y8 k es p n
  unfold dg
  split
  · have a:=GL (dg k es p n) (aN es n)
    have b:=Kl (dg k es p n) (aN es n)
    exact⟨a.1.trans ih.1,a.2.trans ih.2.1,b.1.trans ih.2.2.1,b.2.trans ih.2.2.2⟩
  · exact ih
theorem drop_cons (es:List En) (n:Nat) (h:n<es.length):es.drop n=aN es n::es.drop (n+1):=by
 rw[List.drop_eq_getElem_cons h]
 unfold aN
 rw[List.getD_eq_getElem?_getD,List.getElem?_eq_getElem h]
 rfl
theorem KF (es:List En) (p:En->Bool) (n:Nat) (h:n<es.length):jC (es.take (n+1)) p=jC (es.take n) p++(if p (aN es n) then [] else [aN es n]):=by
 unfold jC
 rw[take_succ es n h,List.filter_append]
 congr 1
 cases g:p (aN es n) <;> simp[g]
theorem pV {k:Kn} (h:aU k) {j:Nat} (hj:j<k.aj.length) (p:En->Bool):∀n,n<=(au k.aj j).aA.length->aU (kZ (dg k (au k.aj j).aA p n) j (jC ((au k.aj j).aA.take n) p++(au k.aj j).aA.drop n))
 | 0,_=>by
  have:jC ((au k.aj j).aA.take 0) p++(au k.aj j).aA.drop 0=(au k.aj j).aA:=rfl
  rw[this]
  show aU (kZ k j (au k.aj j).aA)
  rw[J2 k j hj];exact h
 | n+1,hn=>by
  have ih:=pV h hj p n (by omega)
  have hlt:n<(au k.aj j).aA.length:=by omega
  have Bb:j<(dg k (au k.aj j).aA p n).aj.length:=by rw[gJ];exact hj
  rw[drop_cons _ n hlt] at ih
  rw[KF _ p n hlt]
  unfold dg
  cases g:p (aN (au k.aj j).aA n) with
  | true =>
   rw[if_pos rfl,if_pos rfl,List.append_nil]
   have G8:j<(kZ (dg k (au k.aj j).aA p n) j (jC ((au k.aj j).aA.take n) p++aN (au k.aj j).aA n::(au k.aj j).aA.drop (n+1))).aj.length:=by
    show j<List.length (List.set _ _ _)
    rw[List.length_set];exact Bb
   have:=Lx ih G8 (QH _ j Bb _)
   have e:y9 (kZ (dg k (au k.aj j).aA p n) j (jC ((au k.aj j).aA.take n) p++aN (au k.aj j).aA n::(au k.aj j).aA.drop (n+1))) j (jC ((au k.aj j).aA.take n) p++(au k.aj j).aA.drop (n+1)) (aN (au k.aj j).aA n)=kZ (cN (dg k (au k.aj j).aA p n) (aN (au k.aj j).aA n)) j (jC ((au k.aj j).aA.take n) p++(au k.aj j).aA.drop (n+1)):=by
    show cN (kZ (kZ _ j _) j _) _=_
    rw[J1 _ j Bb,GJ]
   rw[e] at this
   exact this
  | false =>
   rw[if_neg (by simp),if_neg (by simp),List.append_assoc]
   exact ih
theorem CQ {k:Kn} (h:aU k) {j:Nat} (hj:j<k.aj.length) (p:En->Bool):aU (gv k j p):=by
 have:=pV h hj p _ (Nat.le_refl _)
 rw[List.take_length,List.drop_length,List.append_nil] at this
 exact this
theorem ry (k:Kn) (j:Nat) (p:En->Bool):(gv k j p).aj=k.aj.set j (dV (au k.aj j) (jC (au k.aj j).aA p)):=by
 show((dg k (au k.aj j).aA p _).aj).set j _=_
 rw[gJ]
theorem EH (k:Kn) (j:Nat) (p:En->Bool):(gv k j p).ak=k.ak/\(gv k j p).hand=k.hand/\(gv k j p).frames.length=k.frames.length/\(gv k j p).slots.length=k.slots.length:=y8 k _ p _
theorem CX (k:Kn) (i:Nat) (es:List En):∀n,∃x,(dg k es (jc (i:Int)) n).frames=k.frames.set i x/\(dg k es (jc (i:Int)) n).slots=k.slots
 | 0=>⟨aI k.frames i,by
   show k.frames=_
   refine(jV kY _ _ List.length_set (fun m hm=>?_)).symm
   rw[List.length_set] at hm
   by_cases c:i=m
   · subst c;rw[bK _ _ _ _ hm];rfl
   · rw[getD_set_ne _ _ _ _ _ c],rfl⟩
 | n+1=>by
  obtain⟨x,h1,h2⟩:=CX k i es n
  unfold dg
  split
  · next g =>
    have g:=iC.1 g
    unfold cN
    rw[if_pos g.1,g.2,Int.toNat_natCast]
    refine⟨lq (aI (k.frames.set i x) i),?_,h2⟩
    show(dg k es (jc (i:Int)) n).frames.set i _=_
    rw[h1,List.set_set]
  · exact⟨x,h1,h2⟩
def iP (k:Kn) (i:Nat):Nat->Kn
 | 0=>k
 | n+1=>gv (iP k i n) n (jc (i:Int))
theorem qi {k:Kn} (h:aU k) (i:Nat):∀n,n<=k.aj.length->aU (iP k i n)/\(iP k i n).ak=k.ak/\(iP k i n).hand=k.hand/\(∃x,(iP k i n).frames=k.frames.set i x)/\(iP k i n).slots=k.slots/\(iP k i n).aj.length=k.aj.length/\∀m,m<k.aj.length->au (iP k i n).aj m=if m<n then nX i (au k.aj m) else au k.aj m
 | 0,_=>by
  obtain⟨x,hx,_⟩:=CX k i [] 0
  exact⟨h,rfl,rfl,⟨x,hx⟩,rfl,rfl,fun m _=>by rw[if_neg (by omega)];rfl⟩
 | n+1,hn=>by
  obtain⟨r,h1,h2,⟨x,h3⟩,h4,h5,h6⟩:=qi h i n (by omega)
  have hj:n<(iP k i n).aj.length:=by omega
  have fr:=EH (iP k i n) n (jc (i:Int))
  obtain⟨y,c1,c2⟩:=CX (iP k i n) i (au (iP k i n).aj n).aA (au (iP k i n).aj n).aA.length
  refine⟨CQ r hj _,fr.1.trans h1,fr.2.1.trans h2,⟨y,?_⟩,?_,?_,fun m hm=>?_⟩
  · show(dg _ _ _ _).frames=_
    rw[c1,h3,List.set_set]
  · show(dg _ _ _ _).slots=_
    rw[c2,h4]
  · show(gv _ _ _).aj.length=_
    rw[ry,List.length_set];exact h5
  · show au (gv _ _ _).aj m=_
    rw[ry,gL _ _ _ _ hj]
    by_cases c:n=m
    · subst c
      rw[if_pos rfl,if_pos (by omega),h6 n hm,if_neg (by omega)]
      rfl
    · rw[if_neg c,h6 m hm]
      by_cases d:m<n
      · rw[if_pos d,if_pos (by omega)]
      · rw[if_neg d,if_neg (by omega)]
theorem Nh {k:Kn} (h:aU k) {i:Nat} (hi:i<k.frames.length):iP k i k.aj.length=rA k i:=by
 obtain⟨r,h1,h2,⟨x,h3⟩,h4,h5,h6⟩:=qi h i k.aj.length (Nat.le_refl _)
 have hs:(iP k i k.aj.length).aj=k.aj.map (nX i):=by
  refine jV Fw _ _ (by rw[h5,List.length_map]) (fun m hm=>?_)
  have hm':m<k.aj.length:=by omega
  have:=h6 m hm'
  rw[if_pos hm'] at this
  have g:=jL (nX i) k.aj m hm'
  unfold au at this g
  rw[this,g]
 have hf:=r.nz i (by rw[h3,List.length_set];exact hi)
 have hz:names (iP k i k.aj.length).aj 1 i=[]:=by
  rw[hs]
  exact ju _ _ _ _ (fun s _=>ow s.aD i s.aA)
 have hx:x=kY:=by
  have:=hf.zero hz
  rw[h3] at this
  unfold aI at this
  rw[bK _ _ _ _ hi] at this
  exact this
 have:∀a b:Kn,a.ak=b.ak->a.frames=b.frames->a.slots=b.slots->a.aj=b.aj->a.hand=b.hand->a=b:=fun a b e1 e2 e3 e4 e5=>by
  cases a;cases b;simp_all
 exact this _ _ h1 (by rw[h3,hx];rfl) h4 hs h2
theorem Nj {k:Kn} (h:aU k) {i:Nat} (hi:i<k.frames.length) {j:Nat} (hj:j<k.aj.length) {a b:Nat} (ha:a<(au k.aj j).aA.length) (hb:b<(au k.aj j).aA.length) (h1:jc (i:Int) (aN (au k.aj j).aA a)=true) (h2:jc (i:Int) (aN (au k.aj j).aA b)=true):a=b:=by
 have kj:=fO hj (dX (d:=jI) ha)
 have hm2:=fO hj (dX (d:=jI) hb)
 have g1:=iC.1 h1
 have g2:=iC.1 h2
 unfold aN at g1 g2
 rw[g1.1,g1.2] at kj
 rw[g2.1,g2.2] at hm2
 have e:=(h.nz i hi).one _ kj _ hm2
 injection e with e _
 have hr:=(h.sp hj).eN
 have hp:=List.pairwise_iff_getElem.1 hr
 rcases Nat.lt_trichotomy a b with c | c | c
 · have:=hp a b (by simpa using ha) (by simpa using hb) c
   simp only[List.getElem_map] at this
   rw[List.getD_eq_getElem?_getD,List.getElem?_eq_getElem ha,List.getD_eq_getElem?_getD,List.getElem?_eq_getElem hb] at e
   simp only[Option.getD_some] at e
   omega
 · exact c
 · have:=hp b a (by simpa using hb) (by simpa using ha) c
   simp only[List.getElem_map] at this
   rw[List.getD_eq_getElem?_getD,List.getElem?_eq_getElem ha,List.getD_eq_getElem?_getD,List.getElem?_eq_getElem hb] at e
   simp only[Option.getD_some] at e
   omega
theorem Ga (i s:Int) (es:List En) (n:Nat) (hn:n<es.length) (h:jc i (aN es n)=true) (ho:∀m,m<es.length->jc i (aN es m)=true->m=n):es.set n ⟨(aN es n).page,2,s⟩=gw i s es:=by
 refine jV jI _ _ (by unfold gw;rw[List.length_set,List.length_map]) (fun m hm=>?_)
 rw[List.length_set] at hm
 unfold gw
 rw[getD_map _ jI jI es m hm]
 by_cases c:n=m
 · subst c
   rw[bK _ _ _ _ hm]
   unfold aN at h ⊢
   rw[if_pos h]
 · rw[getD_set_ne _ _ _ _ _ c]
   have:jc i (es.getD m jI)=false:=by
    cases g:jc i (es.getD m jI) with
    | false=>rfl
    | true=>exact absurd (ho m hm g).symm c
   rw[this]
   rfl
theorem JQ (i s:Int) (es:List En) (h:∀m,m<es.length->jc i (aN es m)=false):gw i s es=es:=by
 refine jV jI _ _ (by unfold gw;rw[List.length_map]) (fun m hm=>?_)
 have hm':m<es.length:=by unfold gw at hm;rw[List.length_map] at hm;exact hm
 unfold gw
 rw[getD_map _ jI jI es m hm']
 have:=h m hm'
 unfold aN at this
 rw[this]
 rfl
def goes (l:List AM.Ar) (e:En):Bool:=!(AM.aT l e.page).2
def cQ (k:Kn) (es:List En):Nat->Kn
 | 0=>k
 | n+1=>gD (cQ k es n) (aN es n) 1
def ru (k:Kn) (j:Nat):Kn:={ cQ k (au k.aj j).aA (au k.aj j).aA.length with aj:=(cQ k (au k.aj j).aA (au k.aj j).aA.length).aj++[au k.aj j] }
def vg (f:Fr) (c:Nat):Fr:=⟨f.data,f.refs+c,f.b9,f.seen⟩
def ve (f:Sl) (c:Nat):Sl:=⟨f.data,f.refs+c⟩
theorem GF (f:Fr):vg f 0=f:=by unfold vg;simp
theorem GC (f:Sl):ve f 0=f:=by unfold ve;simp
theorem pN {k:Kn} (h:aU k) {j:Nat} (hj:j<k.aj.length):∀m,m<=(au k.aj j).aA.length->(cQ k (au k.aj j).aA m).ak=k.ak/\(cQ k (au k.aj j).aA m).hand=k.hand/\(cQ k (au k.aj j).aA m).aj=k.aj/\(cQ k (au k.aj j).aA m).frames.length=k.frames.length/\(cQ k (au k.aj j).aA m).slots.length=k.slots.length /\
  (∀n,n<k.frames.length->aI (cQ k (au k.aj j).aA m).frames n=vg (aI k.frames n) (nm (au k.aj j).aD 1 n ((au k.aj j).aA.take m)).length) /\
  (∀n,n<k.slots.length->bG (cQ k (au k.aj j).aA m).slots n=ve (bG k.slots n) (nm (au k.aj j).aD 2 n ((au k.aj j).aA.take m)).length)
 | 0,_=>⟨rfl,rfl,rfl,rfl,rfl,fun n _=>(GF _).symm,fun n _=>(GC _).symm⟩
 | m+1,hm=>by
  obtain⟨h1,h2,h3,h4,h5,h6,h7⟩:=pN h hj m (by omega)
  have hlt:m<(au k.aj j).aA.length:=by omega
  have hin:aN (au k.aj j).aA m∈(au k.aj j).aA:=dX hlt
  rw[take_succ _ m hlt]
  obtain⟨e,he⟩:=ex (aN (au k.aj j).aA m)
  obtain⟨q,hq⟩:=ex (cQ k (au k.aj j).aA m)
  rw[<- he] at hin ⊢
  have hs:cQ k (au k.aj j).aA (m+1)=gD q e 1:=by rw[hq,he];rfl
  rw[<- hq] at h1 h2 h3 h4 h5 h6 h7
  rw[hs]
  have ac7:∀(f:Fr) (a b:Nat),vg (vg f a) b=vg f (a+b):=fun f a b=>by unfold vg;congr 1;show f.refs+_+_=_;omega
  have ac6:∀(f:Sl) (a b:Nat),ve (ve f a) b=ve f (a+b):=fun f a b=>by unfold ve;congr 1;show f.refs+_+_=_;omega
  rcases fV h hj hin with b | b
  · have hc:gD q e 1={ q with frames:=q.frames.set e.loc.toNat (E0 (aI q.frames e.loc.toNat) 1) }:=by unfold gD;rw[if_pos b.1]
    rw[hc]
    refine⟨h1,h2,h3,by show(q.frames.set _ _).length=_;rw[List.length_set];exact h4,h5,fun n hn=>?_,fun n hn=>?_⟩
    · show aI (q.frames.set _ _) n=_
      rw[eU _ _ _ _ (by rw[h4];exact b.2.2),fJ,List.length_append]
      by_cases c:e.loc.toNat=n
      · rw[if_pos c,ld _ (show e.kind=1/\e.loc=(n:Int) by omega),<- ac7,<- h6 n hn,c]
        have hr:0<=(aI q.frames n).refs:=by
         rw[h6 n hn]
         have:=(h.nz n hn).refs
         show 0<=(aI k.frames n).refs+_
         omega
        unfold E0
        rw[if_neg (by omega)]
        rfl
      · rw[if_neg c,jS _ (show ¬(e.kind=1/\e.loc=(n:Int)) by omega),h6 n hn]
        rfl
    · show bG q.slots n=_
      rw[fJ,jS _ (show ¬(e.kind=2/\e.loc=(n:Int)) by omega),h7 n hn,List.append_nil]
  · have hc:gD q e 1={ q with slots:=q.slots.set e.loc.toNat (EZ (bG q.slots e.loc.toNat) 1) }:=by unfold gD;rw[if_neg (by omega)]
    rw[hc]
    refine⟨h1,h2,h3,h4,by show(q.slots.set _ _).length=_;rw[List.length_set];exact h5,fun n hn=>?_,fun n hn=>?_⟩
    · show aI q.frames n=_
      rw[fJ,jS _ (show ¬(e.kind=1/\e.loc=(n:Int)) by omega),h6 n hn,List.append_nil]
    · show bG (q.slots.set _ _) n=_
      rw[nO _ _ _ _ (by rw[h5];exact b.2.2),fJ,List.length_append]
      by_cases c:e.loc.toNat=n
      · rw[if_pos c,ld _ (show e.kind=2/\e.loc=(n:Int) by omega),<- ac6,<- h7 n hn,c]
        have hr:0<=(bG q.slots n).refs:=by
         rw[h7 n hn]
         have:=(h.slt n hn).refs
         show 0<=(bG k.slots n).refs+_
         omega
        unfold EZ
        rw[if_neg (by omega)]
        rfl
      · rw[if_neg c,jS _ (show ¬(e.kind=2/\e.loc=(n:Int)) by omega),h7 n hn]
        rfl
structure aez (k:Kn) (j:Nat) (f:Kn):Prop where
 ak:f.ak=k.ak
 hand:f.hand=k.hand
 aj:f.aj=k.aj++[au k.aj j]
 nf:f.frames.length=k.frames.length
 ns:f.slots.length=k.slots.length
 nz:∀n,n<k.frames.length->aI f.frames n=vg (aI k.frames n) (fq (au k.aj j) 1 n).length
 slt:∀n,n<k.slots.length->bG f.slots n=ve (bG k.slots n) (fq (au k.aj j) 2 n).length
end KM
end Go.Proofs.YtpgifpeohlllfaaGreat
