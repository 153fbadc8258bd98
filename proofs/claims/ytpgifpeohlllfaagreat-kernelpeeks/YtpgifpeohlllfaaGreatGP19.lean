import Derived.Test.YtpgifpeohlllfaaGreatGP00
import Derived.Test.YtpgifpeohlllfaaGreatGP18
import Derived.Test.YtpgifpeohlllfaaGreatGP07
import Derived.Test.YtpgifpeohlllfaaGreatGP10
set_option maxHeartbeats 20000000
set_option linter.unusedVariables false
set_option maxRecDepth 100000
set_option linter.unusedSimpArgs false
namespace Go.Proofs.YtpgifpeohlllfaaGreat
namespace KO
open Go.RowKit GK
open FW (ai aC)
open KW (bE bD aI aU fe cO aH)
open KS (Lc bO oD dm blk cT)
def jx (s:LM.Sh):List Value:=[I s.page,.string s.data,.slice s.ao s.bq.length s.cap]
def lT (f:LM.Fx):List Value:=[I f.off,.string f.bytes]
def vX (s:LM.Sh):Value:=.slice s.ao s.bq.length s.cap
inductive Lb where
 | no | head | frames | slots | aj | ak
 | aA (i:Nat)
 | au (i:Nat)
 | bq (i:Nat)
structure St where
 lab:Nat->Lb
 vS:Value
 vF:Value
 vL:Value
 vP:Value
 L:List Lc
structure Kr (lo:Nat) (w:World) (S:St) (k:KM.Kn):Prop where
 mW:∀b,S.lab b≠.no->lo<=b/\b<w.heap.size
 ak:w.ownsRow lo 50 3 S.vS k.ak.length (k.ak.flatMap jx)
 bq:∀i,i<k.ak.length->w.ownsRow lo 52 2 (vX (LM.aY k.ak i)) (LM.aY k.ak i).bq.length ((LM.aY k.ak i).bq.flatMap lT)
 frames:w.ownsRow lo 40 4 S.vF k.frames.length (k.frames.flatMap bE)
 slots:w.ownsRow lo 86 2 S.vL k.slots.length (k.slots.flatMap bD)
 aj:w.ownsRow lo 43 3 S.vP S.L.length (S.L.flatMap bO)
 len:S.L.length=k.aj.length
 each:∀i,i<k.aj.length->cT lo w (dm S.L i) (KM.aq k.aj i)
 lS:∀b,blk S.vS b->S.lab b=.ak
 lX:∀i,i<k.ak.length->∀b,blk (vX (LM.aY k.ak i)) b->S.lab b=.bq i
 lF:∀b,blk S.vF b->S.lab b=.frames
 lL:∀b,blk S.vL b->S.lab b=.slots
 lP:∀b,blk S.vP b->S.lab b=.aj
 lA:∀i,i<k.aj.length->∀b,blk (dm S.L i).va b->S.lab b=.aA i
 lE:∀i,i<k.aj.length->∀b,blk (dm S.L i).vp b->S.lab b=.au i
structure Km (lo mb:Nat) (tt:TypeId) (X:List Value) (w:World) (S:St) (k:KM.Kn):Prop extends Kr lo w S k where
 head:w.heap[mb]?=some (.cells ([S.vS,S.vF,S.vL,S.vP,I k.hand]++X).toArray tt (0,0))
 lH:S.lab mb=.head
structure Ch (S:St) (w:World) (S':St) (w':World):Prop where
 kp:Kp (fun b=>S.lab b≠.no) w w'
 no:∀b,b<w.heap.size->S.lab b=.no->S'.lab b=.no
 eS:S'.vS=S.vS
 eF:S'.vF=S.vF
 eL:S'.vL=S.vL
 eP:S'.vP=S.vP
theorem Ch.refl (S:St) (w:World):Ch S w S w:=⟨Kp.refl _ _,fun _ _ h=>h,rfl,rfl,rfl,rfl⟩
theorem Ch.trans {S S1 S2:St} {w w1 w2:World} (h:Ch S w S1 w1) (g:Ch S1 w1 S2 w2):Ch S w S2 w2 :=
 ⟨⟨g.kp.os.trans h.kp.os,g.kp.tape.trans h.kp.tape,g.kp.output.trans h.kp.output,Nat.le_trans h.kp.size g.kp.size,fun b hb hn=>by
  have hb1:=Nat.lt_of_lt_of_le hb h.kp.size
  have hn0:S.lab b=.no:=Classical.not_not.1 hn
  have NM:=h.no b hb hn0
  exact(g.kp.block b hb1 (fun x=>x NM)).trans (h.kp.block b hb hn)⟩,fun b hb hn=>g.no b (Nat.lt_of_lt_of_le hb h.kp.size) (h.no b hb hn),g.eS.trans h.eS,g.eF.trans h.eF,g.eL.trans h.eL,g.eP.trans h.eP⟩
theorem Ch.below {S:St} {w w':World} (h:Below w.heap.size w w'):Ch S w S w':=⟨Kp.aW h,fun _ _ h=>h,rfl,rfl,rfl,rfl⟩
theorem Ch.set {S:St} {w:World} {g j:Nat} {u:Value} (h:S.lab g≠.no):Ch S w S (w.setCell (Ad g j) u):=⟨Kp.set _ _ _ _ h,fun _ _ h=>h,rfl,rfl,rfl,rfl⟩
theorem Ch.keep {S S':St} {w w':World} {b:Nat} {o:Obj} (h:Ch S w S' w') (hb:w.heap[b]?=some o) (hn:S.lab b=.no):w'.heap[b]?=some o:=h.kp.keep hb (fun x=>x hn)
theorem Kr.kp {lo:Nat} {w w':World} {S:St} {k:KM.Kn} {E:Nat->Prop} (h:Kr lo w S k) (hk:Kp E w w') (he:∀b,S.lab b≠.no->¬E b):Kr lo w' S k:=by
 have z:∀{b:Nat} {c:Lb},S.lab b=c->c≠.no->¬E b:=fun e hc=>he _ (by rw[e];exact hc)
 exact⟨fun b hb=>⟨(h.mW b hb).1,Nat.lt_of_lt_of_le (h.mW b hb).2 hk.size⟩,hk.row h.ak (fun b hb=>z (h.lS b hb) (by simp)),fun i hi=>hk.row (h.bq i hi) (fun b hb=>z (h.lX i hi b hb) (by simp)),hk.row h.frames (fun b hb=>z (h.lF b hb) (by simp)),hk.row h.slots (fun b hb=>z (h.lL b hb) (by simp)),hk.row h.aj (fun b hb=>z (h.lP b hb) (by simp)),h.len,fun i hi=>(h.each i hi).kp hk (fun b hb=>z (h.lA i hi b hb) (by simp)) (fun b hb=>z (h.lE i hi b hb) (by simp)),h.lS,h.lX,h.lF,h.lL,h.lP,h.lA,h.lE⟩
theorem Kr.below {lo:Nat} {w w':World} {S:St} {k:KM.Kn} (h:Kr lo w S k) (hb:Below w.heap.size w w'):Kr lo w' S k:=h.kp (Kp.aW (D:=fun _=>False) hb) (fun _ _ g=>g)
theorem Kr.mono {lo lo':Nat} {w:World} {S:St} {k:KM.Kn} (h:Kr lo w S k) (hl:lo'<=lo):Kr lo' w S k:=by
 have z:∀{e:TypeId} {n m:Nat} {v:Value} {xs:List Value},w.ownsRow lo e n v m xs->w.ownsRow lo' e n v m xs:=fun hr=>km hr (fun g hg=>Nat.le_trans hl (hr.lt g hg).1)
 exact⟨fun b hb=>⟨Nat.le_trans hl (h.mW b hb).1,(h.mW b hb).2⟩,z h.ak,fun i hi=>z (h.bq i hi),z h.frames,z h.slots,z h.aj,h.len,fun i hi=>(h.each i hi).mono hl,h.lS,h.lX,h.lF,h.lL,h.lP,h.lA,h.lE⟩
theorem Km.below {lo mb:Nat} {tt:TypeId} {X:List Value} {w w':World} {S:St} {k:KM.Kn} (h:Km lo mb tt X w S k) (hb:Below w.heap.size w w'):Km lo mb tt X w' S k:=⟨h.toKr.below hb,B.below h.head hb (B.isLt h.head),h.lH⟩
theorem Km.kp {lo mb:Nat} {tt:TypeId} {X:List Value} {w w':World} {S:St} {k:KM.Kn} {E:Nat->Prop} (h:Km lo mb tt X w S k) (hk:Kp E w w') (he:∀b,S.lab b≠.no->¬E b):Km lo mb tt X w' S k:=⟨h.toKr.kp hk he,hk.keep h.head (he mb (by rw[h.lH];simp)),h.lH⟩
theorem Kr.new {lo:Nat} {w:World} {S:St} {k:KM.Kn} (h:Kr lo w S k) {b:Nat} (hb:w.heap.size<=b):S.lab b=.no:=Classical.not_not.1 fun x=>by have:=(h.mW b x).2;omega
theorem jm {α:Type} {w:World} {base:Nat} {e:TypeId} {k:Nat} (f:α->List Value) (hf:∀x,(f x).length=k) (d:α) {l:List α} {v:Value} (hr:w.ownsRow base e k v l.length (l.flatMap f)):∃ao cap,v=.slice ao l.length cap/\l.length<=cap/\aU f k d w ao l:=by
 obtain⟨ao,cap,rfl,hle,hg⟩:=aR hr
 refine⟨ao,cap,rfl,hle,fun hl=>?_⟩
 obtain⟨g,rfl,hg1,hg2⟩:=hg hl
 exact⟨g,0,rfl,hg2,fun i hi j hj=>by rw[Nat.zero_add];exact iu f hf d hr i j hi hj⟩
theorem Kr.ZY {lo:Nat} {w:World} {S:St} {k:KM.Kn} (h:Kr lo w S k):∃ao cap,S.vS=.slice ao k.ak.length cap/\k.ak.length<=cap/\LM.jg w ao k.ak:=by
 obtain⟨ao,cap,e,hc,hr⟩:=jm jx (fun _=>rfl) LM.JV h.ak
 refine⟨ao,cap,e,hc,fun hl=>?_⟩
 obtain⟨b,off,e1,hb,hi⟩:=hr hl
 refine⟨b,off,e1,hb,fun i hlt=>⟨?_,hi i hlt 1 (by omega),hi i hlt 2 (by omega),fun hx=>?_⟩⟩
 · have:=hi i hlt 0 (by omega)
   rw[Nat.add_zero] at this
   exact this
 · obtain⟨ax,cx,ex,_,hrx⟩:=jm lT (fun _=>rfl) LM.Wj (h.bq i hlt)
   injection ex with e1 e2 e3
   rw[e1]
   obtain⟨b2,CG,g1,g2,g3⟩:=hrx hx
   refine⟨b2,CG,g1,g2,fun n hn=>⟨?_,g3 n hn 1 (by omega)⟩⟩
   have:=g3 n hn 0 (by omega)
   rw[Nat.add_zero] at this
   exact this
theorem Kr.ZX {lo:Nat} {w:World} {S:St} {k:KM.Kn} (h:Kr lo w S k):∃ao cap,S.vP=.slice ao k.aj.length cap/\k.aj.length<=cap/\KW.ku w ao k.aj:=by
 obtain⟨ao,cap,e,hc,hr⟩:=jm bO (fun _=>rfl) oD h.aj
 rw[h.len] at e hc
 refine⟨ao,cap,e,hc,fun hl=>?_⟩
 obtain⟨b,off,e1,hb,hi⟩:=hr (by rw[h.len];exact hl)
 refine⟨b,off,e1,hb,fun i hlt=>?_⟩
 have hlt':i<S.L.length:=by rw[h.len];exact hlt
 have hs:=h.each i hlt
 obtain⟨ap,cp,hvp,QZ,hgp⟩:=jm aI (fun _=>rfl) KM.jz hs.aB
 have c0:=hi i hlt' 0 (by omega)
 have c1:=hi i hlt' 1 (by omega)
 have c2:=hi i hlt' 2 (by omega)
 rw[Nat.add_zero] at c0
 refine⟨(dm S.L i).va,ap,cp,?_,c1,?_,hs.aA.has,hgp,QZ⟩
 · rw[<- hs.live];exact c0
 · rw[<- hvp];exact c2
structure Tw (S:St) (k:KM.Kn) (a:fe):Prop where
 eS:S.vS=.slice a.aS k.ak.length a.cS
 eF:S.vF=.slice a.aF k.frames.length a.cF
 eL:S.vL=.slice a.aL k.slots.length a.cL
 eP:S.vP=.slice a.aP k.aj.length a.cP
theorem Kr.has {lo:Nat} {w:World} {S:St} {k:KM.Kn} (h:Kr lo w S k):∃a,Tw S k a/\cO w a k:=by
 obtain⟨aS,cS,eS,_,hS⟩:=h.ZY
 obtain⟨aP,cP,eP,_,hP⟩:=h.ZX
 obtain⟨aF,cF,eF,_,hF⟩:=jm bE (fun _=>rfl) KM.l9 h.frames
 obtain⟨aL,cL,eL,_,hL⟩:=jm bD (fun _=>rfl) KM.xY h.slots
 exact⟨⟨aS,cS,aF,cF,aL,cL,aP,cP⟩,⟨eS,eF,eL,eP⟩,⟨hS,hF,hL,hP⟩⟩
theorem Kr.sP {lo:Nat} {w:World} {S:St} {k:KM.Kn} (h:Kr lo w S k) {g n cap:Nat} (hv:S.vF=.slice (some (Ad g 0)) n cap) {i j:Nat} (hi:i<k.frames.length) (hj:j<4) {f:KM.Fr} {u:Value} (e:bE f=(bE (KM.aD k.frames i)).set j u) :
  Kr lo (w.setCell (Ad g (i*4+j)) u) S { k with frames:=k.frames.set i f }:=by
 have hk:Kp (fun b=>b=g) w (w.setCell (Ad g (i*4+j)) u):=Kp.set _ _ _ _ rfl
 have hg:S.lab g=.frames:=h.lF g (by rw[hv];rfl)
 have z:∀{b:Nat} {c:Lb},S.lab b=c->c≠.frames->¬b=g:=fun e hc x=>hc (by rw[<- e,x];exact hg)
 have hn:n=k.frames.length:=by
  obtain⟨ao,c,e,_⟩:=aR h.frames
  rw[hv] at e
  injection e
 subst hn
 have hr:=h.frames
 rw[hv] at hr
 refine⟨fun b hb=>⟨(h.mW b hb).1,Nat.lt_of_lt_of_le (h.mW b hb).2 hk.size⟩,hk.row h.ak (fun b hb=>z (h.lS b hb) (by simp)),fun i hi=>hk.row (h.bq i hi) (fun b hb=>z (h.lX i hi b hb) (by simp)),?_,hk.row h.slots (fun b hb=>z (h.lL b hb) (by simp)),hk.row h.aj (fun b hb=>z (h.lP b hb) (by simp)),h.len,fun i hi=>(h.each i hi).kp hk (fun b hb=>z (h.lA i hi b hb) (by simp)) (fun b hb=>z (h.lE i hi b hb) (by simp)),h.lS,h.lX,h.lF,h.lL,h.lP,h.lA,h.lE⟩
 have:=jl hr (i*4+j) u
 show World.ownsRow _ lo _ 4 S.vF (k.frames.set i f).length _
 rw[List.length_set,hv,gh bE 4 (fun _=>rfl) KM.l9 f j u hj k.frames i hi e]
 exact this
theorem Kr.KV {lo:Nat} {w:World} {S:St} {k:KM.Kn} (h:Kr lo w S k) {g n cap:Nat} (hv:S.vL=.slice (some (Ad g 0)) n cap) {i j:Nat} (hi:i<k.slots.length) (hj:j<2) {f:KM.Sl} {u:Value} (e:bD f=(bD (KM.bk k.slots i)).set j u) :
  Kr lo (w.setCell (Ad g (i*2+j)) u) S { k with slots:=k.slots.set i f }:=by
 have hk:Kp (fun b=>b=g) w (w.setCell (Ad g (i*2+j)) u):=Kp.set _ _ _ _ rfl
 have hg:S.lab g=.slots:=h.lL g (by rw[hv];rfl)
 have z:∀{b:Nat} {c:Lb},S.lab b=c->c≠.slots->¬b=g:=fun e hc x=>hc (by rw[<- e,x];exact hg)
 have hn:n=k.slots.length:=by
  obtain⟨ao,c,e,_⟩:=aR h.slots
  rw[hv] at e
  injection e
 subst hn
 have hr:=h.slots
 rw[hv] at hr
 refine⟨fun b hb=>⟨(h.mW b hb).1,Nat.lt_of_lt_of_le (h.mW b hb).2 hk.size⟩,hk.row h.ak (fun b hb=>z (h.lS b hb) (by simp)),fun i hi=>hk.row (h.bq i hi) (fun b hb=>z (h.lX i hi b hb) (by simp)),hk.row h.frames (fun b hb=>z (h.lF b hb) (by simp)),?_,hk.row h.aj (fun b hb=>z (h.lP b hb) (by simp)),h.len,fun i hi=>(h.each i hi).kp hk (fun b hb=>z (h.lA i hi b hb) (by simp)) (fun b hb=>z (h.lE i hi b hb) (by simp)),h.lS,h.lX,h.lF,h.lL,h.lP,h.lA,h.lE⟩
 have:=jl hr (i*2+j) u
 show World.ownsRow _ lo _ 2 S.vL (k.slots.set i f).length _
 rw[List.length_set,hv,gh bD 2 (fun _=>rfl) KM.xY f j u hj k.slots i hi e]
 exact this
theorem Kr.turn {lo:Nat} {w w2:World} {S:St} {k:KM.Kn} (h:Kr lo w S k) {j:Nat} (hj:j<k.aj.length) {l:Lc} {s:KM.Sp} {lab':Nat->Lb}
  (hk:Kp (fun b=>S.lab b=.au j∨S.lab b=.aj∨S.lab b=.aA j) w w2) (hrow:w2.ownsRow lo 43 3 S.vP S.L.length ((S.L.set j l).flatMap bO)) (hs:cT lo w2 l s)
  (hb:∀b,lab' b≠.no->lo<=b/\b<w2.heap.size) (hlab:∀b c,S.lab b=c->c≠.no->c≠.aA j->c≠.au j->lab' b=c) (hA:∀b,blk l.va b->lab' b=.aA j) (hE:∀b,blk l.vp b->lab' b=.au j) :
  Kr lo w2 ⟨lab',S.vS,S.vF,S.vL,S.vP,S.L.set j l⟩ { k with aj:=k.aj.set j s }:=by
 have z:∀{b:Nat} {c:Lb},S.lab b=c->c≠.au j->c≠.aj->c≠.aA j->¬(S.lab b=.au j∨S.lab b=.aj∨S.lab b=.aA j):=fun e h1 h2 h3 x=>by
  rw[e] at x
  rcases x with x | x | x
  · exact h1 x
  · exact h2 x
  · exact h3 x
 have XY:(S.L.set j l).length=S.L.length:=List.length_set
 have hl:=h.len
 have at_:∀i,i<k.aj.length->dm (S.L.set j l) i=if j=i then l else dm S.L i:=fun i hi=>by
  unfold dm
  by_cases c:j=i
  · subst c;rw[if_pos rfl,KM.bw _ _ _ _ (by omega)]
  · rw[if_neg c,KM.getD_set_ne _ _ _ _ _ c]
 refine⟨hb,hk.row h.ak (fun b hb=>z (h.lS b hb) (by simp) (by simp) (by simp)),fun i hi=>hk.row (h.bq i hi) (fun b hb=>z (h.lX i hi b hb) (by simp) (by simp) (by simp)),hk.row h.frames (fun b hb=>z (h.lF b hb) (by simp) (by simp) (by simp)),hk.row h.slots (fun b hb=>z (h.lL b hb) (by simp) (by simp) (by simp)),?_,?_,?_,fun b hb=>hlab b _ (h.lS b hb) (by simp) (by simp) (by simp),fun i hi b hb=>hlab b _ (h.lX i hi b hb) (by simp) (by simp) (by simp),fun b hb=>hlab b _ (h.lF b hb) (by simp) (by simp) (by simp),fun b hb=>hlab b _ (h.lL b hb) (by simp) (by simp) (by simp),fun b hb=>hlab b _ (h.lP b hb) (by simp) (by simp) (by simp),?_,?_⟩
 · show World.ownsRow w2 lo _ 3 S.vP (S.L.set j l).length _
   rw[XY];exact hrow
 · show(S.L.set j l).length=(k.aj.set j s).length
   rw[XY,List.length_set,hl]
 · intro i hi
   have hi:i<k.aj.length:=by rw[<- List.length_set];exact hi
   show cT lo w2 (dm (S.L.set j l) i) (KM.aq (k.aj.set j s) i)
   rw[at_ i hi,KM.fZ _ _ _ _ hj]
   by_cases c:j=i
   · rw[if_pos c,if_pos c];exact hs
   · rw[if_neg c,if_neg c]
     exact(h.each i hi).kp hk (fun b hb=>z (h.lA i hi b hb) (by simp) (by simp) (by simp;omega)) (fun b hb=>z (h.lE i hi b hb) (by simp;omega) (by simp) (by simp))
 · intro i hi b hb
   have hi:i<k.aj.length:=by rw[<- List.length_set];exact hi
   have hb:blk (dm (S.L.set j l) i).va b:=hb
   rw[at_ i hi] at hb
   by_cases c:j=i
   · rw[if_pos c] at hb;rw[<- c];exact hA b hb
   · rw[if_neg c] at hb;exact hlab b _ (h.lA i hi b hb) (by simp) (by simp;omega) (by simp)
 · intro i hi b hb
   have hi:i<k.aj.length:=by rw[<- List.length_set];exact hi
   have hb:blk (dm (S.L.set j l) i).vp b:=hb
   rw[at_ i hi] at hb
   by_cases c:j=i
   · rw[if_pos c] at hb;rw[<- c];exact hE b hb
   · rw[if_neg c] at hb;exact hlab b _ (h.lE i hi b hb) (by simp) (by simp) (by simp;omega)
end KO
namespace KM
open Go.RowKit
def bT (a n:Int):Int:=(a+n-1)/16
def cX (k:Kn) (j:Nat) (a way:Int):Nat×Kn:=bV k j (a/16) way []
def ia (k:Kn) (j:Nat) (a n way:Int):Nat×Kn:=bV (cX k j a way).2 j (bT a n) way [((cX k j a way).1:Int)]
def aM (k:Kn) (j:Nat) (a n way:Int):List Nat×Kn:=if bT a n=a/16 then ([(cX k j a way).1],(cX k j a way).2) else ([(cX k j a way).1,(ia k j a n way).1],(ia k j a n way).2)
structure Reached (k:Kn) (j:Nat) (a n way:Int):Prop where
 right:aQ (aM k j a n way).2
 kept:Kept k (aM k j a n way).2
 one:aT (aq (aM k j a n way).2.aj j).au (a/16)=some ⟨a/16,1,(cX k j a way).1⟩/\(cX k j a way).1<k.frames.length
 two:bT a n≠a/16->aT (aq (aM k j a n way).2.aj j).au (bT a n)=some ⟨bT a n,1,(ia k j a n way).1⟩/\(ia k j a n way).1<k.frames.length
theorem m8 {k:Kn} (h:aQ k) {j:Nat} (hj:j<k.aj.length) (a n way:Int) (h1:mapped k j (a/16)) (h2:mapped k j (bT a n)):Reached k j a n way:=by
 have A:=(jS h hj h1 way (held:=[]) (by simp)).1
 by_cases c:bT a n=a/16
 · have e:aM k j a n way=([(cX k j a way).1],(cX k j a way).2):=by unfold aM;rw[if_pos c]
   exact⟨by rw[e];exact A.right,by rw[e];exact A.kept,by rw[e];exact⟨A.here,A.lt⟩,fun x=>absurd c x⟩
 · have hj':j<(cX k j a way).2.aj.length:=by have:=A.kept.np;unfold cX;omega
   have B:=(jS (k:=(cX k j a way).2) A.right hj' (A.kept.mapped hj h2) way (held:=[((cX k j a way).1:Int)]) (by simp)).1
   have e:aM k j a n way=([(cX k j a way).1,(ia k j a n way).1],(ia k j a n way).2):=by unfold aM;rw[if_neg c]
   refine⟨by rw[e];exact B.right,by rw[e];exact A.kept.trans B.kept,?_,fun _=>?_⟩
   · rw[e]
     exact⟨B.stay j hj' (a/16) _ A.here rfl (by simp[cX]) (fun x=>c x.2.symm),A.lt⟩
   · rw[e]
     refine⟨B.here,?_⟩
     have hl:=B.lt
     have hn:=A.kept.nf
     show(ia k j a n way).1<_
     unfold ia
     unfold cX at hl ⊢
     omega
def xD (k:Kn) (j:Nat) (es:List En) (e:En):Kn:=cA { k with aj:=k.aj.set j (dI (aq k.aj j) es) } e
theorem Jw {k:Kn} (h:aQ k) {j:Nat} (hj:j<k.aj.length) {pre post:List En} {e:En} (he:(aq k.aj j).au=pre++e::post):(xD k j (pre++post) e).frames.length=k.frames.length/\(xD k j (pre++post) e).slots.length=k.slots.length/\(xD k j (pre++post) e).ak=k.ak/\(xD k j (pre++post) e).hand=k.hand/\(xD k j (pre++post) e).aj=k.aj.set j (dI (aq k.aj j) (pre++post)) /\
  (∀n,aD (xD k j (pre++post) e).frames n=if e.kind=1/\e.loc=(n:Int) then kK (aD k.frames n) else aD k.frames n) /\
  (∀n,bk (xD k j (pre++post) e).slots n=if e.kind=2/\e.loc=(n:Int) then nr (bk k.slots n) else bk k.slots n):=by
 have hm:e∈(aq k.aj j).au:=by rw[he];simp
 unfold xD cA
 rcases fE h hj hm with b | b
 · rw[if_pos b.1]
   refine⟨List.length_set,rfl,rfl,rfl,rfl,fun n=>?_,fun n=>?_⟩
   · show aD (k.frames.set _ (kK (aD k.frames _))) n=_
     rw[dZ _ _ _ _ b.2.2]
     by_cases c:e.loc.toNat=n
     · rw[if_pos c,if_pos ⟨b.1,by omega⟩,c]
     · rw[if_neg c,if_neg (by omega)]
   · show bk k.slots n=_
     rw[if_neg (by omega)]
 · rw[if_neg (by omega)]
   refine⟨rfl,List.length_set,rfl,rfl,rfl,fun n=>?_,fun n=>?_⟩
   · show aD k.frames n=_
     rw[if_neg (by omega)]
   · show bk (k.slots.set _ (nr (bk k.slots _))) n=_
     rw[mZ _ _ _ _ b.2.2]
     by_cases c:e.loc.toNat=n
     · rw[if_pos c,if_pos ⟨b.1,by omega⟩,c]
     · rw[if_neg c,if_neg (by omega)]
theorem Jv {k:Kn} (h:aQ k) {j:Nat} (hj:j<k.aj.length) {pre post:List En} {e:En} (he:(aq k.aj j).au=pre++e::post):aQ (xD k j (pre++post) e):=by
 have hsp:=h.sp hj
 obtain⟨f1,f2,f3,f4,f5,f6,f7⟩:=Jw h hj he
 have hlen:(xD k j (pre++post) e).aj.length=k.aj.length:=by rw[f5,List.length_set]
 have hin:∀x,x∈pre++post->x∈(aq k.aj j).au:=fun x hx=>by
  rw[he]
  rcases List.mem_append.1 hx with g | g
  · exact List.mem_append.2 (.inl g)
  · exact List.mem_append.2 (.inr (List.mem_cons_of_mem _ g))
 have pH:∀kd a:Int,∃X Y,names k.aj kd a=X++(nm (aq k.aj j).aA kd a [e]++Y)/\names (k.aj.set j (dI (aq k.aj j) (pre++post))) kd a=X++Y:=fun kd a=>by
  obtain⟨u,v,g1,g2⟩:=sY k.aj j (dI (aq k.aj j) (pre++post)) kd a hj
  refine⟨u++nm (aq k.aj j).aA kd a pre,nm (aq k.aj j).aA kd a post++v,?_,?_⟩
  · rw[g1,pE,he,eZ,pD]
    simp only[List.append_assoc]
  · rw[g2,pE]
    show u++(nm (aq k.aj j).aA kd a (pre++post)++v)=_
    rw[eZ]
    simp only[List.append_assoc]
 refine⟨?_,by rw[f3];exact h.dU,by rw[f4,f1];exact h.hand,?_,?_,?_,?_⟩
 · have:=h.counts
   unfold KM.counts at this ⊢
   rw[f1,f2,f3,hlen]
   exact this
 · rw[f1,f2,f3,f5]
   intro s hs
   rcases List.mem_or_eq_of_mem_set hs with g | rfl
   · exact h.each s g
   · refine⟨fun dd=>?_,hsp.aA,?_,fun x hx=>hsp.tH x (hin x hx),hsp.ak⟩
     · have hnil:=(hsp.dead dd).2
       rw[he] at hnil
       exact absurd hnil (by simp)
     · have hr:jU (aq k.aj j).au:=hsp.dU
       rw[he] at hr
       exact List.Pairwise.sublist ((List.Sublist.append (List.Sublist.refl pre) (List.sublist_cons_self e post)).map _) hr
 · rw[f2,f5,Cn _ _ (dI (aq k.aj j) (pre++post)) hj rfl];exact h.room
 · intro n hn
   rw[f1] at hn
   rw[f3,f5,f6]
   obtain⟨X,Y,h1,h2⟩:=pH 1 n
   rw[h2]
   have hf:=h.mO n hn
   rw[h1] at hf
   by_cases c2:e.kind=1/\e.loc=(n:Int)
   · rw[if_pos c2]
     rw[kE _ c2] at hf
     exact hf.less
   · rw[if_neg c2]
     rw[jq _ c2] at hf
     exact hf
 · intro n hn
   rw[f2] at hn
   rw[f5,f7]
   obtain⟨X,Y,h1,h2⟩:=pH 2 n
   rw[h2]
   have hf:=h.slt n hn
   rw[h1] at hf
   by_cases c2:e.kind=2/\e.loc=(n:Int)
   · rw[if_pos c2]
     rw[kE _ c2] at hf
     exact hf.less
   · rw[if_neg c2]
     rw[jq _ c2] at hf
     exact hf
end KM
namespace KO
open Go.RowKit GK
open FW (ai aC)
open KW (bE bD aI aU fe cO aH)
open KS (Lc bO oD dm blk cT)
variable {lo mb:Nat} {tt:TypeId} {X:List Value} {w:World} {S:St} {k:KM.Kn}
theorem Cf (h:Km lo mb tt X w S k) {g j:Nat} {u:Value} {c:Lb} (hg:S.lab g=c) (hc:c≠.head):(w.setCell (Ad g j) u).heap[mb]?=some (.cells ([S.vS,S.vF,S.vL,S.vP,I k.hand]++X).toArray tt (0,0)) :=
 B.other h.head g j u (fun e=>hc (by rw[<- hg,<- e];exact h.lH))
theorem Km.sP (h:Km lo mb tt X w S k) {g n cap:Nat} (hv:S.vF=.slice (some (Ad g 0)) n cap) {i j:Nat} (hi:i<k.frames.length) (hj:j<4) {f:KM.Fr} {u:Value} (e:bE f=(bE (KM.aD k.frames i)).set j u) :
  Km lo mb tt X (w.setCell (Ad g (i*4+j)) u) S { k with frames:=k.frames.set i f }:=⟨h.toKr.sP hv hi hj e,Cf h (h.lF g (by rw[hv];rfl)) (by simp),h.lH⟩
theorem Km.KV (h:Km lo mb tt X w S k) {g n cap:Nat} (hv:S.vL=.slice (some (Ad g 0)) n cap) {i j:Nat} (hi:i<k.slots.length) (hj:j<2) {f:KM.Sl} {u:Value} (e:bD f=(bD (KM.bk k.slots i)).set j u) :
  Km lo mb tt X (w.setCell (Ad g (i*2+j)) u) S { k with slots:=k.slots.set i f }:=⟨h.toKr.KV hv hi hj e,Cf h (h.lL g (by rw[hv];rfl)) (by simp),h.lH⟩
theorem MW (h:Kr lo w S k) {g n cap:Nat} (hv:S.vF=.slice (some (Ad g 0)) n cap) {V:World} {i:Nat} {u:Value}:Ch S V S (V.setCell (Ad g i) u):=Ch.set (by rw[h.lF g (by rw[hv];rfl)];simp)
theorem chL (h:Kr lo w S k) {g n cap:Nat} (hv:S.vL=.slice (some (Ad g 0)) n cap) {V:World} {i:Nat} {u:Value}:Ch S V S (V.setCell (Ad g i) u):=Ch.set (by rw[h.lL g (by rw[hv];rfl)];simp)
theorem Km.LP (h:Km lo mb tt X w S k) {g n cap:Nat} (hv:S.vF=.slice (some (Ad g 0)) n cap) {i:Nat} (hi:i<k.frames.length) (f:KM.Fr) :
  Km lo mb tt X ((((w.setCell (Ad g (i*4)) (.string f.data)).setCell (Ad g (i*4+1)) (I f.refs)).setCell (Ad g (i*4+2)) (.bool f.bW)).setCell (Ad g (i*4+3)) (.bool f.seen)) S { k with frames:=k.frames.set i f } /\
  Ch S w S ((((w.setCell (Ad g (i*4)) (.string f.data)).setCell (Ad g (i*4+1)) (I f.refs)).setCell (Ad g (i*4+2)) (.bool f.bW)).setCell (Ad g (i*4+3)) (.bool f.seen)):=by
 have h1:=h.sP hv hi (j:=0) (by omega) (f:=⟨f.data,(KM.aD k.frames i).refs,(KM.aD k.frames i).bW,(KM.aD k.frames i).seen⟩) (u:=.string f.data) rfl
 have h2:=h1.sP hv (i:=i) (by simpa using hi) (j:=1) (by omega) (f:=⟨f.data,f.refs,(KM.aD k.frames i).bW,(KM.aD k.frames i).seen⟩) (u:=I f.refs) (by simp only[KM.aD,KM.bw _ _ _ _ hi];rfl)
 have h3:=h2.sP hv (i:=i) (by simpa using hi) (j:=2) (by omega) (f:=⟨f.data,f.refs,f.bW,(KM.aD k.frames i).seen⟩) (u:=.bool f.bW) (by simp only[KM.aD,List.set_set,KM.bw _ _ _ _ hi];rfl)
 have h4:=h3.sP hv (i:=i) (by simpa using hi) (j:=3) (by omega) (f:=f) (u:=.bool f.seen) (by simp only[KM.aD,List.set_set,KM.bw _ _ _ _ hi];rfl)
 simp only[List.set_set] at h4
 exact⟨h4,(((MW h.toKr hv).trans (MW h.toKr hv)).trans (MW h.toKr hv)).trans (MW h.toKr hv)⟩
theorem Km.UT (h:Km lo mb tt X w S k) {g n cap:Nat} (hv:S.vL=.slice (some (Ad g 0)) n cap) {i:Nat} (hi:i<k.slots.length) (f:KM.Sl) :
  Km lo mb tt X ((w.setCell (Ad g (i*2)) (.string f.data)).setCell (Ad g (i*2+1)) (I f.refs)) S { k with slots:=k.slots.set i f } /\
  Ch S w S ((w.setCell (Ad g (i*2)) (.string f.data)).setCell (Ad g (i*2+1)) (I f.refs)):=by
 have h1:=h.KV hv hi (j:=0) (by omega) (f:=⟨f.data,(KM.bk k.slots i).refs⟩) (u:=.string f.data) rfl
 have h2:=h1.KV hv (i:=i) (by simpa using hi) (j:=1) (by omega) (f:=f) (u:=I f.refs) (by simp only[KM.bk,KM.bw _ _ _ _ hi];rfl)
 simp only[List.set_set] at h2
 exact⟨h2,(chL h.toKr hv).trans (chL h.toKr hv)⟩
theorem Km.Ox (h:Km lo mb tt X w S k) (x:Int):Km lo mb tt X (w.setCell (Ad mb 4) (I x)) S { k with hand:=x }/\Ch S w S (w.setCell (Ad mb 4) (I x)):=by
 have hk:Kp (fun b=>b=mb) w (w.setCell (Ad mb 4) (I x)):=Kp.set _ _ _ _ rfl
 have z:∀{b:Nat} {c:Lb},S.lab b=c->c≠.head->¬b=mb:=fun e hc x=>hc (by rw[<- e,x];exact h.lH)
 refine⟨⟨⟨fun b hb=>⟨(h.mW b hb).1,Nat.lt_of_lt_of_le (h.mW b hb).2 hk.size⟩,hk.row h.ak (fun b hb=>z (h.lS b hb) (by simp)),fun i hi=>hk.row (h.bq i hi) (fun b hb=>z (h.lX i hi b hb) (by simp)),hk.row h.frames (fun b hb=>z (h.lF b hb) (by simp)),hk.row h.slots (fun b hb=>z (h.lL b hb) (by simp)),hk.row h.aj (fun b hb=>z (h.lP b hb) (by simp)),h.len,fun i hi=>(h.each i hi).kp hk (fun b hb=>z (h.lA i hi b hb) (by simp)) (fun b hb=>z (h.lE i hi b hb) (by simp)),h.lS,h.lX,h.lF,h.lL,h.lP,h.lA,h.lE⟩,?_,h.lH⟩,Ch.set (by rw[h.lH];simp)⟩
 rw[B.set h.head 4 (I x)]
 simp
theorem Km.turn {w2:World} (h:Km lo mb tt X w S k) {j:Nat} (hj:j<k.aj.length) {l:Lc} {s:KM.Sp} {lab':Nat->Lb}
  (hk:Kp (fun b=>S.lab b=.au j∨S.lab b=.aj∨S.lab b=.aA j) w w2) (hrow:w2.ownsRow lo 43 3 S.vP S.L.length ((S.L.set j l).flatMap bO)) (hs:cT lo w2 l s)
  (hb:∀b,lab' b≠.no->lo<=b/\b<w2.heap.size) (hlab:∀b c,S.lab b=c->c≠.no->c≠.aA j->c≠.au j->lab' b=c) (hA:∀b,blk l.va b->lab' b=.aA j) (hE:∀b,blk l.vp b->lab' b=.au j) :
  Km lo mb tt X w2 ⟨lab',S.vS,S.vF,S.vL,S.vP,S.L.set j l⟩ { k with aj:=k.aj.set j s } :=
 ⟨h.toKr.turn hj hk hrow hs hb hlab hA hE,hk.keep h.head (fun x=>by rw[h.lH] at x;simp at x),hlab mb _ h.lH (by simp) (by simp) (by simp)⟩
theorem GF (L:List Lc) (j:Nat):L.set j (dm L j)=L:=by
 unfold dm
 by_cases h:j<L.length
 · rw[List.getD_eq_getElem?_getD,List.getElem?_eq_getElem h,Option.getD_some,List.set_getElem_self]
 · exact List.set_eq_of_length_le (by omega)
theorem Km.kz (h:Km lo mb tt X w S k) {j:Nat} (hj:j<k.aj.length) {g n cap:Nat} (hv:(dm S.L j).vp=.slice (some (Ad g 0)) n cap) {i c:Nat} (hi:i<(KM.aq k.aj j).au.length) (hc:c<3) {e:KM.En} {u:Value} (he:aI e=(aI (KM.aJ (KM.aq k.aj j).au i)).set c u) :
  Km lo mb tt X (w.setCell (Ad g (i*3+c)) u) S { k with aj:=k.aj.set j (KM.dI (KM.aq k.aj j) ((KM.aq k.aj j).au.set i e)) }/\Ch S w S (w.setCell (Ad g (i*3+c)) u):=by
 have hgl:S.lab g=.au j:=h.lE j hj g (by rw[hv];rfl)
 have hk:Kp (fun b=>b=g) w (w.setCell (Ad g (i*3+c)) u):=Kp.set _ _ _ _ rfl
 have z:∀{b:Nat} {c:Lb},S.lab b=c->c≠.au j->¬b=g:=fun e hc x=>hc (by rw[<- e,x];exact hgl)
 have hs:=h.each j hj
 have hn:n=(KM.aq k.aj j).au.length:=by
  obtain⟨ao,c,e,_⟩:=aR hs.aB
  rw[hv] at e
  injection e
 subst hn
 have hr:=hs.aB
 rw[hv] at hr
 refine⟨?_,Ch.set (by rw[hgl];simp)⟩
 have:=h.turn (w2:=w.setCell (Ad g (i*3+c)) u) hj (l:=dm S.L j) (s:=KM.dI (KM.aq k.aj j) ((KM.aq k.aj j).au.set i e)) (lab':=S.lab) (hk.mono (fun b _ e=>.inl (by rw[e];exact hgl))) (by rw[GF];exact hk.row h.aj (fun b hb=>z (h.lP b hb) (by simp))) ⟨hs.live,hk.row hs.aA (fun b hb=>z (h.lA j hj b hb) (by simp)),?_⟩ (fun b hb=>⟨(h.mW b hb).1,Nat.lt_of_lt_of_le (h.mW b hb).2 hk.size⟩) (fun b c e _ _ _=>e) (fun b hb=>h.lA j hj b hb) (fun b hb=>h.lE j hj b hb)
 · rw[GF] at this;exact this
 · have r2:=jl hr (i*3+c) u
   show World.ownsRow _ lo _ 3 (dm S.L j).vp ((KM.aq k.aj j).au.set i e).length (((KM.aq k.aj j).au.set i e).flatMap aI)
   rw[List.length_set,hv,gh aI 3 (fun _=>rfl) KM.jz e c u hc _ i hi he]
   exact r2
def CK (S:St) (j:Nat) (v:Value):Nat->Lb:=fun b=>if v.ownBlock=some b then .au j else S.lab b
theorem Km.fK {w1:World} (h:Km lo mb tt X w S k) {j:Nat} (hj:j<k.aj.length) {v:Value} {es:List KM.En} {pb n cap:Nat} (hP:S.vP=.slice (some (Ad pb 0)) n cap)
  (hk:Kp (fun b=>S.lab b=.au j) w w1) (hr:w1.ownsRow lo 45 3 v es.length (es.flatMap aI)) (hat:∀b,blk v b->S.lab b=.au j∨S.lab b=.no) :
  Km lo mb tt X (w1.setCell (Ad pb (j*3+2)) v) ⟨CK S j v,S.vS,S.vF,S.vL,S.vP,S.L.set j ⟨(dm S.L j).lv,(dm S.L j).va,v⟩⟩ { k with aj:=k.aj.set j (KM.dI (KM.aq k.aj j) es) } /\
  ((∀b,b<w.heap.size->blk v b->S.lab b=.au j)->Ch S w ⟨CK S j v,S.vS,S.vF,S.vL,S.vP,S.L.set j ⟨(dm S.L j).lv,(dm S.L j).va,v⟩⟩ (w1.setCell (Ad pb (j*3+2)) v)):=by
 have hpl:S.lab pb=.aj:=h.lP pb (by rw[hP];rfl)
 have mM:Kp (fun b=>b=pb) w1 (w1.setCell (Ad pb (j*3+2)) v):=Kp.set _ _ _ _ rfl
 have hs:=h.each j hj
 have hl:=h.len
 have hrl:∀b,blk v b->lo<=b/\b<w1.heap.size:=fun b hb=>hr.lt b hb
 have hlab:∀b c,S.lab b=c->c≠.no->c≠.au j->CK S j v b=c:=fun b c e h1 h2=>by
  unfold CK
  rw[if_neg,e]
  intro x
  rcases hat b x with y | y
  · exact h2 (e.symm.trans y)
  · exact h1 (e.symm.trans y)
 have hn:n=S.L.length:=by
  obtain⟨ao,c,e,_⟩:=aR h.aj
  rw[hP] at e
  injection e
 subst hn
 have hr1:=hk.row h.aj (fun b hb e=>by rw[h.lP b hb] at e;simp at e)
 rw[hP] at hr1
 have hr2:=jl hr1 (j*3+2) v
 rw[<- gh bO 3 (fun _=>rfl) oD ⟨(dm S.L j).lv,(dm S.L j).va,v⟩ 2 v (by omega) S.L j (by omega) rfl] at hr2
 have hsz:=Nat.le_trans hk.size mM.size
 refine⟨h.turn hj (l:=⟨(dm S.L j).lv,(dm S.L j).va,v⟩) (s:=KM.dI (KM.aq k.aj j) es) (lab':=CK S j v) ((hk.mono (D1:=fun b=>S.lab b=.au j∨S.lab b=.aj∨S.lab b=.aA j) (fun b _ e=>.inl e)).trans mM (fun b _ e=>.inr (.inl (by rw[e];exact hpl)))) (by rw[hP];exact hr2) ⟨hs.live,?_,?_⟩ ?_ (fun b c e h1 _ h3=>hlab b c e h1 h3) (fun b hb=>hlab b _ (h.lA j hj b hb) (by simp) (by simp)) (fun b hb=>if_pos hb),fun hold=>⟨?_,?_,rfl,rfl,rfl,rfl⟩⟩
 · exact mM.row (hk.row hs.aA (fun b hb e=>by rw[h.lA j hj b hb] at e;simp at e)) (fun b hb e=>by have:=h.lA j hj b hb;rw[e,hpl] at this;simp at this)
 · exact mM.row hr (fun b hb e=>by
    subst e
    rcases hat b hb with y | y <;> · rw[hpl] at y;simp at y)
 · intro b hb
   unfold CK at hb
   by_cases c:v.ownBlock=some b
   · exact⟨(hrl b c).1,Nat.lt_of_lt_of_le (hrl b c).2 mM.size⟩
   · rw[if_neg c] at hb
     exact⟨(h.mW b hb).1,Nat.lt_of_lt_of_le (h.mW b hb).2 hsz⟩
 · exact(hk.mono (fun b _ e=>by rw[e];simp)).trans mM (fun b _ e=>by rw[e,hpl];simp)
 · intro b hb hno
   show CK S j v b=.no
   unfold CK
   rw[if_neg,hno]
   intro x
   have:=hold b hb x
   rw[hno] at this
   simp at this
end KO
namespace KM
open Go.RowKit
theorem jt {α:Type} (d:α):∀(l m:List α),l.length=m.length->(∀i,i<l.length->l.getD i d=m.getD i d)->l=m
 | [],[],_,_=>rfl
 | [],b::r,h,_=>by simp at h
 | a::r,[],h,_=>by simp at h
 | a::r,b::t,h,g=>by
  have h0:a=b:=g 0 (Nat.zero_lt_succ _)
  have h1:=jt d r t (by simpa using h) (fun i hi=>g (i+1) (Nat.succ_lt_succ hi))
  rw[h0,h1]
def Dp (f:Fr) (d:Int):Fr:=if f.refs+d=0 then l9 else ⟨f.data,f.refs+d,f.bW,f.seen⟩
def Dn (f:Sl) (d:Int):Sl:=if f.refs+d=0 then xY else ⟨f.data,f.refs+d⟩
def fP (k:Kn) (e:En) (d:Int):Kn:=if e.kind=1 then { k with frames:=k.frames.set e.loc.toNat (Dp (aD k.frames e.loc.toNat) d) } else { k with slots:=k.slots.set e.loc.toNat (Dn (bk k.slots e.loc.toNat) d) }
theorem uK (k:Kn) (e:En):fP k e (-1)=cA k e:=by
 have h1:∀f:Fr,Dp f (-1)=kK f:=fun f=>by unfold Dp kK;rw[<- Int.sub_eq_add_neg]
 have h2:∀f:Sl,Dn f (-1)=nr f:=fun f=>by unfold Dn nr;rw[<- Int.sub_eq_add_neg]
 unfold fP cA
 rw[h1,h2]
theorem rN (k:Kn) (e:En):(cA k e).aj=k.aj:=by unfold cA;split <;> rfl
theorem EM (k:Kn) (e:En):(cA k e).ak=k.ak/\(cA k e).hand=k.hand:=by unfold cA;split <;> exact⟨rfl,rfl⟩
theorem IL (k:Kn) (e:En):(cA k e).frames.length=k.frames.length/\(cA k e).slots.length=k.slots.length:=by
 unfold cA
 split
 · exact⟨List.length_set,rfl⟩
 · exact⟨rfl,List.length_set⟩
def kz (k:Kn) (j:Nat) (es:List En):Kn:={ k with aj:=k.aj.set j (dI (aq k.aj j) es) }
theorem EL (k:Kn) (j:Nat) (es:List En) (e:En):cA (kz k j es) e=kz (cA k e) j es:=by unfold cA kz;split <;> rfl
theorem Ik (k:Kn) (j:Nat) (hj:j<k.aj.length) (es fs:List En):kz (kz k j es) j fs=kz k j fs:=by
 unfold kz
 simp only[List.set_set]
 rw[fZ _ _ _ _ hj,if_pos rfl]
 rfl
theorem Il (k:Kn) (j:Nat) (hj:j<k.aj.length):kz k j (aq k.aj j).au=k:=by
 unfold kz
 have:k.aj.set j (dI (aq k.aj j) (aq k.aj j).au)=k.aj:=jt DN _ _ List.length_set (fun i hi=>by
  have:=fZ k.aj j i (dI (aq k.aj j) (aq k.aj j).au) hj
  unfold aq at this ⊢
  rw[this]
  by_cases c:j=i
  · rw[if_pos c,c];rfl
  · rw[if_neg c])
 rw[this]
theorem Oy (k:Kn) (j:Nat) (hj:j<k.aj.length) (es:List En):(aq (kz k j es).aj j).au=es:=by
 show(aq (k.aj.set j _) j).au=es
 rw[fZ _ _ _ _ hj,if_pos rfl]
 rfl
def cN (k:Kn) (es:List En) (p:En->Bool):Nat->Kn
 | 0=>k
 | n+1=>if p (aJ es n) then cA (cN k es p n) (aJ es n) else cN k es p n
def ja (es:List En) (p:En->Bool):List En:=es.filter fun e=>!p e
def fJ (k:Kn) (j:Nat) (p:En->Bool):Kn:=kz (cN k (aq k.aj j).au p (aq k.aj j).au.length) j (ja (aq k.aj j).au p)
theorem fW (k:Kn) (es:List En) (p:En->Bool):∀n,(cN k es p n).aj=k.aj
 | 0=>rfl
 | n+1=>by
  unfold cN
  split
  · rw[rN,fW k es p n]
  · exact fW k es p n
theorem xC (k:Kn) (es:List En) (p:En->Bool):∀n,(cN k es p n).ak=k.ak/\(cN k es p n).hand=k.hand/\(cN k es p n).frames.length=k.frames.length/\(cN k es p n).slots.length=k.slots.length
 | 0=>⟨rfl,rfl,rfl,rfl⟩
 | n+1=>by
  have ih:=xC k es p n
  unfold cN
  split
  · have a:=EM (cN k es p n) (aJ es n)
    have b:=IL (cN k es p n) (aJ es n)
    exact⟨a.1.trans ih.1,a.2.trans ih.2.1,b.1.trans ih.2.2.1,b.2.trans ih.2.2.2⟩
  · exact ih
theorem drop_cons (es:List En) (n:Nat) (h:n<es.length):es.drop n=aJ es n::es.drop (n+1):=by
 rw[List.drop_eq_getElem_cons h]
 unfold aJ
 rw[List.getD_eq_getElem?_getD,List.getElem?_eq_getElem h]
 rfl
theorem I4 (es:List En) (p:En->Bool) (n:Nat) (h:n<es.length):ja (es.take (n+1)) p=ja (es.take n) p++(if p (aJ es n) then [] else [aJ es n]):=by
 unfold ja
 rw[take_succ es n h,List.filter_append]
 congr 1
 cases g:p (aJ es n) <;> simp[g]
theorem oX {k:Kn} (h:aQ k) {j:Nat} (hj:j<k.aj.length) (p:En->Bool):∀n,n<=(aq k.aj j).au.length->aQ (kz (cN k (aq k.aj j).au p n) j (ja ((aq k.aj j).au.take n) p++(aq k.aj j).au.drop n))
 | 0,_=>by
  have:ja ((aq k.aj j).au.take 0) p++(aq k.aj j).au.drop 0=(aq k.aj j).au:=rfl
  rw[this]
  show aQ (kz k j (aq k.aj j).au)
  rw[Il k j hj];exact h
 | n+1,hn=>by
  have ih:=oX h hj p n (by omega)
  have hlt:n<(aq k.aj j).au.length:=by omega
  have zn:j<(cN k (aq k.aj j).au p n).aj.length:=by rw[fW];exact hj
  rw[drop_cons _ n hlt] at ih
  rw[I4 _ p n hlt]
  unfold cN
  cases g:p (aJ (aq k.aj j).au n) with
  | true =>
   rw[if_pos rfl,if_pos rfl,List.append_nil]
   have E6:j<(kz (cN k (aq k.aj j).au p n) j (ja ((aq k.aj j).au.take n) p++aJ (aq k.aj j).au n::(aq k.aj j).au.drop (n+1))).aj.length:=by
    show j<List.length (List.set _ _ _)
    rw[List.length_set];exact zn
   have:=Jv ih E6 (Oy _ j zn _)
   have e:xD (kz (cN k (aq k.aj j).au p n) j (ja ((aq k.aj j).au.take n) p++aJ (aq k.aj j).au n::(aq k.aj j).au.drop (n+1))) j (ja ((aq k.aj j).au.take n) p++(aq k.aj j).au.drop (n+1)) (aJ (aq k.aj j).au n)=kz (cA (cN k (aq k.aj j).au p n) (aJ (aq k.aj j).au n)) j (ja ((aq k.aj j).au.take n) p++(aq k.aj j).au.drop (n+1)):=by
    show cA (kz (kz _ j _) j _) _=_
    rw[Ik _ j zn,EL]
   rw[e] at this
   exact this
  | false =>
   rw[if_neg (by simp),if_neg (by simp),List.append_assoc]
   exact ih
theorem A6 {k:Kn} (h:aQ k) {j:Nat} (hj:j<k.aj.length) (p:En->Bool):aQ (fJ k j p):=by
 have:=oX h hj p _ (Nat.le_refl _)
 rw[List.take_length,List.drop_length,List.append_nil] at this
 exact this
theorem qg (k:Kn) (j:Nat) (p:En->Bool):(fJ k j p).aj=k.aj.set j (dI (aq k.aj j) (ja (aq k.aj j).au p)):=by
 show((cN k (aq k.aj j).au p _).aj).set j _=_
 rw[fW]
theorem C9 (k:Kn) (j:Nat) (p:En->Bool):(fJ k j p).ak=k.ak/\(fJ k j p).hand=k.hand/\(fJ k j p).frames.length=k.frames.length/\(fJ k j p).slots.length=k.slots.length:=xC k _ p _
theorem Bc (k:Kn) (i:Nat) (es:List En):∀n,∃x,(cN k es (iG (i:Int)) n).frames=k.frames.set i x/\(cN k es (iG (i:Int)) n).slots=k.slots
 | 0=>⟨aD k.frames i,by
   show k.frames=_
   refine(jt l9 _ _ List.length_set (fun m hm=>?_)).symm
   rw[List.length_set] at hm
   by_cases c:i=m
   · subst c;rw[bw _ _ _ _ hm];rfl
   · rw[getD_set_ne _ _ _ _ _ c],rfl⟩
 | n+1=>by
  obtain⟨x,h1,h2⟩:=Bc k i es n
  unfold cN
  split
  · next g =>
    have g:=gW.1 g
    unfold cA
    rw[if_pos g.1,g.2,Int.toNat_natCast]
    refine⟨kK (aD (k.frames.set i x) i),?_,h2⟩
    show(cN k es (iG (i:Int)) n).frames.set i _=_
    rw[h1,List.set_set]
  · exact⟨x,h1,h2⟩
def ir (k:Kn) (i:Nat):Nat->Kn
 | 0=>k
 | n+1=>fJ (ir k i n) n (iG (i:Int))
theorem pA {k:Kn} (h:aQ k) (i:Nat):∀n,n<=k.aj.length->aQ (ir k i n)/\(ir k i n).ak=k.ak/\(ir k i n).hand=k.hand/\(∃x,(ir k i n).frames=k.frames.set i x)/\(ir k i n).slots=k.slots/\(ir k i n).aj.length=k.aj.length/\∀m,m<k.aj.length->aq (ir k i n).aj m=if m<n then ni i (aq k.aj m) else aq k.aj m
 | 0,_=>by
  obtain⟨x,hx,_⟩:=Bc k i [] 0
  exact⟨h,rfl,rfl,⟨x,hx⟩,rfl,rfl,fun m _=>by rw[if_neg (by omega)];rfl⟩
 | n+1,hn=>by
  obtain⟨r,h1,h2,⟨x,h3⟩,h4,h5,h6⟩:=pA h i n (by omega)
  have hj:n<(ir k i n).aj.length:=by omega
  have fr:=C9 (ir k i n) n (iG (i:Int))
  obtain⟨y,c1,c2⟩:=Bc (ir k i n) i (aq (ir k i n).aj n).au (aq (ir k i n).aj n).au.length
  refine⟨A6 r hj _,fr.1.trans h1,fr.2.1.trans h2,⟨y,?_⟩,?_,?_,fun m hm=>?_⟩
  · show(cN _ _ _ _).frames=_
    rw[c1,h3,List.set_set]
  · show(cN _ _ _ _).slots=_
    rw[c2,h4]
  · show(fJ _ _ _).aj.length=_
    rw[qg,List.length_set];exact h5
  · show aq (fJ _ _ _).aj m=_
    rw[qg,fZ _ _ _ _ hj]
    by_cases c:n=m
    · subst c
      rw[if_pos rfl,if_pos (by omega),h6 n hm,if_neg (by omega)]
      rfl
    · rw[if_neg c,h6 m hm]
      by_cases d:m<n
      · rw[if_pos d,if_pos (by omega)]
      · rw[if_neg d,if_neg (by omega)]
theorem Lp {k:Kn} (h:aQ k) {i:Nat} (hi:i<k.frames.length):ir k i k.aj.length=qi k i:=by
 obtain⟨r,h1,h2,⟨x,h3⟩,h4,h5,h6⟩:=pA h i k.aj.length (Nat.le_refl _)
 have hs:(ir k i k.aj.length).aj=k.aj.map (ni i):=by
  refine jt DN _ _ (by rw[h5,List.length_map]) (fun m hm=>?_)
  have hm':m<k.aj.length:=by omega
  have:=h6 m hm'
  rw[if_pos hm'] at this
  have g:=jk (ni i) k.aj m hm'
  unfold aq at this g
  rw[this,g]
 have hf:=r.mO i (by rw[h3,List.length_set];exact hi)
 have hz:names (ir k i k.aj.length).aj 1 i=[]:=by
  rw[hs]
  exact iW _ _ _ _ (fun s _=>nK s.aA i s.au)
 have hx:x=l9:=by
  have:=hf.zero hz
  rw[h3] at this
  unfold aD at this
  rw[bw _ _ _ _ hi] at this
  exact this
 have:∀a b:Kn,a.ak=b.ak->a.frames=b.frames->a.slots=b.slots->a.aj=b.aj->a.hand=b.hand->a=b:=fun a b e1 e2 e3 e4 e5=>by
  cases a;cases b;simp_all
 exact this _ _ h1 (by rw[h3,hx];rfl) h4 hs h2
theorem Lq {k:Kn} (h:aQ k) {i:Nat} (hi:i<k.frames.length) {j:Nat} (hj:j<k.aj.length) {a b:Nat} (ha:a<(aq k.aj j).au.length) (hb:b<(aq k.aj j).au.length) (h1:iG (i:Int) (aJ (aq k.aj j).au a)=true) (h2:iG (i:Int) (aJ (aq k.aj j).au b)=true):a=b:=by
 have jE:=fw hj (dB (d:=jz) ha)
 have hm2:=fw hj (dB (d:=jz) hb)
 have g1:=gW.1 h1
 have g2:=gW.1 h2
 unfold aJ at g1 g2
 rw[g1.1,g1.2] at jE
 rw[g2.1,g2.2] at hm2
 have e:=(h.mO i hi).one _ jE _ hm2
 injection e with e _
 have hr:=(h.sp hj).dU
 have hp:=List.pairwise_iff_getElem.1 hr
 rcases Nat.lt_trichotomy a b with c | c | c
 · have:=hp a b (by simpa using ha) (by simpa using hb) c
   simp only[List.getElem_map] at this
   rw[List.getD_eq_getElem?_getD,List.getElem?_eq_getElem ha,List.getD_eq_getElem?_getD,List.getElem?_eq_getElem hb] at e
   simp only[Option.getD_some] at e
   omega
 · exact c
 · have:=hp b a (by simpa using hb) (by simpa using ha) c
   simp only[List.getElem_map] at this
   rw[List.getD_eq_getElem?_getD,List.getElem?_eq_getElem ha,List.getD_eq_getElem?_getD,List.getElem?_eq_getElem hb] at e
   simp only[Option.getD_some] at e
   omega
theorem Ed (i s:Int) (es:List En) (n:Nat) (hn:n<es.length) (h:iG i (aJ es n)=true) (ho:∀m,m<es.length->iG i (aJ es m)=true->m=n):es.set n ⟨(aJ es n).page,2,s⟩=fK i s es:=by
 refine jt jz _ _ (by unfold fK;rw[List.length_set,List.length_map]) (fun m hm=>?_)
 rw[List.length_set] at hm
 unfold fK
 rw[getD_map _ jz jz es m hm]
 by_cases c:n=m
 · subst c
   rw[bw _ _ _ _ hm]
   unfold aJ at h ⊢
   rw[if_pos h]
 · rw[getD_set_ne _ _ _ _ _ c]
   have:iG i (es.getD m jz)=false:=by
    cases g:iG i (es.getD m jz) with
    | false=>rfl
    | true=>exact absurd (ho m hm g).symm c
   rw[this]
   rfl
theorem H8 (i s:Int) (es:List En) (h:∀m,m<es.length->iG i (aJ es m)=false):fK i s es=es:=by
 refine jt jz _ _ (by unfold fK;rw[List.length_map]) (fun m hm=>?_)
 have hm':m<es.length:=by unfold fK at hm;rw[List.length_map] at hm;exact hm
 unfold fK
 rw[getD_map _ jz jz es m hm']
 have:=h m hm'
 unfold aJ at this
 rw[this]
 rfl
def goes (l:List AM.Ar) (e:En):Bool:=!(AM.aK l e.page).2
def cE (k:Kn) (es:List En):Nat->Kn
 | 0=>k
 | n+1=>fP (cE k es n) (aJ es n) 1
def qd (k:Kn) (j:Nat):Kn:={ cE k (aq k.aj j).au (aq k.aj j).au.length with aj:=(cE k (aq k.aj j).au (aq k.aj j).au.length).aj++[aq k.aj j] }
def ub (f:Fr) (c:Nat):Fr:=⟨f.data,f.refs+c,f.bW,f.seen⟩
def ua (f:Sl) (c:Nat):Sl:=⟨f.data,f.refs+c⟩
theorem EH (f:Fr):ub f 0=f:=by unfold ub;simp
theorem EG (f:Sl):ua f 0=f:=by unfold ua;simp
theorem oM {k:Kn} (h:aQ k) {j:Nat} (hj:j<k.aj.length):∀m,m<=(aq k.aj j).au.length->(cE k (aq k.aj j).au m).ak=k.ak/\(cE k (aq k.aj j).au m).hand=k.hand/\(cE k (aq k.aj j).au m).aj=k.aj/\(cE k (aq k.aj j).au m).frames.length=k.frames.length/\(cE k (aq k.aj j).au m).slots.length=k.slots.length /\
  (∀n,n<k.frames.length->aD (cE k (aq k.aj j).au m).frames n=ub (aD k.frames n) (nm (aq k.aj j).aA 1 n ((aq k.aj j).au.take m)).length) /\
  (∀n,n<k.slots.length->bk (cE k (aq k.aj j).au m).slots n=ua (bk k.slots n) (nm (aq k.aj j).aA 2 n ((aq k.aj j).au.take m)).length)
 | 0,_=>⟨rfl,rfl,rfl,rfl,rfl,fun n _=>(EH _).symm,fun n _=>(EG _).symm⟩
 | m+1,hm=>by
  obtain⟨h1,h2,h3,h4,h5,h6,h7⟩:=oM h hj m (by omega)
  have hlt:m<(aq k.aj j).au.length:=by omega
  have hin:aJ (aq k.aj j).au m∈(aq k.aj j).au:=dB hlt
  rw[take_succ _ m hlt]
  obtain⟨e,he⟩:=ex (aJ (aq k.aj j).au m)
  obtain⟨q,hq⟩:=ex (cE k (aq k.aj j).au m)
  rw[<- he] at hin ⊢
  have hs:cE k (aq k.aj j).au (m+1)=fP q e 1:=by rw[hq,he];rfl
  rw[<- hq] at h1 h2 h3 h4 h5 h6 h7
  rw[hs]
  have aao:∀(f:Fr) (a b:Nat),ub (ub f a) b=ub f (a+b):=fun f a b=>by unfold ub;congr 1;show f.refs+_+_=_;omega
  have aan:∀(f:Sl) (a b:Nat),ua (ua f a) b=ua f (a+b):=fun f a b=>by unfold ua;congr 1;show f.refs+_+_=_;omega
  rcases fE h hj hin with b | b
  · have hc:fP q e 1={ q with frames:=q.frames.set e.loc.toNat (Dp (aD q.frames e.loc.toNat) 1) }:=by unfold fP;rw[if_pos b.1]
    rw[hc]
    refine⟨h1,h2,h3,by show(q.frames.set _ _).length=_;rw[List.length_set];exact h4,h5,fun n hn=>?_,fun n hn=>?_⟩
    · show aD (q.frames.set _ _) n=_
      rw[dZ _ _ _ _ (by rw[h4];exact b.2.2),eZ,List.length_append]
      by_cases c:e.loc.toNat=n
      · rw[if_pos c,kE _ (show e.kind=1/\e.loc=(n:Int) by omega),<- aao,<- h6 n hn,c]
        have hr:0<=(aD q.frames n).refs:=by
         rw[h6 n hn]
         have:=(h.mO n hn).refs
         show 0<=(aD k.frames n).refs+_
         omega
        unfold Dp
        rw[if_neg (by omega)]
        rfl
      · rw[if_neg c,jq _ (show ¬(e.kind=1/\e.loc=(n:Int)) by omega),h6 n hn]
        rfl
    · show bk q.slots n=_
      rw[eZ,jq _ (show ¬(e.kind=2/\e.loc=(n:Int)) by omega),h7 n hn,List.append_nil]
  · have hc:fP q e 1={ q with slots:=q.slots.set e.loc.toNat (Dn (bk q.slots e.loc.toNat) 1) }:=by unfold fP;rw[if_neg (by omega)]
    rw[hc]
    refine⟨h1,h2,h3,h4,by show(q.slots.set _ _).length=_;rw[List.length_set];exact h5,fun n hn=>?_,fun n hn=>?_⟩
    · show aD q.frames n=_
      rw[eZ,jq _ (show ¬(e.kind=1/\e.loc=(n:Int)) by omega),h6 n hn,List.append_nil]
    · show bk (q.slots.set _ _) n=_
      rw[mZ _ _ _ _ (by rw[h5];exact b.2.2),eZ,List.length_append]
      by_cases c:e.loc.toNat=n
      · rw[if_pos c,kE _ (show e.kind=2/\e.loc=(n:Int) by omega),<- aan,<- h7 n hn,c]
        have hr:0<=(bk q.slots n).refs:=by
         rw[h7 n hn]
         have:=(h.slt n hn).refs
         show 0<=(bk k.slots n).refs+_
         omega
        unfold Dn
        rw[if_neg (by omega)]
        rfl
      · rw[if_neg c,jq _ (show ¬(e.kind=2/\e.loc=(n:Int)) by omega),h7 n hn]
        rfl
structure abt (k:Kn) (j:Nat) (f:Kn):Prop where
 ak:f.ak=k.ak
 hand:f.hand=k.hand
 aj:f.aj=k.aj++[aq k.aj j]
 nf:f.frames.length=k.frames.length
 ns:f.slots.length=k.slots.length
 mO:∀n,n<k.frames.length->aD f.frames n=ub (aD k.frames n) (eG (aq k.aj j) 1 n).length
 slt:∀n,n<k.slots.length->bk f.slots n=ua (bk k.slots n) (eG (aq k.aj j) 2 n).length
end KM
end Go.Proofs.YtpgifpeohlllfaaGreat
