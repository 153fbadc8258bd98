import Derived.Test.YtpgifpeohlllfaaGreatGT15
set_option maxHeartbeats 20000000
set_option linter.unusedVariables false
set_option maxRecDepth 100000
set_option linter.unusedSimpArgs false
namespace Go.Proofs.YtpgifpeohlllfaaGreat
namespace KO
open Go.RowKit GK
open FW (ai aD)
open KW (bJ bI aK aZ fh cK aI)
open KS (Lc bw kM cD blk cJ)
def eN (s:LM.Sh):List Value:=[I s.page,.string s.data,.slice s.ao s.bg.length s.cap]
def fP (f:LM.Fx):List Value:=[I f.off,.string f.bytes]
def vX (s:LM.Sh):Value:=.slice s.ao s.bg.length s.cap
inductive Lb where
 | no | head | frames | slots | aj | ak
 | aB (i:Nat)
 | aA (i:Nat)
 | bg (i:Nat)
structure St where
 lab:Nat->Lb
 vS:Value
 vF:Value
 vL:Value
 vP:Value
 L:List Lc
structure Kr (lo:Nat) (w:World) (S:St) (k:KM.Kn):Prop where
 iJ:∀b,S.lab b≠.no->lo<=b/\b<w.heap.size
 ak:w.ownsRow lo 50 3 S.vS k.ak.length (k.ak.flatMap eN)
 bg:∀i,i<k.ak.length->w.ownsRow lo 52 2 (vX (LM.aY k.ak i)) (LM.aY k.ak i).bg.length ((LM.aY k.ak i).bg.flatMap fP)
 frames:w.ownsRow lo 40 4 S.vF k.frames.length (k.frames.flatMap bJ)
 slots:w.ownsRow lo 86 2 S.vL k.slots.length (k.slots.flatMap bI)
 aj:w.ownsRow lo 43 3 S.vP S.L.length (S.L.flatMap bw)
 len:S.L.length=k.aj.length
 each:∀i,i<k.aj.length->cJ lo w (cD S.L i) (KM.au k.aj i)
 lS:∀b,blk S.vS b->S.lab b=.ak
 lX:∀i,i<k.ak.length->∀b,blk (vX (LM.aY k.ak i)) b->S.lab b=.bg i
 lF:∀b,blk S.vF b->S.lab b=.frames
 lL:∀b,blk S.vL b->S.lab b=.slots
 lP:∀b,blk S.vP b->S.lab b=.aj
 lA:∀i,i<k.aj.length->∀b,blk (cD S.L i).va b->S.lab b=.aB i
 lE:∀i,i<k.aj.length->∀b,blk (cD S.L i).vp b->S.lab b=.aA i
structure Km (lo mb:Nat) (tt:TypeId) (X:List Value) (w:World) (S:St) (k:KM.Kn):Prop extends Kr lo w S k where
 head:w.heap[mb]?=some (.cells ([S.vS,S.vF,S.vL,S.vP,I k.hand]++X).toArray tt (0,0))
 lH:S.lab mb=.head
structure Ch (S:St) (w:World) (S':St) (w':World):Prop where
 kp:Kp (fun b=>S.lab b≠.no) w w'
 no:∀b,b<w.heap.size->S.lab b=.no->S'.lab b=.no
 eS:S'.vS=S.vS
 eF:S'.vF=S.vF
 eL:S'.vL=S.vL
 eP:S'.vP=S.vP
theorem Ch.refl (S:St) (w:World):Ch S w S w:=⟨Kp.refl _ _,fun _ _ h=>h,rfl,rfl,rfl,rfl⟩
theorem Ch.trans {S S1 S2:St} {w w1 w2:World} (h:Ch S w S1 w1) (g:Ch S1 w1 S2 w2):Ch S w S2 w2 :=
 ⟨⟨g.kp.os.trans h.kp.os,g.kp.tape.trans h.kp.tape,g.kp.output.trans h.kp.output,Nat.le_trans h.kp.size g.kp.size,fun b hb hn=>by
  have hb1:=Nat.lt_of_lt_of_le hb h.kp.size;have hn0:S.lab b=.no:=Classical.not_not.1 hn;have Pj:=h.no b hb hn0;exact(g.kp.block b hb1 (fun x=>x Pj)).trans (h.kp.block b hb hn)⟩,fun b hb hn=>g.no b (Nat.lt_of_lt_of_le hb h.kp.size) (h.no b hb hn),g.eS.trans h.eS,g.eF.trans h.eF,g.eL.trans h.eL,g.eP.trans h.eP⟩
theorem Ch.below {S:St} {w w':World} (h:Below w.heap.size w w'):Ch S w S w':=⟨Kp.bc h,fun _ _ h=>h,rfl,rfl,rfl,rfl⟩
theorem Ch.set {S:St} {w:World} {g j:Nat} {u:Value} (h:S.lab g≠.no):Ch S w S (w.setCell (Ad g j) u):=⟨Kp.set _ _ _ _ h,fun _ _ h=>h,rfl,rfl,rfl,rfl⟩
theorem Ch.keep {S S':St} {w w':World} {b:Nat} {o:Obj} (h:Ch S w S' w') (hb:w.heap[b]?=some o) (hn:S.lab b=.no):w'.heap[b]?=some o:=h.kp.keep hb (fun x=>x hn)
theorem Kr.kp {lo:Nat} {w w':World} {S:St} {k:KM.Kn} {E:Nat->Prop} (h:Kr lo w S k) (hk:Kp E w w') (he:∀b,S.lab b≠.no->¬E b):Kr lo w' S k:=by
 have z:∀{b:Nat} {c:Lb},S.lab b=c->c≠.no->¬E b:=fun e hc=>he _ (by rw[e];exact hc)
 exact⟨fun b hb=>⟨(h.iJ b hb).1,Nat.lt_of_lt_of_le (h.iJ b hb).2 hk.size⟩,hk.row h.ak (fun b hb=>z (h.lS b hb) (by simp)),fun i hi=>hk.row (h.bg i hi) (fun b hb=>z (h.lX i hi b hb) (by simp)),hk.row h.frames (fun b hb=>z (h.lF b hb) (by simp)),hk.row h.slots (fun b hb=>z (h.lL b hb) (by simp)),hk.row h.aj (fun b hb=>z (h.lP b hb) (by simp)),h.len,fun i hi=>(h.each i hi).kp hk (fun b hb=>z (h.lA i hi b hb) (by simp)) (fun b hb=>z (h.lE i hi b hb) (by simp)),h.lS,h.lX,h.lF,h.lL,h.lP,h.lA,h.lE⟩
theorem Kr.below {lo:Nat} {w w':World} {S:St} {k:KM.Kn} (h:Kr lo w S k) (hb:Below w.heap.size w w'):Kr lo w' S k:=h.kp (Kp.bc (D:=fun _=>False) hb) (fun _ _ g=>g)
theorem Kr.mono {lo lo':Nat} {w:World} {S:St} {k:KM.Kn} (h:Kr lo w S k) (hl:lo'<=lo):Kr lo' w S k:=by
 have z:∀{e:TypeId} {n m:Nat} {v:Value} {xs:List Value},w.ownsRow lo e n v m xs->w.ownsRow lo' e n v m xs:=fun hr=>jU hr (fun g hg=>Nat.le_trans hl (hr.lt g hg).1)
 exact⟨fun b hb=>⟨Nat.le_trans hl (h.iJ b hb).1,(h.iJ b hb).2⟩,z h.ak,fun i hi=>z (h.bg i hi),z h.frames,z h.slots,z h.aj,h.len,fun i hi=>(h.each i hi).mono hl,h.lS,h.lX,h.lF,h.lL,h.lP,h.lA,h.lE⟩
theorem Km.below {lo mb:Nat} {tt:TypeId} {X:List Value} {w w':World} {S:St} {k:KM.Kn} (h:Km lo mb tt X w S k) (hb:Below w.heap.size w w'):Km lo mb tt X w' S k:=⟨h.toKr.below hb,B.below h.head hb (B.isLt h.head),h.lH⟩
theorem Km.kp {lo mb:Nat} {tt:TypeId} {X:List Value} {w w':World} {S:St} {k:KM.Kn} {E:Nat->Prop} (h:Km lo mb tt X w S k) (hk:Kp E w w') (he:∀b,S.lab b≠.no->¬E b):Km lo mb tt X w' S k:=⟨h.toKr.kp hk he,hk.keep h.head (he mb (by rw[h.lH];simp)),h.lH⟩
theorem Kr.new {lo:Nat} {w:World} {S:St} {k:KM.Kn} (h:Kr lo w S k) {b:Nat} (hb:w.heap.size<=b):S.lab b=.no:=Classical.not_not.1 fun x=>by have:=(h.iJ b x).2;omega
theorem jy {α:Type} {w:World} {base:Nat} {e:TypeId} {k:Nat} (f:α->List Value) (hf:∀x,(f x).length=k) (d:α) {l:List α} {v:Value} (hr:w.ownsRow base e k v l.length (l.flatMap f)):∃ao cap,v=.slice ao l.length cap/\l.length<=cap/\aZ f k d w ao l:=by
 obtain⟨ao,cap,rfl,hle,hg⟩:=aN hr;refine⟨ao,cap,rfl,hle,fun hl=>?_⟩;obtain⟨g,rfl,hg1,hg2⟩:=hg hl;exact⟨g,0,rfl,hg2,fun i hi j hj=>by rw[Nat.zero_add];exact iZ f hf d hr i j hi hj⟩
theorem Kr.aei {lo:Nat} {w:World} {S:St} {k:KM.Kn} (h:Kr lo w S k):∃ao cap,S.vS=.slice ao k.ak.length cap/\k.ak.length<=cap/\LM.jb w ao k.ak:=by
 obtain⟨ao,cap,e,hc,hr⟩:=jy eN (fun _=>rfl) LM.MP h.ak;refine⟨ao,cap,e,hc,fun hl=>?_⟩;obtain⟨b,off,e1,hb,hi⟩:=hr hl;refine⟨b,off,e1,hb,fun i hlt=>⟨?_,hi i hlt 1 (by omega),hi i hlt 2 (by omega),fun hx=>?_⟩⟩
 · have:=hi i hlt 0 (by omega);rw[Nat.add_zero] at this;exact this
 · obtain⟨ax,cx,ex,_,hrx⟩:=jy fP (fun _=>rfl) LM.fx0 (h.bg i hlt);injection ex with e1 e2 e3;rw[e1];obtain⟨b2,EM,g1,g2,g3⟩:=hrx hx;refine⟨b2,EM,g1,g2,fun n hn=>⟨?_,g3 n hn 1 (by omega)⟩⟩;have:=g3 n hn 0 (by omega);rw[Nat.add_zero] at this;exact this
theorem Kr.aeh {lo:Nat} {w:World} {S:St} {k:KM.Kn} (h:Kr lo w S k):∃ao cap,S.vP=.slice ao k.aj.length cap/\k.aj.length<=cap/\KW.kj w ao k.aj:=by
 obtain⟨ao,cap,e,hc,hr⟩:=jy bw (fun _=>rfl) kM h.aj;rw[h.len] at e hc;refine⟨ao,cap,e,hc,fun hl=>?_⟩;obtain⟨b,off,e1,hb,hi⟩:=hr (by rw[h.len];exact hl);refine⟨b,off,e1,hb,fun i hlt=>?_⟩;have hlt':i<S.L.length:=by rw[h.len];exact hlt
 have hs:=h.each i hlt;obtain⟨ap,cp,hvp,MS,hgp⟩:=jy aK (fun _=>rfl) KM.js hs.aJ;have c0:=hi i hlt' 0 (by omega);have c1:=hi i hlt' 1 (by omega);have c2:=hi i hlt' 2 (by omega);rw[Nat.add_zero] at c0;refine⟨(cD S.L i).va,ap,cp,?_,c1,?_,hs.aB.has,hgp,MS⟩
 · rw[<- hs.live];exact c0
 · rw[<- hvp];exact c2
structure Xj (S:St) (k:KM.Kn) (a:fh):Prop where
 eS:S.vS=.slice a.aS k.ak.length a.cS
 eF:S.vF=.slice a.aF k.frames.length a.cF
 eL:S.vL=.slice a.aL k.slots.length a.cL
 eP:S.vP=.slice a.aP k.aj.length a.cP
theorem Kr.has {lo:Nat} {w:World} {S:St} {k:KM.Kn} (h:Kr lo w S k):∃a,Xj S k a/\cK w a k:=by
 obtain⟨aS,cS,eS,_,hS⟩:=h.aei;obtain⟨aP,cP,eP,_,hP⟩:=h.aeh;obtain⟨aF,cF,eF,_,hF⟩:=jy bJ (fun _=>rfl) KM.mz h.frames;obtain⟨aL,cL,eL,_,hL⟩:=jy bI (fun _=>rfl) KM.xe h.slots;exact⟨⟨aS,cS,aF,cF,aL,cL,aP,cP⟩,⟨eS,eF,eL,eP⟩,⟨hS,hF,hL,hP⟩⟩
theorem Kr.rX {lo:Nat} {w:World} {S:St} {k:KM.Kn} (h:Kr lo w S k) {g n cap:Nat} (hv:S.vF=.slice (some (Ad g 0)) n cap) {i j:Nat} (hi:i<k.frames.length) (hj:j<4) {f:KM.Fr} {u:Value} (e:bJ f=(bJ (KM.aH k.frames i)).set j u) :
  Kr lo (w.setCell (Ad g (i*4+j)) u) S { k with frames:=k.frames.set i f }:=by
 have hk:Kp (fun b=>b=g) w (w.setCell (Ad g (i*4+j)) u):=Kp.set _ _ _ _ rfl;have hg:S.lab g=.frames:=h.lF g (by rw[hv];rfl);have z:∀{b:Nat} {c:Lb},S.lab b=c->c≠.frames->¬b=g:=fun e hc x=>hc (by rw[<- e,x];exact hg)
 have hn:n=k.frames.length:=by
  obtain⟨ao,c,e,_⟩:=aN h.frames;rw[hv] at e;injection e
 subst hn;have hr:=h.frames;rw[hv] at hr;refine⟨fun b hb=>⟨(h.iJ b hb).1,Nat.lt_of_lt_of_le (h.iJ b hb).2 hk.size⟩,hk.row h.ak (fun b hb=>z (h.lS b hb) (by simp)),fun i hi=>hk.row (h.bg i hi) (fun b hb=>z (h.lX i hi b hb) (by simp)),?_,hk.row h.slots (fun b hb=>z (h.lL b hb) (by simp)),hk.row h.aj (fun b hb=>z (h.lP b hb) (by simp)),h.len,fun i hi=>(h.each i hi).kp hk (fun b hb=>z (h.lA i hi b hb) (by simp)) (fun b hb=>z (h.lE i hi b hb) (by simp)),h.lS,h.lX,h.lF,h.lL,h.lP,h.lA,h.lE⟩;have:=ig hr (i*4+j) u;show World.ownsRow _ lo _ 4 S.vF (k.frames.set i f).length _;rw[List.length_set,hv,fE bJ 4 (fun _=>rfl) KM.mz f j u hj k.frames i hi e];exact this
theorem Kr.GN {lo:Nat} {w:World} {S:St} {k:KM.Kn} (h:Kr lo w S k) {g n cap:Nat} (hv:S.vL=.slice (some (Ad g 0)) n cap) {i j:Nat} (hi:i<k.slots.length) (hj:j<2) {f:KM.Sl} {u:Value} (e:bI f=(bI (KM.bj k.slots i)).set j u) :
  Kr lo (w.setCell (Ad g (i*2+j)) u) S { k with slots:=k.slots.set i f }:=by
 have hk:Kp (fun b=>b=g) w (w.setCell (Ad g (i*2+j)) u):=Kp.set _ _ _ _ rfl;have hg:S.lab g=.slots:=h.lL g (by rw[hv];rfl);have z:∀{b:Nat} {c:Lb},S.lab b=c->c≠.slots->¬b=g:=fun e hc x=>hc (by rw[<- e,x];exact hg)
 have hn:n=k.slots.length:=by
  obtain⟨ao,c,e,_⟩:=aN h.slots;rw[hv] at e;injection e
 subst hn;have hr:=h.slots;rw[hv] at hr;refine⟨fun b hb=>⟨(h.iJ b hb).1,Nat.lt_of_lt_of_le (h.iJ b hb).2 hk.size⟩,hk.row h.ak (fun b hb=>z (h.lS b hb) (by simp)),fun i hi=>hk.row (h.bg i hi) (fun b hb=>z (h.lX i hi b hb) (by simp)),hk.row h.frames (fun b hb=>z (h.lF b hb) (by simp)),?_,hk.row h.aj (fun b hb=>z (h.lP b hb) (by simp)),h.len,fun i hi=>(h.each i hi).kp hk (fun b hb=>z (h.lA i hi b hb) (by simp)) (fun b hb=>z (h.lE i hi b hb) (by simp)),h.lS,h.lX,h.lF,h.lL,h.lP,h.lA,h.lE⟩;have:=ig hr (i*2+j) u;show World.ownsRow _ lo _ 2 S.vL (k.slots.set i f).length _;rw[List.length_set,hv,fE bI 2 (fun _=>rfl) KM.xe f j u hj k.slots i hi e];exact this
theorem Kr.turn {lo:Nat} {w w2:World} {S:St} {k:KM.Kn} (h:Kr lo w S k) {j:Nat} (hj:j<k.aj.length) {l:Lc} {s:KM.Sp} {lab':Nat->Lb}
  (hk:Kp (fun b=>S.lab b=.aA j∨S.lab b=.aj∨S.lab b=.aB j) w w2) (hrow:w2.ownsRow lo 43 3 S.vP S.L.length ((S.L.set j l).flatMap bw)) (hs:cJ lo w2 l s)
  (hb:∀b,lab' b≠.no->lo<=b/\b<w2.heap.size) (hlab:∀b c,S.lab b=c->c≠.no->c≠.aB j->c≠.aA j->lab' b=c) (hA:∀b,blk l.va b->lab' b=.aB j) (hE:∀b,blk l.vp b->lab' b=.aA j) :
  Kr lo w2 ⟨lab',S.vS,S.vF,S.vL,S.vP,S.L.set j l⟩ { k with aj:=k.aj.set j s }:=by
 have z:∀{b:Nat} {c:Lb},S.lab b=c->c≠.aA j->c≠.aj->c≠.aB j->¬(S.lab b=.aA j∨S.lab b=.aj∨S.lab b=.aB j):=fun e h1 h2 h3 x=>by
  rw[e] at x;rcases x with x | x | x
  · exact h1 x
  · exact h2 x
  · exact h3 x
 have hLl:(S.L.set j l).length=S.L.length:=List.length_set;have hl:=h.len;have at_:∀i,i<k.aj.length->cD (S.L.set j l) i=if j=i then l else cD S.L i:=fun i hi=>by
  unfold cD;by_cases c:j=i
  · subst c;rw[if_pos rfl,KM.bC _ _ _ _ (by omega)]
  · rw[if_neg c,KM.getD_set_ne _ _ _ _ _ c]
 refine⟨hb,hk.row h.ak (fun b hb=>z (h.lS b hb) (by simp) (by simp) (by simp)),fun i hi=>hk.row (h.bg i hi) (fun b hb=>z (h.lX i hi b hb) (by simp) (by simp) (by simp)),hk.row h.frames (fun b hb=>z (h.lF b hb) (by simp) (by simp) (by simp)),hk.row h.slots (fun b hb=>z (h.lL b hb) (by simp) (by simp) (by simp)),?_,?_,?_,fun b hb=>hlab b _ (h.lS b hb) (by simp) (by simp) (by simp),fun i hi b hb=>hlab b _ (h.lX i hi b hb) (by simp) (by simp) (by simp),fun b hb=>hlab b _ (h.lF b hb) (by simp) (by simp) (by simp),fun b hb=>hlab b _ (h.lL b hb) (by simp) (by simp) (by simp),fun b hb=>hlab b _ (h.lP b hb) (by simp) (by simp) (by simp),?_,?_⟩
 · show World.ownsRow w2 lo _ 3 S.vP (S.L.set j l).length _;rw[hLl];exact hrow
 · show(S.L.set j l).length=(k.aj.set j s).length;rw[hLl,List.length_set,hl]
 · intro i hi;have hi:i<k.aj.length:=by rw[<- List.length_set];exact hi
   show cJ lo w2 (cD (S.L.set j l) i) (KM.au (k.aj.set j s) i);rw[at_ i hi,KM.fR _ _ _ _ hj];by_cases c:j=i
   · rw[if_pos c,if_pos c];exact hs
   · rw[if_neg c,if_neg c];exact(h.each i hi).kp hk (fun b hb=>z (h.lA i hi b hb) (by simp) (by simp) (by simp;omega)) (fun b hb=>z (h.lE i hi b hb) (by simp;omega) (by simp) (by simp))
 · intro i hi b hb;have hi:i<k.aj.length:=by rw[<- List.length_set];exact hi
   have hb:blk (cD (S.L.set j l) i).va b:=hb;rw[at_ i hi] at hb;by_cases c:j=i
   · rw[if_pos c] at hb;rw[<- c];exact hA b hb
   · rw[if_neg c] at hb;exact hlab b _ (h.lA i hi b hb) (by simp) (by simp;omega) (by simp)
 · intro i hi b hb;have hi:i<k.aj.length:=by rw[<- List.length_set];exact hi
   have hb:blk (cD (S.L.set j l) i).vp b:=hb;rw[at_ i hi] at hb;by_cases c:j=i
   · rw[if_pos c] at hb;rw[<- c];exact hE b hb
   · rw[if_neg c] at hb;exact hlab b _ (h.lE i hi b hb) (by simp) (by simp) (by simp;omega)
end KO
namespace KM
open Go.RowKit
def cA (a n:Int):Int:=(a+n-1)/16
def dz (k:Kn) (j:Nat) (a way:Int):Nat×Kn:=cI k j (a/16) way []
def iO (k:Kn) (j:Nat) (a n way:Int):Nat×Kn:=cI (dz k j a way).2 j (cA a n) way [((dz k j a way).1:Int)]
def aO (k:Kn) (j:Nat) (a n way:Int):List Nat×Kn:=if cA a n=a/16 then ([(dz k j a way).1],(dz k j a way).2) else ([(dz k j a way).1,(iO k j a n way).1],(iO k j a n way).2)
structure Reached (k:Kn) (j:Nat) (a n way:Int):Prop where
 right:aQ (aO k j a n way).2
 kept:Kept k (aO k j a n way).2
 one:bf (au (aO k j a n way).2.aj j).aA (a/16)=some ⟨a/16,1,(dz k j a way).1⟩/\(dz k j a way).1<k.frames.length
 two:cA a n≠a/16->bf (au (aO k j a n way).2.aj j).aA (cA a n)=some ⟨cA a n,1,(iO k j a n way).1⟩/\(iO k j a n way).1<k.frames.length
theorem ov {k:Kn} (h:aQ k) {j:Nat} (hj:j<k.aj.length) (a n way:Int) (h1:mapped k j (a/16)) (h2:mapped k j (cA a n)):Reached k j a n way:=by
 have A:=(kT h hj h1 way (held:=[]) (by simp)).1;by_cases c:cA a n=a/16
 · have e:aO k j a n way=([(dz k j a way).1],(dz k j a way).2):=by unfold aO;rw[if_pos c]
   exact⟨by rw[e];exact A.right,by rw[e];exact A.kept,by rw[e];exact⟨A.here,A.lt⟩,fun x=>absurd c x⟩
 · have hj':j<(dz k j a way).2.aj.length:=by have:=A.kept.np;unfold dz;omega
   have B:=(kT (k:=(dz k j a way).2) A.right hj' (A.kept.mapped hj h2) way (held:=[((dz k j a way).1:Int)]) (by simp)).1;have e:aO k j a n way=([(dz k j a way).1,(iO k j a n way).1],(iO k j a n way).2):=by unfold aO;rw[if_neg c]
   refine⟨by rw[e];exact B.right,by rw[e];exact A.kept.trans B.kept,?_,fun _=>?_⟩
   · rw[e];exact⟨B.stay j hj' (a/16) _ A.here rfl (by simp[dz]) (fun x=>c x.2.symm),A.lt⟩
   · rw[e];refine⟨B.here,?_⟩;have hl:=B.lt;have hn:=A.kept.nf;show(iO k j a n way).1<_;unfold iO;unfold dz at hl ⊢;omega
def zK (k:Kn) (j:Nat) (es:List En) (e:En):Kn:=b9 { k with aj:=k.aj.set j (dU (au k.aj j) es) } e
theorem Mo {k:Kn} (h:aQ k) {j:Nat} (hj:j<k.aj.length) {pre post:List En} {e:En} (he:(au k.aj j).aA=pre++e::post):(zK k j (pre++post) e).frames.length=k.frames.length/\(zK k j (pre++post) e).slots.length=k.slots.length/\(zK k j (pre++post) e).ak=k.ak/\(zK k j (pre++post) e).hand=k.hand/\(zK k j (pre++post) e).aj=k.aj.set j (dU (au k.aj j) (pre++post)) /\
  (∀n,aH (zK k j (pre++post) e).frames n=if e.kind=1/\e.loc=(n:Int) then jk (aH k.frames n) else aH k.frames n) /\
  (∀n,bj (zK k j (pre++post) e).slots n=if e.kind=2/\e.loc=(n:Int) then kv (bj k.slots n) else bj k.slots n):=by
 have hm:e∈(au k.aj j).aA:=by rw[he];simp
 unfold zK b9;rcases fN h hj hm with b | b
 · rw[if_pos b.1];refine⟨List.length_set,rfl,rfl,rfl,rfl,fun n=>?_,fun n=>?_⟩
   · show aH (k.frames.set _ (jk (aH k.frames _))) n=_;rw[eW _ _ _ _ b.2.2];by_cases c:e.loc.toNat=n
     · rw[if_pos c,if_pos ⟨b.1,by omega⟩,c]
     · rw[if_neg c,if_neg (by omega)]
   · show bj k.slots n=_;rw[if_neg (by omega)]
 · rw[if_neg (by omega)];refine⟨rfl,List.length_set,rfl,rfl,rfl,fun n=>?_,fun n=>?_⟩
   · show aH k.frames n=_;rw[if_neg (by omega)]
   · show bj (k.slots.set _ (kv (bj k.slots _))) n=_;rw[ot _ _ _ _ b.2.2];by_cases c:e.loc.toNat=n
     · rw[if_pos c,if_pos ⟨b.1,by omega⟩,c]
     · rw[if_neg c,if_neg (by omega)]
theorem Mn {k:Kn} (h:aQ k) {j:Nat} (hj:j<k.aj.length) {pre post:List En} {e:En} (he:(au k.aj j).aA=pre++e::post):aQ (zK k j (pre++post) e):=by
 have hsp:=h.sp hj;obtain⟨f1,f2,f3,f4,f5,f6,f7⟩:=Mo h hj he;have hlen:(zK k j (pre++post) e).aj.length=k.aj.length:=by rw[f5,List.length_set]
 have hin:∀x,x∈pre++post->x∈(au k.aj j).aA:=fun x hx=>by
  rw[he];rcases List.mem_append.1 hx with g | g
  · exact List.mem_append.2 (.inl g)
  · exact List.mem_append.2 (.inr (List.mem_cons_of_mem _ g))
 have pO:∀kd a:Int,∃X Y,names k.aj kd a=X++(nm (au k.aj j).aB kd a [e]++Y)/\names (k.aj.set j (dU (au k.aj j) (pre++post))) kd a=X++Y:=fun kd a=>by
  obtain⟨u,v,g1,g2⟩:=qM k.aj j (dU (au k.aj j) (pre++post)) kd a hj;refine⟨u++nm (au k.aj j).aB kd a pre,nm (au k.aj j).aB kd a post++v,?_,?_⟩
  · rw[g1,qN,he,fQ,qK];simp only[List.append_assoc]
  · rw[g2,qN];show u++(nm (au k.aj j).aB kd a (pre++post)++v)=_;rw[fQ];simp only[List.append_assoc]
 refine⟨?_,by rw[f3];exact h.eJ,by rw[f4,f1];exact h.hand,?_,?_,?_,?_⟩
 · have:=h.counts;unfold KM.counts at this ⊢;rw[f1,f2,f3,hlen];exact this
 · rw[f1,f2,f3,f5];intro s hs;rcases List.mem_or_eq_of_mem_set hs with g | rfl
   · exact h.each s g
   · refine⟨fun dd=>?_,hsp.aB,?_,fun x hx=>hsp.u9 x (hin x hx),hsp.ak⟩
     · have hnil:=(hsp.dead dd).2;rw[he] at hnil;exact absurd hnil (by simp)
     · have hr:kW (au k.aj j).aA:=hsp.eJ;rw[he] at hr;exact List.Pairwise.sublist ((List.Sublist.append (List.Sublist.refl pre) (List.sublist_cons_self e post)).map _) hr
 · rw[f2,f5,yw _ _ (dU (au k.aj j) (pre++post)) hj rfl];exact h.room
 · intro n hn;rw[f1] at hn;rw[f3,f5,f6];obtain⟨X,Y,h1,h2⟩:=pO 1 n;rw[h2];have hf:=h.m7 n hn;rw[h1] at hf;by_cases c2:e.kind=1/\e.loc=(n:Int)
   · rw[if_pos c2];rw[lT _ c2] at hf;exact hf.less
   · rw[if_neg c2];rw[jY _ c2] at hf;exact hf
 · intro n hn;rw[f2] at hn;rw[f5,f7];obtain⟨X,Y,h1,h2⟩:=pO 2 n;rw[h2];have hf:=h.slt n hn;rw[h1] at hf;by_cases c2:e.kind=2/\e.loc=(n:Int)
   · rw[if_pos c2];rw[lT _ c2] at hf;exact hf.less
   · rw[if_neg c2];rw[jY _ c2] at hf;exact hf
end KM
namespace KO
open Go.RowKit GK
open FW (ai aD)
open KW (bJ bI aK aZ fh cK aI)
open KS (Lc bw kM cD blk cJ)
variable {lo mb:Nat} {tt:TypeId} {X:List Value} {w:World} {S:St} {k:KM.Kn}
theorem Em (h:Km lo mb tt X w S k) {g j:Nat} {u:Value} {c:Lb} (hg:S.lab g=c) (hc:c≠.head):(w.setCell (Ad g j) u).heap[mb]?=some (.cells ([S.vS,S.vF,S.vL,S.vP,I k.hand]++X).toArray tt (0,0)) :=
 B.other h.head g j u (fun e=>hc (by rw[<- hg,<- e];exact h.lH))
theorem Km.rX (h:Km lo mb tt X w S k) {g n cap:Nat} (hv:S.vF=.slice (some (Ad g 0)) n cap) {i j:Nat} (hi:i<k.frames.length) (hj:j<4) {f:KM.Fr} {u:Value} (e:bJ f=(bJ (KM.aH k.frames i)).set j u) :
  Km lo mb tt X (w.setCell (Ad g (i*4+j)) u) S { k with frames:=k.frames.set i f }:=⟨h.toKr.rX hv hi hj e,Em h (h.lF g (by rw[hv];rfl)) (by simp),h.lH⟩
theorem Km.GN (h:Km lo mb tt X w S k) {g n cap:Nat} (hv:S.vL=.slice (some (Ad g 0)) n cap) {i j:Nat} (hi:i<k.slots.length) (hj:j<2) {f:KM.Sl} {u:Value} (e:bI f=(bI (KM.bj k.slots i)).set j u) :
  Km lo mb tt X (w.setCell (Ad g (i*2+j)) u) S { k with slots:=k.slots.set i f }:=⟨h.toKr.GN hv hi hj e,Em h (h.lL g (by rw[hv];rfl)) (by simp),h.lH⟩
theorem MZ (h:Kr lo w S k) {g n cap:Nat} (hv:S.vF=.slice (some (Ad g 0)) n cap) {V:World} {i:Nat} {u:Value}:Ch S V S (V.setCell (Ad g i) u):=Ch.set (by rw[h.lF g (by rw[hv];rfl)];simp)
theorem chL (h:Kr lo w S k) {g n cap:Nat} (hv:S.vL=.slice (some (Ad g 0)) n cap) {V:World} {i:Nat} {u:Value}:Ch S V S (V.setCell (Ad g i) u):=Ch.set (by rw[h.lL g (by rw[hv];rfl)];simp)
theorem Km.Lv (h:Km lo mb tt X w S k) {g n cap:Nat} (hv:S.vF=.slice (some (Ad g 0)) n cap) {i:Nat} (hi:i<k.frames.length) (f:KM.Fr) :
  Km lo mb tt X ((((w.setCell (Ad g (i*4)) (.string f.data)).setCell (Ad g (i*4+1)) (I f.refs)).setCell (Ad g (i*4+2)) (.bool f.cj)).setCell (Ad g (i*4+3)) (.bool f.seen)) S { k with frames:=k.frames.set i f } /\
  Ch S w S ((((w.setCell (Ad g (i*4)) (.string f.data)).setCell (Ad g (i*4+1)) (I f.refs)).setCell (Ad g (i*4+2)) (.bool f.cj)).setCell (Ad g (i*4+3)) (.bool f.seen)):=by
 have h1:=h.rX hv hi (j:=0) (by omega) (f:=⟨f.data,(KM.aH k.frames i).refs,(KM.aH k.frames i).cj,(KM.aH k.frames i).seen⟩) (u:=.string f.data) rfl;have h2:=h1.rX hv (i:=i) (by simpa using hi) (j:=1) (by omega) (f:=⟨f.data,f.refs,(KM.aH k.frames i).cj,(KM.aH k.frames i).seen⟩) (u:=I f.refs) (by simp only[KM.aH,KM.bC _ _ _ _ hi];rfl);have h3:=h2.rX hv (i:=i) (by simpa using hi) (j:=2) (by omega) (f:=⟨f.data,f.refs,f.cj,(KM.aH k.frames i).seen⟩) (u:=.bool f.cj) (by simp only[KM.aH,List.set_set,KM.bC _ _ _ _ hi];rfl);have h4:=h3.rX hv (i:=i) (by simpa using hi) (j:=3) (by omega) (f:=f) (u:=.bool f.seen) (by simp only[KM.aH,List.set_set,KM.bC _ _ _ _ hi];rfl);simp only[List.set_set] at h4;exact⟨h4,(((MZ h.toKr hv).trans (MZ h.toKr hv)).trans (MZ h.toKr hv)).trans (MZ h.toKr hv)⟩
theorem Km.Wi (h:Km lo mb tt X w S k) {g n cap:Nat} (hv:S.vL=.slice (some (Ad g 0)) n cap) {i:Nat} (hi:i<k.slots.length) (f:KM.Sl) :
  Km lo mb tt X ((w.setCell (Ad g (i*2)) (.string f.data)).setCell (Ad g (i*2+1)) (I f.refs)) S { k with slots:=k.slots.set i f } /\
  Ch S w S ((w.setCell (Ad g (i*2)) (.string f.data)).setCell (Ad g (i*2+1)) (I f.refs)):=by
 have h1:=h.GN hv hi (j:=0) (by omega) (f:=⟨f.data,(KM.bj k.slots i).refs⟩) (u:=.string f.data) rfl;have h2:=h1.GN hv (i:=i) (by simpa using hi) (j:=1) (by omega) (f:=f) (u:=I f.refs) (by simp only[KM.bj,KM.bC _ _ _ _ hi];rfl);simp only[List.set_set] at h2;exact⟨h2,(chL h.toKr hv).trans (chL h.toKr hv)⟩
theorem Km.SH (h:Km lo mb tt X w S k) (x:Int):Km lo mb tt X (w.setCell (Ad mb 4) (I x)) S { k with hand:=x }/\Ch S w S (w.setCell (Ad mb 4) (I x)):=by
 have hk:Kp (fun b=>b=mb) w (w.setCell (Ad mb 4) (I x)):=Kp.set _ _ _ _ rfl;have z:∀{b:Nat} {c:Lb},S.lab b=c->c≠.head->¬b=mb:=fun e hc x=>hc (by rw[<- e,x];exact h.lH)
 refine⟨⟨⟨fun b hb=>⟨(h.iJ b hb).1,Nat.lt_of_lt_of_le (h.iJ b hb).2 hk.size⟩,hk.row h.ak (fun b hb=>z (h.lS b hb) (by simp)),fun i hi=>hk.row (h.bg i hi) (fun b hb=>z (h.lX i hi b hb) (by simp)),hk.row h.frames (fun b hb=>z (h.lF b hb) (by simp)),hk.row h.slots (fun b hb=>z (h.lL b hb) (by simp)),hk.row h.aj (fun b hb=>z (h.lP b hb) (by simp)),h.len,fun i hi=>(h.each i hi).kp hk (fun b hb=>z (h.lA i hi b hb) (by simp)) (fun b hb=>z (h.lE i hi b hb) (by simp)),h.lS,h.lX,h.lF,h.lL,h.lP,h.lA,h.lE⟩,?_,h.lH⟩,Ch.set (by rw[h.lH];simp)⟩;rw[B.set h.head 4 (I x)];simp
theorem Km.turn {w2:World} (h:Km lo mb tt X w S k) {j:Nat} (hj:j<k.aj.length) {l:Lc} {s:KM.Sp} {lab':Nat->Lb}
  (hk:Kp (fun b=>S.lab b=.aA j∨S.lab b=.aj∨S.lab b=.aB j) w w2) (hrow:w2.ownsRow lo 43 3 S.vP S.L.length ((S.L.set j l).flatMap bw)) (hs:cJ lo w2 l s)
  (hb:∀b,lab' b≠.no->lo<=b/\b<w2.heap.size) (hlab:∀b c,S.lab b=c->c≠.no->c≠.aB j->c≠.aA j->lab' b=c) (hA:∀b,blk l.va b->lab' b=.aB j) (hE:∀b,blk l.vp b->lab' b=.aA j) :
  Km lo mb tt X w2 ⟨lab',S.vS,S.vF,S.vL,S.vP,S.L.set j l⟩ { k with aj:=k.aj.set j s } :=
 ⟨h.toKr.turn hj hk hrow hs hb hlab hA hE,hk.keep h.head (fun x=>by rw[h.lH] at x;simp at x),hlab mb _ h.lH (by simp) (by simp) (by simp)⟩
theorem Jz (L:List Lc) (j:Nat):L.set j (cD L j)=L:=by
 unfold cD;by_cases h:j<L.length
 · rw[List.getD_eq_getElem?_getD,List.getElem?_eq_getElem h,Option.getD_some,List.set_getElem_self]
 · exact List.set_eq_of_length_le (by omega)
theorem Km.kG (h:Km lo mb tt X w S k) {j:Nat} (hj:j<k.aj.length) {g n cap:Nat} (hv:(cD S.L j).vp=.slice (some (Ad g 0)) n cap) {i c:Nat} (hi:i<(KM.au k.aj j).aA.length) (hc:c<3) {e:KM.En} {u:Value} (he:aK e=(aK (KM.aM (KM.au k.aj j).aA i)).set c u) :
  Km lo mb tt X (w.setCell (Ad g (i*3+c)) u) S { k with aj:=k.aj.set j (KM.dU (KM.au k.aj j) ((KM.au k.aj j).aA.set i e)) }/\Ch S w S (w.setCell (Ad g (i*3+c)) u):=by
 have hgl:S.lab g=.aA j:=h.lE j hj g (by rw[hv];rfl);have hk:Kp (fun b=>b=g) w (w.setCell (Ad g (i*3+c)) u):=Kp.set _ _ _ _ rfl;have z:∀{b:Nat} {c:Lb},S.lab b=c->c≠.aA j->¬b=g:=fun e hc x=>hc (by rw[<- e,x];exact hgl)
 have hs:=h.each j hj;have hn:n=(KM.au k.aj j).aA.length:=by
  obtain⟨ao,c,e,_⟩:=aN hs.aJ;rw[hv] at e;injection e
 subst hn;have hr:=hs.aJ;rw[hv] at hr;refine⟨?_,Ch.set (by rw[hgl];simp)⟩;have:=h.turn (w2:=w.setCell (Ad g (i*3+c)) u) hj (l:=cD S.L j) (s:=KM.dU (KM.au k.aj j) ((KM.au k.aj j).aA.set i e)) (lab':=S.lab) (hk.mono (fun b _ e=>.inl (by rw[e];exact hgl))) (by rw[Jz];exact hk.row h.aj (fun b hb=>z (h.lP b hb) (by simp))) ⟨hs.live,hk.row hs.aB (fun b hb=>z (h.lA j hj b hb) (by simp)),?_⟩ (fun b hb=>⟨(h.iJ b hb).1,Nat.lt_of_lt_of_le (h.iJ b hb).2 hk.size⟩) (fun b c e _ _ _=>e) (fun b hb=>h.lA j hj b hb) (fun b hb=>h.lE j hj b hb)
 · rw[Jz] at this;exact this
 · have r2:=ig hr (i*3+c) u;show World.ownsRow _ lo _ 3 (cD S.L j).vp ((KM.au k.aj j).aA.set i e).length (((KM.au k.aj j).aA.set i e).flatMap aK);rw[List.length_set,hv,fE aK 3 (fun _=>rfl) KM.js e c u hc _ i hi he];exact r2
def EU (S:St) (j:Nat) (v:Value):Nat->Lb:=fun b=>if v.ownBlock=some b then .aA j else S.lab b
theorem Km.gy {w1:World} (h:Km lo mb tt X w S k) {j:Nat} (hj:j<k.aj.length) {v:Value} {es:List KM.En} {pb n cap:Nat} (hP:S.vP=.slice (some (Ad pb 0)) n cap)
  (hk:Kp (fun b=>S.lab b=.aA j) w w1) (hr:w1.ownsRow lo 45 3 v es.length (es.flatMap aK)) (hat:∀b,blk v b->S.lab b=.aA j∨S.lab b=.no) :
  Km lo mb tt X (w1.setCell (Ad pb (j*3+2)) v) ⟨EU S j v,S.vS,S.vF,S.vL,S.vP,S.L.set j ⟨(cD S.L j).lv,(cD S.L j).va,v⟩⟩ { k with aj:=k.aj.set j (KM.dU (KM.au k.aj j) es) } /\
  ((∀b,b<w.heap.size->blk v b->S.lab b=.aA j)->Ch S w ⟨EU S j v,S.vS,S.vF,S.vL,S.vP,S.L.set j ⟨(cD S.L j).lv,(cD S.L j).va,v⟩⟩ (w1.setCell (Ad pb (j*3+2)) v)):=by
 have hpl:S.lab pb=.aj:=h.lP pb (by rw[hP];rfl);have gD:Kp (fun b=>b=pb) w1 (w1.setCell (Ad pb (j*3+2)) v):=Kp.set _ _ _ _ rfl;have hs:=h.each j hj;have hl:=h.len;have hrl:∀b,blk v b->lo<=b/\b<w1.heap.size:=fun b hb=>hr.lt b hb
 have hlab:∀b c,S.lab b=c->c≠.no->c≠.aA j->EU S j v b=c:=fun b c e h1 h2=>by
  unfold EU;rw[if_neg,e];intro x;rcases hat b x with y | y
  · exact h2 (e.symm.trans y)
  · exact h1 (e.symm.trans y)
 have hn:n=S.L.length:=by
  obtain⟨ao,c,e,_⟩:=aN h.aj;rw[hP] at e;injection e
 subst hn;have hr1:=hk.row h.aj (fun b hb e=>by rw[h.lP b hb] at e;simp at e);rw[hP] at hr1;have hr2:=ig hr1 (j*3+2) v;rw[<- fE bw 3 (fun _=>rfl) kM ⟨(cD S.L j).lv,(cD S.L j).va,v⟩ 2 v (by omega) S.L j (by omega) rfl] at hr2;have hsz:=Nat.le_trans hk.size gD.size;refine⟨h.turn hj (l:=⟨(cD S.L j).lv,(cD S.L j).va,v⟩) (s:=KM.dU (KM.au k.aj j) es) (lab':=EU S j v) ((hk.mono (D1:=fun b=>S.lab b=.aA j∨S.lab b=.aj∨S.lab b=.aB j) (fun b _ e=>.inl e)).trans gD (fun b _ e=>.inr (.inl (by rw[e];exact hpl)))) (by rw[hP];exact hr2) ⟨hs.live,?_,?_⟩ ?_ (fun b c e h1 _ h3=>hlab b c e h1 h3) (fun b hb=>hlab b _ (h.lA j hj b hb) (by simp) (by simp)) (fun b hb=>if_pos hb),fun hold=>⟨?_,?_,rfl,rfl,rfl,rfl⟩⟩
 · exact gD.row (hk.row hs.aB (fun b hb e=>by rw[h.lA j hj b hb] at e;simp at e)) (fun b hb e=>by have:=h.lA j hj b hb;rw[e,hpl] at this;simp at this)
 · exact gD.row hr (fun b hb e=>by
    subst e;rcases hat b hb with y | y <;> · rw[hpl] at y;simp at y)
 · intro b hb;unfold EU at hb;by_cases c:v.ownBlock=some b
   · exact⟨(hrl b c).1,Nat.lt_of_lt_of_le (hrl b c).2 gD.size⟩
   · rw[if_neg c] at hb;exact⟨(h.iJ b hb).1,Nat.lt_of_lt_of_le (h.iJ b hb).2 hsz⟩
 · exact(hk.mono (fun b _ e=>by rw[e];simp)).trans gD (fun b _ e=>by rw[e,hpl];simp)
 · intro b hb hno;show EU S j v b=.no;unfold EU;rw[if_neg,hno];intro x;have:=hold b hb x;rw[hno] at this;simp at this
end KO
namespace KM
open Go.RowKit
theorem j5 {α:Type} (d:α):∀(l m:List α),l.length=m.length->(∀i,i<l.length->l.getD i d=m.getD i d)->l=m
 | [],[],_,_=>rfl
 | [],b::r,h,_=>by simp at h
 | a::r,[],h,_=>by simp at h
 | a::r,b::t,h,g=>by
  have h0:a=b:=g 0 (Nat.zero_lt_succ _);have h1:=j5 d r t (by simpa using h) (fun i hi=>g (i+1) (Nat.succ_lt_succ hi));rw[h0,h1]
def Dr (f:Fr) (d:Int):Fr:=if f.refs+d=0 then mz else ⟨f.data,f.refs+d,f.cj,f.seen⟩
def Dq (f:Sl) (d:Int):Sl:=if f.refs+d=0 then xe else ⟨f.data,f.refs+d⟩
def dh (k:Kn) (e:En) (d:Int):Kn:=if e.kind=1 then { k with frames:=k.frames.set e.loc.toNat (Dr (aH k.frames e.loc.toNat) d) } else { k with slots:=k.slots.set e.loc.toNat (Dq (bj k.slots e.loc.toNat) d) }
theorem wS (k:Kn) (e:En):dh k e (-1)=b9 k e:=by
 have h1:∀f:Fr,Dr f (-1)=jk f:=fun f=>by unfold Dr jk;rw[<- Int.sub_eq_add_neg]
 have h2:∀f:Sl,Dq f (-1)=kv f:=fun f=>by unfold Dq kv;rw[<- Int.sub_eq_add_neg]
 unfold dh b9;rw[h1,h2]
theorem tQ (k:Kn) (e:En):(b9 k e).aj=k.aj:=by unfold b9;split <;> rfl
theorem Hl (k:Kn) (e:En):(b9 k e).ak=k.ak/\(b9 k e).hand=k.hand:=by unfold b9;split <;> exact⟨rfl,rfl⟩
theorem Lt (k:Kn) (e:En):(b9 k e).frames.length=k.frames.length/\(b9 k e).slots.length=k.slots.length:=by
 unfold b9;split
 · exact⟨List.length_set,rfl⟩
 · exact⟨rfl,List.length_set⟩
def kG (k:Kn) (j:Nat) (es:List En):Kn:={ k with aj:=k.aj.set j (dU (au k.aj j) es) }
theorem Hk (k:Kn) (j:Nat) (es:List En) (e:En):b9 (kG k j es) e=kG (b9 k e) j es:=by unfold b9 kG;split <;> rfl
theorem K4 (k:Kn) (j:Nat) (hj:j<k.aj.length) (es fs:List En):kG (kG k j es) j fs=kG k j fs:=by
 unfold kG;simp only[List.set_set];rw[fR _ _ _ _ hj,if_pos rfl];rfl
theorem K5 (k:Kn) (j:Nat) (hj:j<k.aj.length):kG k j (au k.aj j).aA=k:=by
 unfold kG;have:k.aj.set j (dU (au k.aj j) (au k.aj j).aA)=k.aj:=j5 uu _ _ List.length_set (fun i hi=>by
  have:=fR k.aj j i (dU (au k.aj j) (au k.aj j).aA) hj;unfold au at this ⊢;rw[this];by_cases c:j=i
  · rw[if_pos c,c];rfl
  · rw[if_neg c])
 rw[this]
theorem SI (k:Kn) (j:Nat) (hj:j<k.aj.length) (es:List En):(au (kG k j es).aj j).aA=es:=by
 show(au (k.aj.set j _) j).aA=es;rw[fR _ _ _ _ hj,if_pos rfl];rfl
def bZ (k:Kn) (es:List En) (p:En->Bool):Nat->Kn
 | 0=>k
 | n+1=>if p (aM es n) then b9 (bZ k es p n) (aM es n) else bZ k es p n
def iH (es:List En) (p:En->Bool):List En:=es.filter fun e=>!p e
def dK (k:Kn) (j:Nat) (p:En->Bool):Kn:=kG (bZ k (au k.aj j).aA p (au k.aj j).aA.length) j (iH (au k.aj j).aA p)
theorem gm (k:Kn) (es:List En) (p:En->Bool):∀n,(bZ k es p n).aj=k.aj
 | 0=>rfl
 | n+1=>by
  unfold bZ;split
  · rw[tQ,gm k es p n]
  · exact gm k es p n
theorem qw (k:Kn) (es:List En) (p:En->Bool):∀n,(bZ k es p n).ak=k.ak/\(bZ k es p n).hand=k.hand/\(bZ k es p n).frames.length=k.frames.length/\(bZ k es p n).slots.length=k.slots.length
 | 0=>⟨rfl,rfl,rfl,rfl⟩
 | n+1=>by
  have ih:=qw k es p n;unfold bZ;split
  · have a:=Hl (bZ k es p n) (aM es n);have b:=Lt (bZ k es p n) (aM es n);exact⟨a.1.trans ih.1,a.2.trans ih.2.1,b.1.trans ih.2.2.1,b.2.trans ih.2.2.2⟩
  · exact ih
theorem drop_cons (es:List En) (n:Nat) (h:n<es.length):es.drop n=aM es n::es.drop (n+1):=by
 rw[List.drop_eq_getElem_cons h];unfold aM;rw[List.getD_eq_getElem?_getD,List.getElem?_eq_getElem h];rfl
theorem LL (es:List En) (p:En->Bool) (n:Nat) (h:n<es.length):iH (es.take (n+1)) p=iH (es.take n) p++(if p (aM es n) then [] else [aM es n]):=by
 unfold iH;rw[take_succ es n h,List.filter_append];congr 1;cases g:p (aM es n) <;> simp[g]
theorem nM {k:Kn} (h:aQ k) {j:Nat} (hj:j<k.aj.length) (p:En->Bool):∀n,n<=(au k.aj j).aA.length->aQ (kG (bZ k (au k.aj j).aA p n) j (iH ((au k.aj j).aA.take n) p++(au k.aj j).aA.drop n))
 | 0,_=>by
  have:iH ((au k.aj j).aA.take 0) p++(au k.aj j).aA.drop 0=(au k.aj j).aA:=rfl;rw[this];show aQ (kG k j (au k.aj j).aA);rw[K5 k j hj];exact h
 | n+1,hn=>by
  have ih:=nM h hj p n (by omega);have hlt:n<(au k.aj j).aA.length:=by omega
  have BJ:j<(bZ k (au k.aj j).aA p n).aj.length:=by rw[gm];exact hj
  rw[drop_cons _ n hlt] at ih;rw[LL _ p n hlt];unfold bZ;cases g:p (aM (au k.aj j).aA n) with
  | true =>
   rw[if_pos rfl,if_pos rfl,List.append_nil];have H5:j<(kG (bZ k (au k.aj j).aA p n) j (iH ((au k.aj j).aA.take n) p++aM (au k.aj j).aA n::(au k.aj j).aA.drop (n+1))).aj.length:=by
    show j<List.length (List.set _ _ _);rw[List.length_set];exact BJ
   have:=Mn ih H5 (SI _ j BJ _);have e:zK (kG (bZ k (au k.aj j).aA p n) j (iH ((au k.aj j).aA.take n) p++aM (au k.aj j).aA n::(au k.aj j).aA.drop (n+1))) j (iH ((au k.aj j).aA.take n) p++(au k.aj j).aA.drop (n+1)) (aM (au k.aj j).aA n)=kG (b9 (bZ k (au k.aj j).aA p n) (aM (au k.aj j).aA n)) j (iH ((au k.aj j).aA.take n) p++(au k.aj j).aA.drop (n+1)):=by
    show b9 (kG (kG _ j _) j _) _=_;rw[K4 _ j BJ,Hk]
   rw[e] at this;exact this
  | false =>
   rw[if_neg (by simp),if_neg (by simp),List.append_assoc];exact ih
theorem ua {k:Kn} (h:aQ k) {j:Nat} (hj:j<k.aj.length) (p:En->Bool):aQ (dK k j p):=by
 have:=nM h hj p _ (Nat.le_refl _);rw[List.take_length,List.drop_length,List.append_nil] at this;exact this
theorem ll (k:Kn) (j:Nat) (p:En->Bool):(dK k j p).aj=k.aj.set j (dU (au k.aj j) (iH (au k.aj j).aA p)):=by
 show((bZ k (au k.aj j).aA p _).aj).set j _=_;rw[gm]
theorem lO (k:Kn) (j:Nat) (p:En->Bool):(dK k j p).ak=k.ak/\(dK k j p).hand=k.hand/\(dK k j p).frames.length=k.frames.length/\(dK k j p).slots.length=k.slots.length:=qw k _ p _
theorem Dn (k:Kn) (i:Nat) (es:List En):∀n,∃x,(bZ k es (jn (i:Int)) n).frames=k.frames.set i x/\(bZ k es (jn (i:Int)) n).slots=k.slots
 | 0=>⟨aH k.frames i,by
   show k.frames=_;refine(j5 mz _ _ List.length_set (fun m hm=>?_)).symm;rw[List.length_set] at hm;by_cases c:i=m
   · subst c;rw[bC _ _ _ _ hm];rfl
   · rw[getD_set_ne _ _ _ _ _ c],rfl⟩
 | n+1=>by
  obtain⟨x,h1,h2⟩:=Dn k i es n;unfold bZ;split
  · next g =>
    have g:=iI.1 g;unfold b9;rw[if_pos g.1,g.2,Int.toNat_natCast];refine⟨jk (aH (k.frames.set i x) i),?_,h2⟩;show(bZ k es (jn (i:Int)) n).frames.set i _=_;rw[h1,List.set_set]
  · exact⟨x,h1,h2⟩
def iW (k:Kn) (i:Nat):Nat->Kn
 | 0=>k
 | n+1=>dK (iW k i n) n (jn (i:Int))
theorem qH {k:Kn} (h:aQ k) (i:Nat):∀n,n<=k.aj.length->aQ (iW k i n)/\(iW k i n).ak=k.ak/\(iW k i n).hand=k.hand/\(∃x,(iW k i n).frames=k.frames.set i x)/\(iW k i n).slots=k.slots/\(iW k i n).aj.length=k.aj.length/\∀m,m<k.aj.length->au (iW k i n).aj m=if m<n then oF i (au k.aj m) else au k.aj m
 | 0,_=>by
  obtain⟨x,hx,_⟩:=Dn k i [] 0;exact⟨h,rfl,rfl,⟨x,hx⟩,rfl,rfl,fun m _=>by rw[if_neg (by omega)];rfl⟩
 | n+1,hn=>by
  obtain⟨r,h1,h2,⟨x,h3⟩,h4,h5,h6⟩:=qH h i n (by omega);have hj:n<(iW k i n).aj.length:=by omega
  have fr:=lO (iW k i n) n (jn (i:Int));obtain⟨y,c1,c2⟩:=Dn (iW k i n) i (au (iW k i n).aj n).aA (au (iW k i n).aj n).aA.length;refine⟨ua r hj _,fr.1.trans h1,fr.2.1.trans h2,⟨y,?_⟩,?_,?_,fun m hm=>?_⟩
  · show(bZ _ _ _ _).frames=_;rw[c1,h3,List.set_set]
  · show(bZ _ _ _ _).slots=_;rw[c2,h4]
  · show(dK _ _ _).aj.length=_;rw[ll,List.length_set];exact h5
  · show au (dK _ _ _).aj m=_;rw[ll,fR _ _ _ _ hj];by_cases c:n=m
    · subst c;rw[if_pos rfl,if_pos (by omega),h6 n hm,if_neg (by omega)];rfl
    · rw[if_neg c,h6 m hm];by_cases d:m<n
      · rw[if_pos d,if_pos (by omega)]
      · rw[if_neg d,if_neg (by omega)]
theorem Oa {k:Kn} (h:aQ k) {i:Nat} (hi:i<k.frames.length):iW k i k.aj.length=fJ k i:=by
 obtain⟨r,h1,h2,⟨x,h3⟩,h4,h5,h6⟩:=qH h i k.aj.length (Nat.le_refl _);have hs:(iW k i k.aj.length).aj=k.aj.map (oF i):=by
  refine j5 uu _ _ (by rw[h5,List.length_map]) (fun m hm=>?_);have hm':m<k.aj.length:=by omega
  have:=h6 m hm';rw[if_pos hm'] at this;have g:=jT (oF i) k.aj m hm';unfold au at this g;rw[this,g]
 have hf:=r.m7 i (by rw[h3,List.length_set];exact hi);have hz:names (iW k i k.aj.length).aj 1 i=[]:=by
  rw[hs];exact jG _ _ _ _ (fun s _=>oY s.aB i s.aA)
 have hx:x=mz:=by
  have:=hf.zero hz;rw[h3] at this;unfold aH at this;rw[bC _ _ _ _ hi] at this;exact this
 have:∀a b:Kn,a.ak=b.ak->a.frames=b.frames->a.slots=b.slots->a.aj=b.aj->a.hand=b.hand->a=b:=fun a b e1 e2 e3 e4 e5=>by
  cases a;cases b;simp_all
 exact this _ _ h1 (by rw[h3,hx];rfl) h4 hs h2
theorem Oc {k:Kn} (h:aQ k) {i:Nat} (hi:i<k.frames.length) {j:Nat} (hj:j<k.aj.length) {a b:Nat} (ha:a<(au k.aj j).aA.length) (hb:b<(au k.aj j).aA.length) (h1:jn (i:Int) (aM (au k.aj j).aA a)=true) (h2:jn (i:Int) (aM (au k.aj j).aA b)=true):a=b:=by
 have jP:=fW hj (dO (d:=js) ha);have hm2:=fW hj (dO (d:=js) hb);have g1:=iI.1 h1;have g2:=iI.1 h2;unfold aM at g1 g2;rw[g1.1,g1.2] at jP;rw[g2.1,g2.2] at hm2;have e:=(h.m7 i hi).one _ jP _ hm2;injection e with e _;have hr:=(h.sp hj).eJ;have hp:=List.pairwise_iff_getElem.1 hr;rcases Nat.lt_trichotomy a b with c | c | c
 · have:=hp a b (by simpa using ha) (by simpa using hb) c;simp only[List.getElem_map] at this;rw[List.getD_eq_getElem?_getD,List.getElem?_eq_getElem ha,List.getD_eq_getElem?_getD,List.getElem?_eq_getElem hb] at e;simp only[Option.getD_some] at e;omega
 · exact c
 · have:=hp b a (by simpa using hb) (by simpa using ha) c;simp only[List.getElem_map] at this;rw[List.getD_eq_getElem?_getD,List.getElem?_eq_getElem ha,List.getD_eq_getElem?_getD,List.getElem?_eq_getElem hb] at e;simp only[Option.getD_some] at e;omega
theorem GC (i s:Int) (es:List En) (n:Nat) (hn:n<es.length) (h:jn i (aM es n)=true) (ho:∀m,m<es.length->jn i (aM es m)=true->m=n):es.set n ⟨(aM es n).page,2,s⟩=gy i s es:=by
 refine j5 js _ _ (by unfold gy;rw[List.length_set,List.length_map]) (fun m hm=>?_);rw[List.length_set] at hm;unfold gy;rw[getD_map _ js js es m hm];by_cases c:n=m
 · subst c;rw[bC _ _ _ _ hm];unfold aM at h ⊢;rw[if_pos h]
 · rw[getD_set_ne _ _ _ _ _ c];have:jn i (es.getD m js)=false:=by
    cases g:jn i (es.getD m js) with
    | false=>rfl
    | true=>exact absurd (ho m hm g).symm c
   rw[this];rfl
theorem KE (i s:Int) (es:List En) (h:∀m,m<es.length->jn i (aM es m)=false):gy i s es=es:=by
 refine j5 js _ _ (by unfold gy;rw[List.length_map]) (fun m hm=>?_);have hm':m<es.length:=by unfold gy at hm;rw[List.length_map] at hm;exact hm
 unfold gy;rw[getD_map _ js js es m hm'];have:=h m hm';unfold aM at this;rw[this];rfl
end KM
end Go.Proofs.YtpgifpeohlllfaaGreat
