import Derived.Test.YtpgifpeohlllfaaGreatGS00
import Derived.Test.YtpgifpeohlllfaaGreatGS17
import Derived.OrdersHeld
import Derived.Deep.RegionHeld
import Derived.Deep.DeepCutAuto
set_option maxHeartbeats 20000000
set_option linter.unusedVariables false
set_option maxRecDepth 100000
set_option linter.unusedSimpArgs false
namespace Go.Proofs.YtpgifpeohlllfaaGreat
namespace KM
open Go.RowKit
def Same (xs ys:List LM.Sh):Prop:=ys.map LM.plain=xs.map LM.plain
def bu (k:Kn) (hs:List LM.Sh):Kn:=⟨hs,k.frames,k.slots,k.aj,k.hand⟩
theorem Same.len {xs ys:List LM.Sh} (h:Same xs ys):ys.length=xs.length:=by
 have:=congrArg List.length h
 simpa using this
theorem kT {a b:LM.Sh} (h:LM.plain a=LM.plain b):a.page=b.page/\a.data=b.data/\a.bh=b.bh:=by
 injection h with h1 h2 h3
 exact⟨h1,h2,h3⟩
theorem Same.at {xs ys:List LM.Sh} (h:Same xs ys) (i:Nat):LM.plain (LM.aW ys i)=LM.plain (LM.aW xs i):=by
 unfold Same at h
 unfold LM.aW
 have h1:(ys.map LM.plain)[i]?=(xs.map LM.plain)[i]?:=by rw[h]
 rw[List.getElem?_map,List.getElem?_map] at h1
 rw[List.getD_eq_getElem?_getD,List.getD_eq_getElem?_getD]
 cases g1:ys[i]? with
 | none =>
  cases g2:xs[i]? with
  | none=>rfl
  | some x=>rw[g1,g2] at h1;cases h1
 | some y =>
  cases g2:xs[i]? with
  | none=>rw[g1,g2] at h1;cases h1
  | some x =>
   rw[g1,g2] at h1
   injection h1
theorem Gl {a b:LM.Sh} (h:LM.plain a=LM.plain b):LM.mA a=LM.mA b:=by
 obtain⟨h1,h2,h3⟩:=kT h
 unfold LM.mA
 rw[h2,h3]
theorem Gk {a b:LM.Sh} (h:LM.plain a=LM.plain b):LM.bN a=LM.bN b:=by
 obtain⟨h1,h2,h3⟩:=kT h
 unfold LM.bN LM.jE
 rw[h1,h2,h3]
theorem xI (p:Int):∀(xs ys:List LM.Sh),Same xs ys->(bU ys p).map LM.plain=(bU xs p).map LM.plain
 | [],[],_=>rfl
 | [],b::r,h=>by have:=congrArg List.length h;simp at this
 | a::r,[],h=>by have:=congrArg List.length h;simp at this
 | a::r,b::t,h=>by
  have h:LM.plain b::t.map LM.plain=LM.plain a::r.map LM.plain:=h
  injection h with h1 h2
  have ih:=xI p r t h2
  have hp:=(kT h1).1
  unfold bU at ih ⊢
  rw[List.find?_cons,List.find?_cons,hp]
  cases decide (a.page=p) with
  | true=>exact congrArg some h1
  | false=>exact ih
theorem uZ {xs ys:List LM.Sh} (h:Same xs ys) (p:Int):filled ys p=filled xs p:=by
 have:=xI p xs ys h
 unfold filled
 cases g1:bU ys p with
 | none =>
  cases g2:bU xs p with
  | none=>rfl
  | some x=>rw[g1,g2] at this;cases this
 | some y =>
  cases g2:bU xs p with
  | none=>rw[g1,g2] at this;cases this
  | some x =>
   rw[g1,g2] at this
   injection this with this
   exact Gl this
theorem ui {xs ys:List LM.Sh} (h:Same xs ys) (p:Int):(bU ys p).isSome=(bU xs p).isSome:=by
 have:=congrArg Option.isSome (xI p xs ys h)
 simpa using this
theorem xJ {xs ys:List LM.Sh} (h:Same xs ys) (p:Int) (z:Bool):dY ys p z=dY xs p z:=by
 unfold dY
 rw[uZ h]
theorem AA {xs ys:List LM.Sh} (h:Same xs ys):LM.cV ys=LM.cV xs:=by
 have:∀n,LM.cB ys n=LM.cB xs n:=fun n=>by
  induction n with
  | zero=>rfl
  | succ n ih =>
   unfold LM.cB
   rw[ih,Gk (h.at n)]
   unfold LM.gz
   rw[(kT (h.at n)).1,(kT (h.at (n-1))).1]
 unfold LM.cV
 rw[h.len,this]
theorem aU.bu {k:Kn} (h:aU k) {hs:List LM.Sh} (s:Same k.ak hs):aU (bu k hs):=by
 refine⟨?_,(AA s).trans h.eN,h.hand,fun x hx=>?_,h.room,fun i hi=>?_,h.slt⟩
 · have:=h.c
   have e:=s.len
   refine decide_eq_true ?_
   show(3<=k.frames.length/\k.frames.length<=64)/\k.slots.length<=512/\(1<=k.aj.length/\k.aj.length<=4)/\hs.length<=255
   omega
 · have g:=h.each x hx
   exact⟨g.dead,g.aD,g.eN,g.vW,fun p h1 h2=>(ui s p).trans (g.ak p h1 h2)⟩
 · have g:=h.nz i hi
   exact⟨g.refs,g.zero,g.one,g.size,fun d x hx=>(g.fill d x hx).trans (xJ s _ _).symm⟩
theorem E8 (k:Kn) (hs:List LM.Sh) (i:Nat):cT (bu k hs) i=bu (cT k i) hs:=by
 unfold cT
 show(if (aI k.frames i).b9=true then (match rq k.slots with
  | some s=>xB (bu k hs) i s
  | none=>rA (bu k hs) i) else rA (bu k hs) i)=_
 by_cases c:(aI k.frames i).b9=true
 · rw[if_pos c,if_pos c]
   cases rq k.slots <;> rfl
 · rw[if_neg c,if_neg c];rfl
theorem vZ (held:List Int) (hs:List LM.Sh):∀(n:Nat) (k:Kn),jW held n (bu k hs)=bu (jW held n k) hs
 | 0,k=>rfl
 | n+1,k=>by
  unfold jW
  show(if ki held k=true then jW held n (bu (gK held k) hs) else bu k hs)=_
  by_cases c:ki held k=true
  · rw[if_pos c,if_pos c];exact vZ held hs n _
  · rw[if_neg c,if_neg c]
theorem Be (k:Kn) (hs:List LM.Sh) (held:List Int):bR (bu k hs) held=((bR k held).1,bu (bR k held).2 hs):=by
 unfold bR
 show(match vJ k.frames with
  | some i=>(i,bu k hs)
  | none=>_)=_
 cases vJ k.frames with
 | some i=>rfl
 | none =>
  show(_,_)=(_,_)
  rw[vZ,show(bu (jW held 70 k) hs).hand=(jW held 70 k).hand from rfl,E8]
  rfl
theorem Ei (k:Kn) (hs:List LM.Sh) (e:En):cN (bu k hs) e=bu (cN k e) hs:=by unfold cN;split <;> rfl
theorem rT (k:Kn) (hs:List LM.Sh) (j:Nat) (p:Int) (i:Nat) (d:ByteArray) (dy:Bool):cW (bu k hs) j p i d dy=bu (cW k j p i d dy) hs:=by
 unfold cW
 show(match bc (au k.aj j).aA p with
  | none=>_
  | some e=>_)=_
 cases bc (au k.aj j).aA p with
 | none=>rfl
 | some e=>exact Ei (dZ (jb k i d dy) j ⟨p,1,i⟩) hs e
theorem zW {k:Kn} (h:aU k) {held:List Int} (hl:held.length<=2) {hs:List LM.Sh} (s:Same k.ak hs) (j:Nat) (p:Int):bY (bu k hs) j p held=((bY k j p held).1,bu (bY k j p held).2 hs):=by
 have hsh:=(m6 h hl).kept.ak
 unfold bY
 show(match bc (au k.aj j).aA p with
  | some e=>_
  | none=>_)=_
 rw[Be]
 cases bc (au k.aj j).aA p with
 | none =>
  dsimp only
  rw[rT]
  show(_,bu (cW _ _ _ _ (dY hs p _) _) hs)=_
  rw[xJ s,hsh]
  rfl
 | some e =>
  dsimp only
  by_cases c:e.kind=1
  · rw[if_pos c,if_pos c]
  · rw[if_neg c,if_neg c,rT]
    rfl
theorem Ff (k:Kn) (hs:List LM.Sh) (held:List Int) (j:Nat) (p:Int) (a:Nat):ic (bu k hs) j p a held=((ic k j p a held).1,bu (ic k j p a held).2 hs):=by
 unfold ic
 rw[Be]
 by_cases c:(aI k.frames a).refs=1
 · rw[if_pos c,if_pos (show(aI (bu k hs).frames a).refs=1 from c)]
 · rw[if_neg c,if_neg (show ¬(aI (bu k hs).frames a).refs=1 from c),rT]
   rfl
theorem wa {k:Kn} (h:aU k) {held:List Int} (hl:held.length<=2) {hs:List LM.Sh} (s:Same k.ak hs) (j:Nat) (p way:Int):cj (bu k hs) j p way held=((cj k j p way held).1,bu (cj k j p way held).2 hs):=by
 have e:iH (bu k hs) j p way held=((iH k j p way held).1,bu (iH k j p way held).2 hs):=by
  unfold iH
  rw[zW h hl s]
  by_cases c:way=1
  · rw[if_pos c,if_pos c]
    exact Ff _ _ _ _ _ _
  · rw[if_neg c,if_neg c]
 unfold cj
 rw[e]
 rfl
theorem u6 {k:Kn} (h:aU k) {j:Nat} (hj:j<k.aj.length) {a n way:Int} (h1:mapped k j (a/16)) {hs:List LM.Sh} (s:Same k.ak hs):aO (bu k hs) j a n way=((aO k j a n way).1,bu (aO k j a n way).2 hs):=by
 have A:=(kF h hj h1 way (held:=[]) (by simp)).1
 have e1:dz (bu k hs) j a way=((dz k j a way).1,bu (dz k j a way).2 hs):=wa h (by simp) s j _ way
 have e2:iI (bu k hs) j a n way=((iI k j a n way).1,bu (iI k j a n way).2 hs):=by
  unfold iI
  rw[e1]
  have s2:Same (dz k j a way).2.ak hs:=by
   have:(dz k j a way).2.ak=k.ak:=A.kept.ak
   rw[this];exact s
  exact wa A.right (by simp) s2 j _ way
 unfold aO
 rw[e1,e2]
 by_cases c:bZ a n=a/16
 · rw[if_pos c,if_pos c]
 · rw[if_neg c,if_neg c]
theorem yh (k:Kn) (hs:List LM.Sh) (ids:List Nat) (s:ByteArray):∀n,iy (bu k hs) ids s n=bu (iy k ids s n) hs
 | 0=>rfl
 | n+1=>by
  unfold iy
  rw[yh k hs ids s n]
  rfl
theorem EW (k:Kn) (hs:List LM.Sh) (e:En) (d:Int):gD (bu k hs) e d=bu (gD k e d) hs:=by unfold gD;split <;> rfl
end KM
namespace KO
open Go.RowKit GK
open FW (ai aB)
open KW (bE bD aK aZ fu cI aJ)
open KS (Lc bJ oY dC blk cU)
variable {lo mb:Nat} {tt:TypeId} {X:List Value} {w:World} {S:St} {k:KM.Kn}
theorem NM {w:World} {mb:Nat} {hand:Int} (hm:w.heap[mb]?=some (.cells #[Nl,Nl,Nl,Nl,I hand] 27 (0,0))):Km mb mb 27 [] w ⟨fun b=>if b=mb then .head else .no,Nl,Nl,Nl,Nl,[]⟩ ⟨[],[],[],[],hand⟩ :=
 ⟨⟨fun b hb=>by
   have:b=mb:=Classical.not_not.1 fun h=>hb (if_neg h)
   subst this;exact⟨Nat.le_refl _,B.isLt hm⟩,
  World.ownsRow_nil _ _ _ _,fun i hi=>absurd hi (Nat.not_lt_zero _),World.ownsRow_nil _ _ _ _,World.ownsRow_nil _ _ _ _,World.ownsRow_nil _ _ _ _,rfl,fun i hi=>absurd hi (Nat.not_lt_zero _),(fun b hb=>by cases hb),fun i hi=>absurd hi (Nat.not_lt_zero _),(fun b hb=>by cases hb),(fun b hb=>by cases hb),(fun b hb=>by cases hb),fun i hi=>absurd hi (Nat.not_lt_zero _),fun i hi=>absurd hi (Nat.not_lt_zero _)⟩,hm,if_pos rfl⟩
theorem Ax (L:List LM.Sh) (l:LM.Sh) (i:Nat) (hi:i<L.length+1):LM.aW (L++[l]) i=if i<L.length then LM.aW L i else l:=by
 unfold LM.aW
 rw[List.getD_eq_getElem?_getD,List.getD_eq_getElem?_getD]
 by_cases h:i<L.length
 · rw[if_pos h,List.getElem?_append_left h]
 · rw[if_neg h,List.getElem?_append_right (by omega)]
   have:i-L.length=0:=by omega
   rw[this];rfl
def GN (S:St) (v:Value) (n:Nat) (x:Value):Nat->Lb:=fun b=>if v.ownBlock=some b then .ak else if x.ownBlock=some b then .bh n else S.lab b
theorem Km.Xz {w2 w4:World} {v':Value} {s:LM.Sh} {O:Obj} (h:Km lo mb tt X w S k) (hlo:lo<=w.heap.size) (hb2:Below w.heap.size w w2)
  (Ha:w2.ownsRow w.heap.size 52 2 (vX s) s.bh.length (s.bh.flatMap fI)) (hgr:(w2.alloc O).grownBy w4 S.vS.ownBlock) (hown:w4.ownsRow lo 50 3 v' (k.ak.length+1) (k.ak.flatMap eI++eI s))
  (hat:v'.ownBlock=S.vS.ownBlock∨v'.ownBlock=some (w2.alloc O).heap.size) :
  Km lo mb tt X (w4.setCell (Ad mb 0) v') ⟨GN S v' k.ak.length (vX s),v',S.vF,S.vL,S.vP,S.L⟩ { k with ak:=k.ak++[s] }/\Kp (fun b=>S.lab b≠.no) w (w4.setCell (Ad mb 0) v'):=by
 have s1:=hb2.size
 have s2:=hgr.size
 have hz:(w2.alloc O).heap.size=w2.heap.size+1:=World.size_alloc _ _
 rw[hz] at s2 hat
 have kA:Kp (blk S.vS) w w2:=Kp.aY hb2
 have kB:Kp (blk S.vS) w2 (w2.alloc O):=Kp.alloc _ w2 O
 have kC:Kp (blk S.vS) (w2.alloc O) w4:=Kp.grown hgr (fun _ e=>e)
 have kD:=kA.trans (kB.trans kC (fun _ _ g=>g)) (fun _ _ g=>g)
 have gY:Kp (fun b=>b=mb) w4 (w4.setCell (Ad mb 0) v'):=Kp.set _ _ _ _ rfl
 have eA:∀b,blk (vX s) b->w.heap.size<=b/\b<w2.heap.size:=fun b hb=>Ha.lt b hb
 have hvb:∀b,blk S.vS b->b<w.heap.size:=fun b hb=>(h.ak.lt b hb).2
 have hv4:∀b,blk v' b->blk S.vS b∨b=w2.heap.size+1:=fun b hb=>by
  unfold blk at hb ⊢
  rcases hat with e | e
  · exact .inl (by rw[<- e];exact hb)
  · right
    rw[e] at hb
    injection hb with hb
    exact hb.symm
 have hmb:=B.isLt h.head
 have old:∀b c,S.lab b=c->c≠.no->c≠.ak->GN S v' k.ak.length (vX s) b=c:=fun b c e h1 h2=>by
  have hb:=(h.kP b (by rw[e];exact h1)).2
  unfold GN
  rw[if_neg,if_neg,e]
  · intro x;have:=eA b x;omega
  · intro x
    rcases hv4 b x with g | g
    · exact h2 (by rw[<- e];exact h.lS b g)
    · omega
 have zD:∀{b:Nat} {c:Lb},S.lab b=c->c≠.ak->¬blk S.vS b:=fun e hc x=>hc (by rw[<- e];exact h.lS _ x)
 have zH:∀{b:Nat} {c:Lb},S.lab b=c->c≠.head->¬b=mb:=fun e hc x=>hc (by rw[<- e,x];exact h.lH)
 have row:∀{e:TypeId} {n m:Nat} {v:Value} {xs:List Value},w.ownsRow lo e n v m xs->(∀b,blk v b->¬blk S.vS b/\¬b=mb)->(w4.setCell (Ad mb 0) v').ownsRow lo e n v m xs:=fun hr hq=>gY.row (kD.row hr (fun b hb=>(hq b hb).1)) (fun b hb=>(hq b hb).2)
 refine⟨⟨⟨fun b hb=>?_,?_,fun i hi=>?_,row h.frames (fun b hb=>⟨zD (h.lF b hb) (by simp),zH (h.lF b hb) (by simp)⟩),row h.slots (fun b hb=>⟨zD (h.lL b hb) (by simp),zH (h.lL b hb) (by simp)⟩),row h.aj (fun b hb=>⟨zD (h.lP b hb) (by simp),zH (h.lP b hb) (by simp)⟩),h.len,fun i hi=>?_,fun b hb=>if_pos hb,fun i hi b hb=>?_,fun b hb=>old b _ (h.lF b hb) (by simp) (by simp),fun b hb=>old b _ (h.lL b hb) (by simp) (by simp),fun b hb=>old b _ (h.lP b hb) (by simp) (by simp),fun i hi b hb=>old b _ (h.lA i hi b hb) (by simp) (by simp),fun i hi b hb=>old b _ (h.lE i hi b hb) (by simp) (by simp)⟩,?_,old mb _ h.lH (by simp) (by simp)⟩,?_⟩
 · have hb:GN S v' k.ak.length (vX s) b≠.no:=hb
   have hs4:(w4.setCell (Ad mb 0) v').heap.size=w4.heap.size:=by simp
   rw[hs4]
   unfold GN at hb
   by_cases c:v'.ownBlock=some b
   · exact hown.lt b c
   · rw[if_neg c] at hb
     by_cases d:(vX s).ownBlock=some b
     · have:=eA b d;omega
     · rw[if_neg d] at hb
       have:=h.kP b hb;omega
 · show World.ownsRow _ lo _ 3 v' (k.ak++[s]).length ((k.ak++[s]).flatMap eI)
   rw[List.length_append,List.length_singleton,List.flatMap_append]
   have:w4.ownsRow lo 50 3 v' (k.ak.length+1) (k.ak.flatMap eI++[s].flatMap eI):=by simpa using hown
   exact gY.row this (fun b hb e=>by
    rcases hv4 b hb with g | g
    · exact zH (h.lS b g) (by simp) e
    · omega)
 · have hi:i<(k.ak++[s]).length:=hi
   rw[List.length_append,List.length_singleton] at hi
   show World.ownsRow _ lo _ 2 (vX (LM.aW (k.ak++[s]) i)) (LM.aW (k.ak++[s]) i).bh.length ((LM.aW (k.ak++[s]) i).bh.flatMap fI)
   rw[Ax _ _ _ hi]
   by_cases c:i<k.ak.length
   · rw[if_pos c]
     exact row (h.bh i c) (fun b hb=>⟨zD (h.lX i c b hb) (by simp),zH (h.lX i c b hb) (by simp)⟩)
   · rw[if_neg c]
     refine gY.row ((kB.trans kC (fun _ _ g=>g)).row (jO Ha (fun g hg=>by have:=eA g hg;omega)) (fun b hb g=>?_)) (fun b hb e=>?_)
     · have:=hvb b g;have:=eA b hb;omega
     · have:=eA b hb;omega
 · exact((h.each i hi).kp kD (fun b hb=>zD (h.lA i hi b hb) (by simp)) (fun b hb=>zD (h.lE i hi b hb) (by simp))).kp gY (fun b hb=>zH (h.lA i hi b hb) (by simp)) (fun b hb=>zH (h.lE i hi b hb) (by simp))
 · have hi:i<(k.ak++[s]).length:=hi
   rw[List.length_append,List.length_singleton] at hi
   have hb:blk (vX (LM.aW (k.ak++[s]) i)) b:=hb
   rw[Ax _ _ _ hi] at hb
   by_cases c:i<k.ak.length
   · rw[if_pos c] at hb
     exact old b _ (h.lX i c b hb) (by simp) (by simp)
   · have e:i=k.ak.length:=by omega
     rw[if_neg c] at hb
     have hx:=eA b hb
     show GN S v' k.ak.length (vX s) b=.bh i
     unfold GN
     rw[if_neg,if_pos (show(vX s).ownBlock=some b from hb),e]
     intro x
     rcases hv4 b x with g | g
     · have:=hvb b g;omega
     · omega
 · have:w4.heap[mb]?=some (.cells ([S.vS,S.vF,S.vL,S.vP,I k.hand]++X).toArray tt (0,0)):=kD.keep h.head (fun x=>by have:=h.lS mb x;rw[h.lH] at this;simp at this)
   rw[B.set this 0 v']
   simp
 · exact(kD.mono (fun b _ g=>by rw[h.lS b g];simp)).trans gY (fun b _ e=>by rw[e,h.lH];simp)
def NL (S:St) (v:Value):Nat->Lb:=fun b=>if v.ownBlock=some b then .frames else S.lab b
theorem Km.abz {w4:World} {v':Value} {fs:List KM.Fr} (h:Km lo mb tt X w S k) (hgr:w.grownBy w4 S.vF.ownBlock) (hown:w4.ownsRow lo 40 4 v' fs.length (fs.flatMap bE)) (hat:v'.ownBlock=S.vF.ownBlock∨v'.ownBlock=some w.heap.size) :
  Km lo mb tt X (w4.setCell (Ad mb 1) v') ⟨NL S v',S.vS,v',S.vL,S.vP,S.L⟩ { k with frames:=fs }/\Kp (fun b=>S.lab b≠.no) w (w4.setCell (Ad mb 1) v'):=by
 have s2:=hgr.size
 have kD:Kp (blk S.vF) w w4:=Kp.grown hgr (fun _ e=>e)
 have gY:Kp (fun b=>b=mb) w4 (w4.setCell (Ad mb 1) v'):=Kp.set _ _ _ _ rfl
 have hvb:∀b,blk S.vF b->b<w.heap.size:=fun b hb=>(h.frames.lt b hb).2
 have hv4:∀b,blk v' b->blk S.vF b∨b=w.heap.size:=fun b hb=>by
  unfold blk at hb ⊢
  rcases hat with e | e
  · exact .inl (by rw[<- e];exact hb)
  · right
    rw[e] at hb
    injection hb with hb
    exact hb.symm
 have hmb:=B.isLt h.head
 have old:∀b c,S.lab b=c->c≠.no->c≠.frames->NL S v' b=c:=fun b c e h1 h2=>by
  have hb:=(h.kP b (by rw[e];exact h1)).2
  unfold NL
  rw[if_neg,e]
  intro x
  rcases hv4 b x with g | g
  · exact h2 (by rw[<- e];exact h.lF b g)
  · omega
 have zD:∀{b:Nat} {c:Lb},S.lab b=c->c≠.frames->¬blk S.vF b:=fun e hc x=>hc (by rw[<- e];exact h.lF _ x)
 have zH:∀{b:Nat} {c:Lb},S.lab b=c->c≠.head->¬b=mb:=fun e hc x=>hc (by rw[<- e,x];exact h.lH)
 have row:∀{e:TypeId} {n m:Nat} {v:Value} {xs:List Value},w.ownsRow lo e n v m xs->(∀b,blk v b->¬blk S.vF b/\¬b=mb)->(w4.setCell (Ad mb 1) v').ownsRow lo e n v m xs:=fun hr hq=>gY.row (kD.row hr (fun b hb=>(hq b hb).1)) (fun b hb=>(hq b hb).2)
 refine⟨⟨⟨fun b hb=>?_,row h.ak (fun b hb=>⟨zD (h.lS b hb) (by simp),zH (h.lS b hb) (by simp)⟩),fun i hi=>row (h.bh i hi) (fun b hb=>⟨zD (h.lX i hi b hb) (by simp),zH (h.lX i hi b hb) (by simp)⟩),?_,row h.slots (fun b hb=>⟨zD (h.lL b hb) (by simp),zH (h.lL b hb) (by simp)⟩),row h.aj (fun b hb=>⟨zD (h.lP b hb) (by simp),zH (h.lP b hb) (by simp)⟩),h.len,fun i hi=>?_,fun b hb=>old b _ (h.lS b hb) (by simp) (by simp),fun i hi b hb=>old b _ (h.lX i hi b hb) (by simp) (by simp),fun b hb=>if_pos hb,fun b hb=>old b _ (h.lL b hb) (by simp) (by simp),fun b hb=>old b _ (h.lP b hb) (by simp) (by simp),fun i hi b hb=>old b _ (h.lA i hi b hb) (by simp) (by simp),fun i hi b hb=>old b _ (h.lE i hi b hb) (by simp) (by simp)⟩,?_,old mb _ h.lH (by simp) (by simp)⟩,?_⟩
 · have hb:NL S v' b≠.no:=hb
   have hs4:(w4.setCell (Ad mb 1) v').heap.size=w4.heap.size:=by simp
   rw[hs4]
   unfold NL at hb
   by_cases c:v'.ownBlock=some b
   · exact hown.lt b c
   · rw[if_neg c] at hb
     have:=h.kP b hb;omega
 · exact gY.row hown (fun b hb e=>by
    rcases hv4 b hb with g | g
    · exact zH (h.lF b g) (by simp) e
    · omega)
 · exact((h.each i hi).kp kD (fun b hb=>zD (h.lA i hi b hb) (by simp)) (fun b hb=>zD (h.lE i hi b hb) (by simp))).kp gY (fun b hb=>zH (h.lA i hi b hb) (by simp)) (fun b hb=>zH (h.lE i hi b hb) (by simp))
 · have:w4.heap[mb]?=some (.cells ([S.vS,S.vF,S.vL,S.vP,I k.hand]++X).toArray tt (0,0)):=kD.keep h.head (fun x=>by have:=h.lF mb x;rw[h.lH] at this;simp at this)
   rw[B.set this 1 v']
   simp
 · exact(kD.mono (fun b _ g=>by rw[h.lF b g];simp)).trans gY (fun b _ e=>by rw[e,h.lH];simp)
def NK (S:St) (v:Value):Nat->Lb:=fun b=>if v.ownBlock=some b then .slots else S.lab b
theorem Km.aby {w4:World} {v':Value} {fs:List KM.Sl} (h:Km lo mb tt X w S k) (hgr:w.grownBy w4 S.vL.ownBlock) (hown:w4.ownsRow lo 86 2 v' fs.length (fs.flatMap bD)) (hat:v'.ownBlock=S.vL.ownBlock∨v'.ownBlock=some w.heap.size) :
  Km lo mb tt X (w4.setCell (Ad mb 2) v') ⟨NK S v',S.vS,S.vF,v',S.vP,S.L⟩ { k with slots:=fs }/\Kp (fun b=>S.lab b≠.no) w (w4.setCell (Ad mb 2) v'):=by
 have s2:=hgr.size
 have kD:Kp (blk S.vL) w w4:=Kp.grown hgr (fun _ e=>e)
 have gY:Kp (fun b=>b=mb) w4 (w4.setCell (Ad mb 2) v'):=Kp.set _ _ _ _ rfl
 have hvb:∀b,blk S.vL b->b<w.heap.size:=fun b hb=>(h.slots.lt b hb).2
 have hv4:∀b,blk v' b->blk S.vL b∨b=w.heap.size:=fun b hb=>by
  unfold blk at hb ⊢
  rcases hat with e | e
  · exact .inl (by rw[<- e];exact hb)
  · right
    rw[e] at hb
    injection hb with hb
    exact hb.symm
 have hmb:=B.isLt h.head
 have old:∀b c,S.lab b=c->c≠.no->c≠.slots->NK S v' b=c:=fun b c e h1 h2=>by
  have hb:=(h.kP b (by rw[e];exact h1)).2
  unfold NK
  rw[if_neg,e]
  intro x
  rcases hv4 b x with g | g
  · exact h2 (by rw[<- e];exact h.lL b g)
  · omega
 have zD:∀{b:Nat} {c:Lb},S.lab b=c->c≠.slots->¬blk S.vL b:=fun e hc x=>hc (by rw[<- e];exact h.lL _ x)
 have zH:∀{b:Nat} {c:Lb},S.lab b=c->c≠.head->¬b=mb:=fun e hc x=>hc (by rw[<- e,x];exact h.lH)
 have row:∀{e:TypeId} {n m:Nat} {v:Value} {xs:List Value},w.ownsRow lo e n v m xs->(∀b,blk v b->¬blk S.vL b/\¬b=mb)->(w4.setCell (Ad mb 2) v').ownsRow lo e n v m xs:=fun hr hq=>gY.row (kD.row hr (fun b hb=>(hq b hb).1)) (fun b hb=>(hq b hb).2)
 refine⟨⟨⟨fun b hb=>?_,row h.ak (fun b hb=>⟨zD (h.lS b hb) (by simp),zH (h.lS b hb) (by simp)⟩),fun i hi=>row (h.bh i hi) (fun b hb=>⟨zD (h.lX i hi b hb) (by simp),zH (h.lX i hi b hb) (by simp)⟩),row h.frames (fun b hb=>⟨zD (h.lF b hb) (by simp),zH (h.lF b hb) (by simp)⟩),?_,row h.aj (fun b hb=>⟨zD (h.lP b hb) (by simp),zH (h.lP b hb) (by simp)⟩),h.len,fun i hi=>?_,fun b hb=>old b _ (h.lS b hb) (by simp) (by simp),fun i hi b hb=>old b _ (h.lX i hi b hb) (by simp) (by simp),fun b hb=>old b _ (h.lF b hb) (by simp) (by simp),fun b hb=>if_pos hb,fun b hb=>old b _ (h.lP b hb) (by simp) (by simp),fun i hi b hb=>old b _ (h.lA i hi b hb) (by simp) (by simp),fun i hi b hb=>old b _ (h.lE i hi b hb) (by simp) (by simp)⟩,?_,old mb _ h.lH (by simp) (by simp)⟩,?_⟩
 · have hb:NK S v' b≠.no:=hb
   have hs4:(w4.setCell (Ad mb 2) v').heap.size=w4.heap.size:=by simp
   rw[hs4]
   unfold NK at hb
   by_cases c:v'.ownBlock=some b
   · exact hown.lt b c
   · rw[if_neg c] at hb
     have:=h.kP b hb;omega
 · exact gY.row hown (fun b hb e=>by
    rcases hv4 b hb with g | g
    · exact zH (h.lL b g) (by simp) e
    · omega)
 · exact((h.each i hi).kp kD (fun b hb=>zD (h.lA i hi b hb) (by simp)) (fun b hb=>zD (h.lE i hi b hb) (by simp))).kp gY (fun b hb=>zH (h.lA i hi b hb) (by simp)) (fun b hb=>zH (h.lE i hi b hb) (by simp))
 · have:w4.heap[mb]?=some (.cells ([S.vS,S.vF,S.vL,S.vP,I k.hand]++X).toArray tt (0,0)):=kD.keep h.head (fun x=>by have:=h.lL mb x;rw[h.lH] at this;simp at this)
   rw[B.set this 2 v']
   simp
 · exact(kD.mono (fun b _ g=>by rw[h.lL b g];simp)).trans gY (fun b _ e=>by rw[e,h.lH];simp)
end KO
namespace KY
open Go.RowKit GK KO
open FW (ai aB)
open KW (bE bD aK aZ fu cI aJ dN bT)
open KS (Lc bJ oY dC blk cU)
structure Small (k:KM.Kn):Prop where
 ak:k.ak.length<=1000000
 bh:∀i,i<k.ak.length->(LM.aW k.ak i).bh.length<=1000000
 frames:k.frames.length<=1000000
 slots:k.slots.length<=1000000
 aj:k.aj.length<=1000000
 aD:∀i,i<k.aj.length->(KM.au k.aj i).aD.length<=1000000
 aA:∀i,i<k.aj.length->(KM.au k.aj i).aA.length<=1000000
def sF (w:World) (k:KM.Kn) (e:Ending) (w':World):Prop:=∃S hs,KM.Same k.ak hs/\e=.returned (.agg #[S.vS,S.vF,S.vL,S.vP,I k.hand])/\Kr w.heap.size w' S (KM.bu k hs)/\Below w.heap.size w w'
end KY
namespace GZ
open Go.RowKit
section
variable {P:Program} {ops:Array Oper} {Q:Exit->Act->World->Prop} {md:Region.Mode} {S:World->Prop} {z:Nat}
def JF (P:Program) (md:Region.Mode) (ops:Array Oper) (Q:Exit->Act->World->Prop) (S:World->Prop) (z:Nat):Nat->Array Bool->Act->World->Prop
 | 0,l,a,w=>Region.ready md ops l=[]/\Q .normal a w
 | n+1,l,a,w=>(Region.ready md ops l=[]->Q .normal a w)/\∀i∈Region.ready md ops l,wpOp P ops Q i (fun a' w'=>(i≠z->S w')/\JF P md ops Q S z n (l.setIfInBounds i true) a' w') a w
theorem MD:∀(n:Nat) (l:Array Bool) (a:Act) (w:World),JF P md ops Q S z n l a w->wpAny P md ops Q n l a w
 | 0,_,_,_,h=>h
 | n+1,_,_,_,h=>⟨h.1,fun i hi=>wpOp_mono (fun a' w' g=>MD n _ a' w' g.2) (h.2 i hi)⟩
theorem MB {l:Array Bool} {i:Nat} (h:l.getD i true=false):l.getD i false=false:=by
 rcases Nat.lt_or_ge i l.size with g | g
 · simp[g] at h ⊢;exact h
 · simp[Array.getElem?_eq_none g] at h
theorem first {i:Nat} {oi:Oper} {v:Value} (hi:ops[i]?=some oi) (Yf:∀(j:Nat) (o:Oper) cs b,ops[j]?=some o->o.op≠.select cs b)
  (hQ:∀c a w,Q (.panic c) (a.put oi.dst v) w->Q (.panic c) a w) (hz:∀oz,ops[z]?=some oz->∃e∈oz.after,Region.binds md e=true/\e.on=i) :
  ∀(n:Nat) (l:Array Bool) (a:Act) (w:World),(∀j oj,ops[j]?=some oj->j≠i->l.getD j true=false->(∀e∈oj.after,Region.binds md e=true->e.on≠i)->oi.apart ops oj=true) ->
   i∈Region.ready md ops l->YieldsIf P ops S oi v a->S w->JF P md ops Q S z n (l.setIfInBounds i true) (a.put oi.dst v) w->JF P md ops Q S z (n+1) l a w:=by
 intro n
 induction n with
 | zero =>
  intro l a w _ hr hy hS H
  refine⟨fun g=>absurd hr (by rw[g];exact List.not_mem_nil),fun j hj=>?_⟩
  by_cases c:j=i
  · subst c
    exact hy.wpOp hi hS ⟨fun _=>hS,H⟩
  · have g:=ready_mono hj c
    rw[H.1] at g
    exact absurd g List.not_mem_nil
 | succ n ih =>
  intro l a w hf hr hy hS H
  refine⟨fun g=>absurd hr (by rw[g];exact List.not_mem_nil),fun j hj=>?_⟩
  by_cases c:j=i
  · subst c
    exact hy.wpOp hi hS ⟨fun _=>hS,H⟩
  · obtain⟨hu,oj,hoj,hall⟩:=mem_ready.1 hj
    have hiu:=MB (mem_ready.1 hr).1
    have hno:∀e∈oj.after,Region.binds md e=true->e.on≠i:=fun e he hb g=>by
     have:=hall e he hb
     rw[g,hiu] at this
     cases this
    have hjz:j≠z:=fun g=>by
     subst g
     obtain⟨e,he,hb,ho⟩:=hz oj hoj
     exact hno e he hb ho
    have h2:=wpOp_putIf hoj (hf j oj hoj c hu hno) (fun cs b=>Yf i oi cs b hi) (fun cs b=>Yf j oj cs b hoj) hQ hy (H.2 j (ready_mono hj c))
    refine wpOp_mono (fun a' w' g=>⟨g.2.1,ih (l.setIfInBounds j true) a' w' (fun k ok hk Ba hun hn=>hf k ok hk Ba ?_ hn) (ready_mono hr (Ne.symm c)) g.1 (g.2.1 hjz) ?_⟩) h2
    · by_cases d:j=k
      · subst d;exact hu
      · rw[getD_set_ne true d] at hun;exact hun
    · rw[Array.setIfInBounds_comm _ _ c]
      exact g.2.2
def waits (md:Region.Mode) (ops:Array Oper) (z i:Nat):Bool:=match ops[z]? with
 | none=>false
 | some o=>o.after.any (fun e=>Region.binds md e&&e.on==i)
theorem FQ {i:Nat} (h:waits md ops z i=true):∀oz,ops[z]?=some oz->∃e∈oz.after,Region.binds md e=true/\e.on=i:=fun oz ho=>by
 unfold waits at h
 rw[ho] at h
 simp only[Array.any_eq_true'] at h
 obtain⟨e,he,h1⟩:=h
 simp only[Bool.and_eq_true,beq_iff_eq] at h1
 exact⟨e,he,h1.1,h1.2⟩
theorem take {i:Nat} {oi:Oper} {v:Value} {n:Nat} {l:Array Bool} {a:Act} {w:World} (hi:ops[i]?=some oi)
  (hs:Region.noSelect ops=true) (hf:Region.free md ops l i=true) (hr:(Region.ready md ops l).contains i=true) (hw:waits md ops z i=true)
  (hQ:∀c a w,Q (.panic c) (a.put oi.dst v) w->Q (.panic c) a w) (hy:YieldsIf P ops S oi v a) (hS:S w)
  (h:JF P md ops Q S z n (l.setIfInBounds i true) (a.put oi.dst v) w):JF P md ops Q S z (n+1) l a w :=
 first hi (Region.noSelect_spec hs) hQ (FQ hw) n l a w (Region.free_spec hi hf) (by simpa using hr) hy hS h
theorem tk (i:Nat) {oi:Oper} {n:Nat} {l:Array Bool} {a:Act} {w:World} (hS:S w) (v:Value) (hy:∀V,S V->(execOp a.eval oi).run P V=.ok (.value v) V)
  (h:JF P md ops Q S z n (l.setIfInBounds i true) (a.put oi.dst v) w) (hi:ops[i]?=some oi:=by rfl) (hs:Region.noSelect ops=true:=by kernel_rfl) (hf:Region.free md ops l i=true:=by kernel_rfl) (hr:(Region.ready md ops l).contains i=true:=by kernel_rfl) (hw:waits md ops z i=true:=by kernel_rfl)
  (hwt:Region.wanted oi (yielded ops a.tmps)=true:=by rfl) (hQ:∀c a w,Q (.panic c) (a.put oi.dst v) w->Q (.panic c) a w:=by exact fun _ _ _ h=>h):JF P md ops Q S z (n+1) l a w :=
 take hi hs hf hr hw hQ (Or.inl ⟨hwt,hy⟩) hS h
theorem htk (i:Nat) {oi:Oper} {n:Nat} {l:Array Bool} {a:Act} {w:World} (hS:S w) (v:Value) (hy:∀V,S V->(execOp a.eval oi).run P V=.ok (.value v) V)
  (h:wpAnyH P md ops Q S n (l.setIfInBounds i true) (a.put oi.dst v) w) (hi:ops[i]?=some oi:=by rfl) (hs:Region.noSelect ops=true:=by kernel_rfl) (hf:Region.free md ops l i=true:=by kernel_rfl) (hr:(Region.ready md ops l).contains i=true:=by kernel_rfl)
  (hwt:Region.wanted oi (yielded ops a.tmps)=true:=by rfl) (hQ:∀c a w,Q (.panic c) (a.put oi.dst v) w->Q (.panic c) a w:=by exact fun _ _ _ h=>h):wpAnyH P md ops Q S (n+1) l a w :=
 wpAnyH_take hi hs hf hr hQ (Or.inl ⟨hwt,hy⟩) hS h
def aV (P:Program) (md:Region.Mode) (ops:Array Oper) (Q:Exit->Act->World->Prop) (S:World->Prop) (z n:Nat) (l:Array Bool) (a:Act) (w:World) (rs:List Nat):Prop:=∀i∈rs,wpOp P ops Q i (fun a' w'=>(i≠z->S w')/\JF P md ops Q S z n (l.setIfInBounds i true) a' w') a w
theorem aV.nil {n:Nat} {l:Array Bool} {a:Act} {w:World}:aV P md ops Q S z n l a w []:=fun _ h=>absurd h List.not_mem_nil
theorem aV.cons {n:Nat} {l:Array Bool} {a:Act} {w:World} {i:Nat} {o:Oper} {rs:List Nat} (ho:ops[i]?=some o)
  (h:∀K':Act->World->Prop,Shut (∀a w,(i≠z->S w)->JF P md ops Q S z n (l.setIfInBounds i true) a w->K' a w)->if Region.wanted o (yielded ops a.tmps)=true then Oper.wp P o a w K' Q else K' (a.put o.dst undef) w)
  (hs:aV P md ops Q S z n l a w rs):aV P md ops Q S z n l a w (i::rs):=fun j hj=>by
 rcases List.mem_cons.1 hj with g | g
 · subst g
   exact wpOp_step ho (fun K' hK=>h K' (fun a w h1 h2=>hK a w ⟨h1,h2⟩))
 · exact hs j g
theorem all {rs:List Nat} {n:Nat} {l:Array Bool} {a:Act} {w:World} (hr:Region.ready md ops l=rs) (hne:rs≠[]) (h:aV P md ops Q S z n l a w rs):JF P md ops Q S z (n+1) l a w:=⟨fun g=>absurd (hr ▸ g) hne,hr ▸ h⟩
theorem done {l:Array Bool} {a:Act} {w:World} (hr:Region.ready md ops l=[]) (h:Q .normal a w):∀n,JF P md ops Q S z n l a w
 | 0=>⟨hr,h⟩
 | _+1=>⟨fun _=>h,by rw[hr];exact fun _ g=>absurd g List.not_mem_nil⟩
theorem p8 {id:Nat} {a:Act} {w:World} (hm:P.follows .mixedOrders=true) (h:JF P .any ops Q S z ops.size (Array.replicate ops.size false) a w.drew):(Code.region id ops true).wp P Q a w:=wp_region_any hm (MD _ _ _ _ h)
end
end GZ
namespace KY
open Go.RowKit GK KO
open FW (ai aB)
open KW (bE bD aK aZ fu cI aJ dN bT)
open KS (Lc bJ oY dC blk cU)
theorem Hj:∀(l:List KM.Fr),∀u∈l.flatMap bE,u.oneCell'=true:=fun l u hu=>by
 obtain⟨y,_,hy⟩:=List.mem_flatMap.1 hu
 simp[bE] at hy
 rcases hy with rfl | rfl | rfl | rfl <;> rfl
theorem Gg:∀(l:List KM.Sl),∀u∈l.flatMap bD,u.oneCell'=true:=fun l u hu=>by
 obtain⟨y,_,hy⟩:=List.mem_flatMap.1 hu
 simp[bD] at hy
 rcases hy with rfl | rfl <;> rfl
theorem MQ:∀(l:List LM.Sh),∀u∈l.flatMap eI,u.oneCell'=true:=fun l u hu=>by
 obtain⟨y,_,hy⟩:=List.mem_flatMap.1 hu
 simp[eI] at hy
 rcases hy with rfl | rfl | rfl <;> rfl
theorem Hi:∀(l:List LM.Fx),∀u∈l.flatMap fI,u.oneCell'=true:=fun l u hu=>by
 obtain⟨y,_,hy⟩:=List.mem_flatMap.1 hu
 simp[fI] at hy
 rcases hy with rfl | rfl <;> rfl
theorem fA {α:Type} {f:α->List Value} {n:Nat} (hf:∀x,(f x).length=n) {d:α} {w:World} {ao:Option Addr} {l:List α} (h:aZ f n d w ao l):From w ao l.length (l.flatMap f):=fun hm=>by
 obtain⟨b,off,rfl,hb,hl⟩:=h hm
 exact KS.qA (w:=w) f n hf d l b off (fun i hi j hj=>hl i hi j hj) hm
theorem Gj {w:World} {ao:Option Addr} {l:List LM.Sh} (h:LM.gT w ao l):aZ eI 3 LM.L5 w ao l:=fun hl=>by
 obtain⟨b,off,e,hb,hi⟩:=h hl
 refine⟨b,off,e,hb,fun i hlt j hj=>?_⟩
 obtain⟨c0,c1,c2,_⟩:=hi i hlt
 match j,hj with
 | 0,_=>exact c0
 | 1,_=>exact c1
 | 2,_=>exact c2
theorem Hh {w:World} {ao:Option Addr} {l:List LM.Fx} (h:LM.nE w ao l):aZ fI 2 LM.Ze w ao l:=fun hl=>by
 obtain⟨b,off,e,hb,hi⟩:=h hl
 refine⟨b,off,e,hb,fun i hlt j hj=>?_⟩
 obtain⟨c0,c1⟩:=hi i hlt
 match j,hj with
 | 0,_=>exact c0
 | 1,_=>exact c1
structure Four (lo:Nat) (WA wx:World) (cb:Nat) (vS vF vL:Value) (hd:Int) (k:KM.Kn):Prop where
 head:wx.heap[cb]?=some (.cells #[vS,vF,vL,Nl,I hd] 27 (0,0))
 hlo:lo<=cb
 rS:wx.ownsRow lo 50 3 vS k.ak.length (k.ak.flatMap eI)
 rF:wx.ownsRow lo 40 4 vF k.frames.length (k.frames.flatMap bE)
 rL:wx.ownsRow lo 86 2 vL k.slots.length (k.slots.flatMap bD)
 d1:∀b,blk vS b->¬blk vF b/\¬blk vL b/\b≠cb
 d2:∀b,blk vF b->¬blk vL b/\b≠cb
 d3:∀b,blk vL b->b≠cb
 below:Below WA.heap.size WA wx
theorem uH {WA V1 w1 V2 w2 V3 w3 V4:World} {cb:Nat} {vS vF vL:Value} {hd:Int} {k:KM.Kn} (b0:Below WA.heap.size WA V1) (h1:w1.ownsRow V1.heap.size 50 3 vS k.ak.length (k.ak.flatMap eI)) (b1:Below V1.heap.size V1 w1) (Zj:Below w1.heap.size w1 V2)
  (h2:w2.ownsRow V2.heap.size 40 4 vF k.frames.length (k.frames.flatMap bE)) (b2:Below V2.heap.size V2 w2) (VA:Below w2.heap.size w2 V3) (h3:w3.ownsRow V3.heap.size 86 2 vL k.slots.length (k.slots.flatMap bD)) (b3:Below V3.heap.size V3 w3) (TW:Below w3.heap.size w3 V4)
  (hcb:V4.heap[cb]?=some (.cells #[Nl,Nl,Nl,Nl,I 0] 27 (0,0))) (hlo:WA.heap.size<=cb) (hout:cb<V1.heap.size∨(w1.heap.size<=cb/\cb<V2.heap.size)∨(w2.heap.size<=cb/\cb<V3.heap.size)∨w3.heap.size<=cb) :
  Four WA.heap.size WA (((((V4.setCell (Ad cb 0) vS).setCell (Ad cb 1) vF).setCell (Ad cb 2) vL).setCell (Ad cb 3) Nl).setCell (Ad cb 4) (I hd)) cb vS vF vL hd k:=by
 have s0:=b0.size
 have s1:=b1.size
 have s12:=Zj.size
 have s2:=b2.size
 have s23:=VA.size
 have s3:=b3.size
 have s34:=TW.size
 have kp:Kp (fun b=>b=cb) V4 (((((V4.setCell (Ad cb 0) vS).setCell (Ad cb 1) vF).setCell (Ad cb 2) vL).setCell (Ad cb 3) Nl).setCell (Ad cb 4) (I hd)):=((((Kp.set (fun b=>b=cb) V4 (Ad cb 0) _ rfl).trans (Kp.set (fun b=>b=cb) _ (Ad cb 1) _ rfl) (fun _ _ g=>g)).trans (Kp.set (fun b=>b=cb) _ (Ad cb 2) _ rfl) (fun _ _ g=>g)).trans (Kp.set (fun b=>b=cb) _ (Ad cb 3) _ rfl) (fun _ _ g=>g)).trans (Kp.set (fun b=>b=cb) _ (Ad cb 4) _ rfl) (fun _ _ g=>g)
 have B13:Below w1.heap.size w1 V4:=((Zj.trans (b2.mono s12)).trans (VA.mono (by omega))).trans ((b3.mono (by omega)).trans (TW.mono (by omega)))
 have B23:Below w2.heap.size w2 V4:=(VA.trans (b3.mono s23)).trans (TW.mono (by omega))
 have e1:∀b,blk vS b->V1.heap.size<=b/\b<w1.heap.size:=fun b hb=>h1.lt b hb
 have e2:∀b,blk vF b->V2.heap.size<=b/\b<w2.heap.size:=fun b hb=>h2.lt b hb
 have e3:∀b,blk vL b->V3.heap.size<=b/\b<w3.heap.size:=fun b hb=>h3.lt b hb
 have row:∀{e:TypeId} {n m lo:Nat} {v:Value} {xs:List Value} {W:World},W.ownsRow lo e n v m xs->Below W.heap.size W V4->WA.heap.size<=lo->(∀b,blk v b->b≠cb)->World.ownsRow _ WA.heap.size e n v m xs:=fun hr hb hl hn=>kp.row (jO ((Kp.aY (D:=fun _=>False) hb).row hr (fun _ _ g=>g)) (fun g hg=>by have:=(hr.lt g hg).1;omega)) (fun b hb2=>hn b hb2)
 refine⟨?_,hlo,row h1 B13 (by omega) (fun b hb=>by have:=e1 b hb;omega),row h2 B23 (by omega) (fun b hb=>by have:=e2 b hb;omega),row h3 TW (by omega) (fun b hb=>by have:=e3 b hb;omega),fun b hb=>⟨fun x=>by have:=e1 b hb;have:=e2 b x;omega,fun x=>by have:=e1 b hb;have:=e3 b x;omega,by have:=e1 b hb;omega⟩,fun b hb=>⟨fun x=>by have:=e2 b hb;have:=e3 b x;omega,by have:=e2 b hb;omega⟩,fun b hb=>by have:=e3 b hb;omega,?_⟩
 · exact B.set (B.set (B.set (B.set (B.set hcb 0 vS) 1 vF) 2 vL) 3 Nl) 4 (I hd)
 · exact Kp.below (b0.trans ((b1.trans (B13.mono s1)).mono s0)) kp (by omega) (fun b e=>by omega)
theorem OT {WA V1 w1 V2 w2 V3 w3:World} {vS vF vL:Value} {hd:Int} {k:KM.Kn} (b0:Below WA.heap.size WA V1) (h1:w1.ownsRow V1.heap.size 50 3 vS k.ak.length (k.ak.flatMap eI)) (b1:Below V1.heap.size V1 w1) (Zj:Below w1.heap.size w1 V2)
  (h2:w2.ownsRow V2.heap.size 40 4 vF k.frames.length (k.frames.flatMap bE)) (b2:Below V2.heap.size V2 w2) (VA:Below w2.heap.size w2 V3) (h3:w3.ownsRow V3.heap.size 86 2 vL k.slots.length (k.slots.flatMap bD)) (b3:Below V3.heap.size V3 w3) :
  Four WA.heap.size WA (w3.alloc (.cells #[vS,vF,vL,Nl,I hd] 27)) w3.heap.size vS vF vL hd k:=by
 have s0:=b0.size
 have s1:=b1.size
 have s12:=Zj.size
 have s2:=b2.size
 have s23:=VA.size
 have s3:=b3.size
 have TW:Below w3.heap.size w3 (w3.alloc (.cells #[vS,vF,vL,Nl,I hd] 27)):=(Below.refl _ _).alloc (Nat.le_refl _) _
 have B13:Below w1.heap.size w1 (w3.alloc (.cells #[vS,vF,vL,Nl,I hd] 27)):=((Zj.trans (b2.mono s12)).trans (VA.mono (by omega))).trans ((b3.mono (by omega)).trans (TW.mono (by omega)))
 have B23:Below w2.heap.size w2 (w3.alloc (.cells #[vS,vF,vL,Nl,I hd] 27)):=(VA.trans (b3.mono s23)).trans (TW.mono (by omega))
 have e1:∀b,blk vS b->V1.heap.size<=b/\b<w1.heap.size:=fun b hb=>h1.lt b hb
 have e2:∀b,blk vF b->V2.heap.size<=b/\b<w2.heap.size:=fun b hb=>h2.lt b hb
 have e3:∀b,blk vL b->V3.heap.size<=b/\b<w3.heap.size:=fun b hb=>h3.lt b hb
 have row:∀{e:TypeId} {n m lo:Nat} {v:Value} {xs:List Value} {W:World},W.ownsRow lo e n v m xs->Below W.heap.size W (w3.alloc (.cells #[vS,vF,vL,Nl,I hd] 27))->WA.heap.size<=lo->World.ownsRow _ WA.heap.size e n v m xs:=fun hr hb hl=>jO ((Kp.aY (D:=fun _=>False) hb).row hr (fun _ _ g=>g)) (fun g hg=>by have:=(hr.lt g hg).1;omega)
 refine⟨B.new w3 _ _,by omega,row h1 B13 (by omega),row h2 B23 (by omega),row h3 TW (by omega),fun b hb=>⟨fun x=>by have:=e1 b hb;have:=e2 b x;omega,fun x=>by have:=e1 b hb;have:=e3 b x;omega,by have:=e1 b hb;omega⟩,fun b hb=>⟨fun x=>by have:=e2 b hb;have:=e3 b x;omega,by have:=e2 b hb;omega⟩,fun b hb=>by have:=e3 b hb;omega,?_⟩
 exact b0.trans ((b1.trans (B13.mono s1)).mono s0)
structure Kh (lo cb:Nat) (w:World) (lab:Nat->Lb) (vS vF vL:Value) (k:KM.Kn) (hs:List LM.Sh) (n:Nat):Prop where
 kP:∀b,lab b≠.no->lo<=b/\b<w.heap.size
 head:w.heap[cb]?=some (.cells #[vS,vF,vL,Nl,I k.hand] 27 (0,0))
 lH:lab cb=.head
 ak:w.ownsRow lo 50 3 vS hs.length (hs.flatMap eI)
 bh:∀i,i<n->w.ownsRow lo 52 2 (vX (LM.aW hs i)) (LM.aW hs i).bh.length ((LM.aW hs i).bh.flatMap fI)
 frames:w.ownsRow lo 40 4 vF k.frames.length (k.frames.flatMap bE)
 slots:w.ownsRow lo 86 2 vL k.slots.length (k.slots.flatMap bD)
 lS:∀b,blk vS b->lab b=.ak
 lX:∀i,i<n->∀b,blk (vX (LM.aW hs i)) b->lab b=.bh i
 lF:∀b,blk vF b->lab b=.frames
 lL:∀b,blk vL b->lab b=.slots
 same:KM.Same k.ak hs
 rest:∀i,n<=i->LM.aW hs i=LM.aW k.ak i
theorem Ry {lo:Nat} {WA w:World} {cb:Nat} {vS vF vL:Value} {k:KM.Kn} (h:Four lo WA w cb vS vF vL k.hand k):∃lab,Kh lo cb w lab vS vF vL k k.ak 0:=by
 refine⟨fun b=>if b=cb then .head else if vS.ownBlock=some b then .ak else if vF.ownBlock=some b then .frames else if vL.ownBlock=some b then .slots else .no,⟨fun b hb=>?_,h.head,if_pos rfl,h.rS,fun i hi=>absurd hi (Nat.not_lt_zero _),h.rF,h.rL,fun b hb=>?_,fun i hi=>absurd hi (Nat.not_lt_zero _),fun b hb=>?_,fun b hb=>?_,rfl,fun i hi=>rfl⟩⟩
 · by_cases c0:b=cb
   · rw[c0]
     exact⟨h.hlo,B.isLt h.head⟩
   · by_cases c1:vS.ownBlock=some b
     · exact h.rS.lt b c1
     · by_cases c2:vF.ownBlock=some b
       · exact h.rF.lt b c2
       · by_cases c3:vL.ownBlock=some b
         · exact h.rL.lt b c3
         · exfalso
           apply hb
           simp[c0,c1,c2,c3]
 · have hb':vS.ownBlock=some b:=hb
   have:=h.d1 b hb
   rw[if_neg this.2.2,if_pos hb']
 · have hb':vF.ownBlock=some b:=hb
   have:=h.d2 b hb
   rw[if_neg this.2,if_neg (show ¬vS.ownBlock=some b from fun x=>(h.d1 b x).1 hb),if_pos hb']
 · have hb':vL.ownBlock=some b:=hb
   have:=h.d3 b hb
   rw[if_neg this,if_neg (show ¬vS.ownBlock=some b from fun x=>(h.d1 b x).2.1 hb),if_neg (show ¬vF.ownBlock=some b from fun x=>(h.d2 b x).1 hb),if_pos hb']
theorem Kh.kp {lo cb:Nat} {w w':World} {lab:Nat->Lb} {vS vF vL:Value} {k:KM.Kn} {hs:List LM.Sh} {n:Nat} (h:Kh lo cb w lab vS vF vL k hs n) {E:Nat->Prop} (hk:Kp E w w') (he:∀b,lab b≠.no->¬E b):Kh lo cb w' lab vS vF vL k hs n:=by
 have z:∀{b:Nat} {c:Lb},lab b=c->c≠.no->¬E b:=fun e hc=>he _ (by rw[e];exact hc)
 exact⟨fun b hb=>⟨(h.kP b hb).1,Nat.lt_of_lt_of_le (h.kP b hb).2 hk.size⟩,hk.keep h.head (z h.lH (by simp)),h.lH,hk.row h.ak (fun b hb=>z (h.lS b hb) (by simp)),fun i hi=>hk.row (h.bh i hi) (fun b hb=>z (h.lX i hi b hb) (by simp)),hk.row h.frames (fun b hb=>z (h.lF b hb) (by simp)),hk.row h.slots (fun b hb=>z (h.lL b hb) (by simp)),h.lS,h.lX,h.lF,h.lL,h.same,h.rest⟩
theorem Kh.below {lo cb:Nat} {w w':World} {lab:Nat->Lb} {vS vF vL:Value} {k:KM.Kn} {hs:List LM.Sh} {n:Nat} (h:Kh lo cb w lab vS vF vL k hs n) (hb:Below w.heap.size w w'):Kh lo cb w' lab vS vF vL k hs n:=h.kp (Kp.aY (D:=fun _=>False) hb) (fun _ _ g=>g)
theorem xG (l:List LM.Sh) (i m:Nat) (x:LM.Sh) (hi:i<l.length):LM.aW (l.set i x) m=if i=m then x else LM.aW l m:=by
 unfold LM.aW
 by_cases c:i=m
 · subst c;rw[if_pos rfl,KM.bK _ _ _ _ hi]
 · rw[if_neg c,KM.getD_set_ne _ _ _ _ _ c]
theorem AO:∀(l:List LM.Sh) (i:Nat) (x:LM.Sh),i<l.length->LM.plain x=LM.plain (LM.aW l i)->(l.set i x).map LM.plain=l.map LM.plain
 | [],i,x,hi,_=>absurd hi (Nat.not_lt_zero _)
 | a::r,0,x,hi,e=>by
  show LM.plain x::_=LM.plain a::_
  rw[e]
  rfl
 | a::r,i+1,x,hi,e=>by
  show LM.plain a::(r.set i x).map LM.plain=LM.plain a::_
  rw[AO r i x (Nat.lt_of_succ_lt_succ hi) e]
theorem Kh.step {lo cb:Nat} {w w1:World} {lab:Nat->Lb} {vF vL:Value} {k:KM.Kn} {hs:List LM.Sh} {n:Nat} {sb m cS:Nat} {ax:Option Addr} {cx:Nat} (h:Kh lo cb w lab (.slice (some (Ad sb 0)) m cS) vF vL k hs n) (hn:n<hs.length) (hlo:lo<=w.heap.size) (hb:Below w.heap.size w w1)
  (hr:w1.ownsRow w.heap.size 52 2 (.slice ax (LM.aW hs n).bh.length cx) (LM.aW hs n).bh.length ((LM.aW hs n).bh.flatMap fI)) :
  ∃lab',Kh lo cb (w1.setCell (Ad sb (n*3+2)) (.slice ax (LM.aW hs n).bh.length cx)) lab' (.slice (some (Ad sb 0)) m cS) vF vL k (hs.set n ⟨(LM.aW hs n).page,(LM.aW hs n).data,(LM.aW hs n).bh,ax,cx⟩) (n+1)/\∀b,b<w.heap.size->lab' b=lab b:=by
 have h1:=h.below hb
 obtain⟨v,hv⟩:∃v:Value,v=.slice ax (LM.aW hs n).bh.length cx:=⟨_,rfl⟩
 rw[<- hv] at hr ⊢
 have pR:lab sb=.ak:=h.lS sb rfl
 have gY:Kp (fun b=>b=sb) w1 (w1.setCell (Ad sb (n*3+2)) v):=Kp.set _ _ _ _ rfl
 have z:∀{b:Nat} {c:Lb},lab b=c->c≠.ak->¬b=sb:=fun e hc x=>hc (by rw[<- e,x];exact pR)
 have ev:∀b,blk v b->w.heap.size<=b/\b<w1.heap.size:=fun b hx=>hr.lt b hx
 have old:∀b,b<w.heap.size->(if v.ownBlock=some b then Lb.bh n else lab b)=lab b:=fun b hl=>if_neg fun x=>by have:=ev b x;omega
 have o2:∀b c,lab b=c->c≠.no->(if v.ownBlock=some b then Lb.bh n else lab b)=c:=fun b c e hc=>by
  rw[old b (h.kP b (by rw[e];exact hc)).2,e]
 have hm:m=hs.length:=by
  obtain⟨ao,c,e,_⟩:=aQ h.ak
  injection e
 subst hm
 have hsz:(w1.setCell (Ad sb (n*3+2)) v).heap.size=w1.heap.size:=by simp
 refine⟨fun b=>if v.ownBlock=some b then .bh n else lab b,⟨fun b hx=>?_,gY.keep h1.head (z h.lH (by simp)),o2 cb _ h.lH (by simp),?_,fun i hi=>?_,gY.row h1.frames (fun b hx=>z (h.lF b hx) (by simp)),gY.row h1.slots (fun b hx=>z (h.lL b hx) (by simp)),fun b hx=>o2 b _ (h.lS b hx) (by simp),fun i hi b hx=>?_,fun b hx=>o2 b _ (h.lF b hx) (by simp),fun b hx=>o2 b _ (h.lL b hx) (by simp),?_,fun i hi=>?_⟩,old⟩
 · rw[hsz]
   by_cases c:v.ownBlock=some b
   · have:=ev b c;omega
   · have hx:(if v.ownBlock=some b then Lb.bh n else lab b)≠.no:=hx
     rw[if_neg c] at hx
     exact h1.kP b hx
 · have hr1:=jM h1.ak (n*3+2) v
   rw[<- gN eI 3 (fun _=>rfl) LM.L5 ⟨(LM.aW hs n).page,(LM.aW hs n).data,(LM.aW hs n).bh,ax,cx⟩ 2 v (by omega) hs n hn (by rw[hv];rfl)] at hr1
   rw[List.length_set]
   exact hr1
 · rw[xG _ _ _ _ hn]
   by_cases c:n=i
   · rw[if_pos c]
     show World.ownsRow _ lo _ 2 (.slice ax (LM.aW hs n).bh.length cx) _ _
     rw[<- hv]
     exact gY.row (jO hr (fun g hg=>by have:=ev g hg;omega)) (fun b hx e=>by have:=ev b hx;have:=(h.kP sb (by rw[pR];simp)).2;omega)
   · rw[if_neg c]
     exact gY.row (h1.bh i (by omega)) (fun b hx=>z (h.lX i (by omega) b hx) (by simp))
 · rw[xG _ _ _ _ hn] at hx
   by_cases c:n=i
   · rw[if_pos c] at hx
     have hx:blk (.slice ax (LM.aW hs n).bh.length cx) b:=hx
     rw[<- hv] at hx
     show(if v.ownBlock=some b then Lb.bh n else lab b)=_
     rw[if_pos (show v.ownBlock=some b from hx),c]
   · rw[if_neg c] at hx
     exact o2 b _ (h.lX i (by omega) b hx) (by simp)
 · show List.map LM.plain _=_
   exact(AO hs n ⟨(LM.aW hs n).page,(LM.aW hs n).data,(LM.aW hs n).bh,ax,cx⟩ hn rfl).trans h.same
 · rw[xG _ _ _ _ hn,if_neg (by omega)]
   exact h.rest i (by omega)
theorem Kh.done {lo cb:Nat} {w:World} {lab:Nat->Lb} {vS vF vL:Value} {k:KM.Kn} {hs:List LM.Sh} (h:Kh lo cb w lab vS vF vL k hs hs.length):Km lo cb 27 [] w ⟨lab,vS,vF,vL,Nl,[]⟩ (KM.bu ⟨k.ak,k.frames,k.slots,k.aj.take 0,k.hand⟩ hs) :=
 ⟨⟨h.kP,h.ak,h.bh,h.frames,h.slots,World.ownsRow_nil _ _ _ _,rfl,fun i hi=>absurd hi (Nat.not_lt_zero _),h.lS,h.lX,h.lF,h.lL,(fun b hb=>by cases hb),fun i hi=>absurd hi (Nat.not_lt_zero _),fun i hi=>absurd hi (Nat.not_lt_zero _)⟩,h.head,h.lH⟩
end KY
end Go.Proofs.YtpgifpeohlllfaaGreat
