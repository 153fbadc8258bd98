import Derived.Test.YtpgifpeohlllfaaGreatGJ19
import Derived.Test.YtpgifpeohlllfaaGreatGJ20
import Derived.Test.YtpgifpeohlllfaaGreatGJ00
import Derived.OrdersHeld
import Derived.Deep.RegionHeld
import Derived.Deep.DeepCutAuto
set_option maxHeartbeats 20000000
set_option linter.unusedVariables false
set_option maxRecDepth 100000
set_option linter.unusedSimpArgs false
namespace Go.Proofs.YtpgifpeohlllfaaGreat
namespace KO
open Go.RowKit GK
open FW (hideC add_below)
open KW (cellFr cellSl cellEn HasRow KAt HasK cellsK)
open KS (Lc cellLc lc0 lcAt blk SpOwn)
variable {lo mb : Nat} {tt : TypeId} {X : List Value} {w : World} {S : St} {k : KM.Kn}
theorem km_start {w : World} {mb : Nat} {hand : Int} (hm : w.heap[mb]? = some (.cells #[.slice none 0 0,.slice none 0 0,.slice none 0 0,.slice none 0 0,.int .i64 hand] 27 (0,0))) : Km mb mb 27 [] w ⟨fun b=>if b = mb then .head else .no,.slice none 0 0,.slice none 0 0,.slice none 0 0,.slice none 0 0,[]⟩ ⟨[],[],[],[],hand⟩ :=
 ⟨⟨fun b hb=>by
   have : b = mb:=Classical.not_not.1 fun h=>hb (if_neg h)
   subst this;exact ⟨Nat.le_refl _,B.isLt hm⟩,
  World.ownsRow_nil _ _ _ _,fun i hi=>absurd hi (Nat.not_lt_zero _),World.ownsRow_nil _ _ _ _,World.ownsRow_nil _ _ _ _,World.ownsRow_nil _ _ _ _,rfl,fun i hi=>absurd hi (Nat.not_lt_zero _),(fun b hb=>by cases hb),fun i hi=>absurd hi (Nat.not_lt_zero _),(fun b hb=>by cases hb),(fun b hb=>by cases hb),(fun b hb=>by cases hb),fun i hi=>absurd hi (Nat.not_lt_zero _),fun i hi=>absurd hi (Nat.not_lt_zero _)⟩,hm,if_pos rfl⟩
theorem shAt_snoc (L : List LM.Sh) (l : LM.Sh) (i : Nat) (hi : i < L.length + 1) : LM.shAt (L ++ [l]) i = if i < L.length then LM.shAt L i else l:=by
 unfold LM.shAt
 rw [List.getD_eq_getElem?_getD,List.getD_eq_getElem?_getD]
 by_cases h : i < L.length
 · rw [if_pos h,List.getElem?_append_left h]
 · rw [if_neg h,List.getElem?_append_right (by omega)]
   have : i - L.length = 0:=by omega
   rw [this];rfl
def labS (S : St) (v : Value) (n : Nat) (x : Value) : Nat -> Lb:=fun b=>if v.ownBlock = some b then .sheets else if x.ownBlock = some b then .fixes n else S.lab b
theorem Km.pushS {w2 w4 : World} {v' : Value} {s : LM.Sh} {O : Obj} (h : Km lo mb tt X w S k) (hlo : lo <= w.heap.size) (hb2 : Below w.heap.size w w2)
  (hfx : w2.ownsRow w.heap.size 52 2 (vX s) s.fixes.length (s.fixes.flatMap cellFx)) (hgr : (w2.alloc O).grownBy w4 S.vS.ownBlock) (hown : w4.ownsRow lo 50 3 v' (k.sheets.length + 1) (k.sheets.flatMap cellSh ++ cellSh s))
  (hat : v'.ownBlock = S.vS.ownBlock ∨ v'.ownBlock = some (w2.alloc O).heap.size) :
  Km lo mb tt X (w4.setCell ⟨mb,0,none⟩ v') ⟨labS S v' k.sheets.length (vX s),v',S.vF,S.vL,S.vP,S.L⟩ { k with sheets:=k.sheets ++ [s] } /\ Kp (fun b=>S.lab b ≠ .no) w (w4.setCell ⟨mb,0,none⟩ v'):=by
 have s1:=hb2.size
 have s2:=hgr.size
 have hz : (w2.alloc O).heap.size = w2.heap.size + 1:=World.size_alloc _ _
 rw [hz] at s2 hat
 have kA : Kp (blk S.vS) w w2:=Kp.ofBelow hb2
 have kB : Kp (blk S.vS) w2 (w2.alloc O):=Kp.alloc _ w2 O
 have kC : Kp (blk S.vS) (w2.alloc O) w4:=Kp.grown hgr (fun _ e=>e)
 have kD:=kA.trans (kB.trans kC (fun _ _ g=>g)) (fun _ _ g=>g)
 have hset : Kp (fun b=>b = mb) w4 (w4.setCell ⟨mb,0,none⟩ v'):=Kp.set _ _ _ _ rfl
 have eA : ∀ b,blk (vX s) b -> w.heap.size <= b /\ b < w2.heap.size:=fun b hb=>hfx.lt b hb
 have hvb : ∀ b,blk S.vS b -> b < w.heap.size:=fun b hb=>(h.sheets.lt b hb).2
 have hv4 : ∀ b,blk v' b -> blk S.vS b ∨ b = w2.heap.size + 1:=fun b hb=>by
  unfold blk at hb ⊢
  rcases hat with e | e
  · exact .inl (by rw [<- e];exact hb)
  · right
    rw [e] at hb
    injection hb with hb
    exact hb.symm
 have hmb:=B.isLt h.head
 have old : ∀ b c,S.lab b = c -> c ≠ .no -> c ≠ .sheets -> labS S v' k.sheets.length (vX s) b = c:=fun b c e h1 h2=>by
  have hb:=(h.bnd b (by rw [e];exact h1)).2
  unfold labS
  rw [if_neg,if_neg,e]
  · intro x;have:=eA b x;omega
  · intro x
    rcases hv4 b x with g | g
    · exact h2 (by rw [<- e];exact h.lS b g)
    · omega
 have zD : ∀ {b : Nat} {c : Lb},S.lab b = c -> c ≠ .sheets -> ¬ blk S.vS b:=fun e hc x=>hc (by rw [<- e];exact h.lS _ x)
 have zH : ∀ {b : Nat} {c : Lb},S.lab b = c -> c ≠ .head -> ¬ b = mb:=fun e hc x=>hc (by rw [<- e,x];exact h.lH)
 have row : ∀ {e : TypeId} {n m : Nat} {v : Value} {xs : List Value},w.ownsRow lo e n v m xs -> (∀ b,blk v b -> ¬ blk S.vS b /\ ¬ b = mb) -> (w4.setCell ⟨mb,0,none⟩ v').ownsRow lo e n v m xs:=fun hr hq=>hset.row (kD.row hr (fun b hb=>(hq b hb).1)) (fun b hb=>(hq b hb).2)
 refine ⟨⟨⟨fun b hb=>?_,?_,fun i hi=>?_,row h.frames (fun b hb=>⟨zD (h.lF b hb) (by simp),zH (h.lF b hb) (by simp)⟩),row h.slots (fun b hb=>⟨zD (h.lL b hb) (by simp),zH (h.lL b hb) (by simp)⟩),row h.spaces (fun b hb=>⟨zD (h.lP b hb) (by simp),zH (h.lP b hb) (by simp)⟩),h.len,fun i hi=>?_,fun b hb=>if_pos hb,fun i hi b hb=>?_,fun b hb=>old b _ (h.lF b hb) (by simp) (by simp),fun b hb=>old b _ (h.lL b hb) (by simp) (by simp),fun b hb=>old b _ (h.lP b hb) (by simp) (by simp),fun i hi b hb=>old b _ (h.lA i hi b hb) (by simp) (by simp),fun i hi b hb=>old b _ (h.lE i hi b hb) (by simp) (by simp)⟩,?_,old mb _ h.lH (by simp) (by simp)⟩,?_⟩
 · have hb : labS S v' k.sheets.length (vX s) b ≠ .no:=hb
   have hs4 : (w4.setCell ⟨mb,0,none⟩ v').heap.size = w4.heap.size:=by simp
   rw [hs4]
   unfold labS at hb
   by_cases c : v'.ownBlock = some b
   · exact hown.lt b c
   · rw [if_neg c] at hb
     by_cases d : (vX s).ownBlock = some b
     · have:=eA b d;omega
     · rw [if_neg d] at hb
       have:=h.bnd b hb;omega
 · show World.ownsRow _ lo _ 3 v' (k.sheets ++ [s]).length ((k.sheets ++ [s]).flatMap cellSh)
   rw [List.length_append,List.length_singleton,List.flatMap_append]
   have : w4.ownsRow lo 50 3 v' (k.sheets.length + 1) (k.sheets.flatMap cellSh ++ [s].flatMap cellSh):=by simpa using hown
   exact hset.row this (fun b hb e=>by
    rcases hv4 b hb with g | g
    · exact zH (h.lS b g) (by simp) e
    · omega)
 · have hi : i < (k.sheets ++ [s]).length:=hi
   rw [List.length_append,List.length_singleton] at hi
   show World.ownsRow _ lo _ 2 (vX (LM.shAt (k.sheets ++ [s]) i)) (LM.shAt (k.sheets ++ [s]) i).fixes.length ((LM.shAt (k.sheets ++ [s]) i).fixes.flatMap cellFx)
   rw [shAt_snoc _ _ _ hi]
   by_cases c : i < k.sheets.length
   · rw [if_pos c]
     exact row (h.fixes i c) (fun b hb=>⟨zD (h.lX i c b hb) (by simp),zH (h.lX i c b hb) (by simp)⟩)
   · rw [if_neg c]
     refine hset.row ((kB.trans kC (fun _ _ g=>g)).row (row_base hfx (fun g hg=>by have:=eA g hg;omega)) (fun b hb g=>?_)) (fun b hb e=>?_)
     · have:=hvb b g;have:=eA b hb;omega
     · have:=eA b hb;omega
 · exact ((h.each i hi).kp kD (fun b hb=>zD (h.lA i hi b hb) (by simp)) (fun b hb=>zD (h.lE i hi b hb) (by simp))).kp hset (fun b hb=>zH (h.lA i hi b hb) (by simp)) (fun b hb=>zH (h.lE i hi b hb) (by simp))
 · have hi : i < (k.sheets ++ [s]).length:=hi
   rw [List.length_append,List.length_singleton] at hi
   have hb : blk (vX (LM.shAt (k.sheets ++ [s]) i)) b:=hb
   rw [shAt_snoc _ _ _ hi] at hb
   by_cases c : i < k.sheets.length
   · rw [if_pos c] at hb
     exact old b _ (h.lX i c b hb) (by simp) (by simp)
   · have e : i = k.sheets.length:=by omega
     rw [if_neg c] at hb
     have hx:=eA b hb
     show labS S v' k.sheets.length (vX s) b = .fixes i
     unfold labS
     rw [if_neg,if_pos (show (vX s).ownBlock = some b from hb),e]
     intro x
     rcases hv4 b x with g | g
     · have:=hvb b g;omega
     · omega
 · have : w4.heap[mb]? = some (.cells ([S.vS,S.vF,S.vL,S.vP,.int .i64 k.hand] ++ X).toArray tt (0,0)):=kD.keep h.head (fun x=>by have:=h.lS mb x;rw [h.lH] at this;simp at this)
   rw [B.set this 0 v']
   simp
 · exact (kD.mono (fun b _ g=>by rw [h.lS b g];simp)).trans hset (fun b _ e=>by rw [e,h.lH];simp)
def labF (S : St) (v : Value) : Nat -> Lb:=fun b=>if v.ownBlock = some b then .frames else S.lab b
theorem Km.newF {w4 : World} {v' : Value} {fs : List KM.Fr} (h : Km lo mb tt X w S k) (hgr : w.grownBy w4 S.vF.ownBlock) (hown : w4.ownsRow lo 40 4 v' fs.length (fs.flatMap cellFr)) (hat : v'.ownBlock = S.vF.ownBlock ∨ v'.ownBlock = some w.heap.size) :
  Km lo mb tt X (w4.setCell ⟨mb,1,none⟩ v') ⟨labF S v',S.vS,v',S.vL,S.vP,S.L⟩ { k with frames:=fs } /\ Kp (fun b=>S.lab b ≠ .no) w (w4.setCell ⟨mb,1,none⟩ v'):=by
 have s2:=hgr.size
 have kD : Kp (blk S.vF) w w4:=Kp.grown hgr (fun _ e=>e)
 have hset : Kp (fun b=>b = mb) w4 (w4.setCell ⟨mb,1,none⟩ v'):=Kp.set _ _ _ _ rfl
 have hvb : ∀ b,blk S.vF b -> b < w.heap.size:=fun b hb=>(h.frames.lt b hb).2
 have hv4 : ∀ b,blk v' b -> blk S.vF b ∨ b = w.heap.size:=fun b hb=>by
  unfold blk at hb ⊢
  rcases hat with e | e
  · exact .inl (by rw [<- e];exact hb)
  · right
    rw [e] at hb
    injection hb with hb
    exact hb.symm
 have hmb:=B.isLt h.head
 have old : ∀ b c,S.lab b = c -> c ≠ .no -> c ≠ .frames -> labF S v' b = c:=fun b c e h1 h2=>by
  have hb:=(h.bnd b (by rw [e];exact h1)).2
  unfold labF
  rw [if_neg,e]
  intro x
  rcases hv4 b x with g | g
  · exact h2 (by rw [<- e];exact h.lF b g)
  · omega
 have zD : ∀ {b : Nat} {c : Lb},S.lab b = c -> c ≠ .frames -> ¬ blk S.vF b:=fun e hc x=>hc (by rw [<- e];exact h.lF _ x)
 have zH : ∀ {b : Nat} {c : Lb},S.lab b = c -> c ≠ .head -> ¬ b = mb:=fun e hc x=>hc (by rw [<- e,x];exact h.lH)
 have row : ∀ {e : TypeId} {n m : Nat} {v : Value} {xs : List Value},w.ownsRow lo e n v m xs -> (∀ b,blk v b -> ¬ blk S.vF b /\ ¬ b = mb) -> (w4.setCell ⟨mb,1,none⟩ v').ownsRow lo e n v m xs:=fun hr hq=>hset.row (kD.row hr (fun b hb=>(hq b hb).1)) (fun b hb=>(hq b hb).2)
 refine ⟨⟨⟨fun b hb=>?_,row h.sheets (fun b hb=>⟨zD (h.lS b hb) (by simp),zH (h.lS b hb) (by simp)⟩),fun i hi=>row (h.fixes i hi) (fun b hb=>⟨zD (h.lX i hi b hb) (by simp),zH (h.lX i hi b hb) (by simp)⟩),?_,row h.slots (fun b hb=>⟨zD (h.lL b hb) (by simp),zH (h.lL b hb) (by simp)⟩),row h.spaces (fun b hb=>⟨zD (h.lP b hb) (by simp),zH (h.lP b hb) (by simp)⟩),h.len,fun i hi=>?_,fun b hb=>old b _ (h.lS b hb) (by simp) (by simp),fun i hi b hb=>old b _ (h.lX i hi b hb) (by simp) (by simp),fun b hb=>if_pos hb,fun b hb=>old b _ (h.lL b hb) (by simp) (by simp),fun b hb=>old b _ (h.lP b hb) (by simp) (by simp),fun i hi b hb=>old b _ (h.lA i hi b hb) (by simp) (by simp),fun i hi b hb=>old b _ (h.lE i hi b hb) (by simp) (by simp)⟩,?_,old mb _ h.lH (by simp) (by simp)⟩,?_⟩
 · have hb : labF S v' b ≠ .no:=hb
   have hs4 : (w4.setCell ⟨mb,1,none⟩ v').heap.size = w4.heap.size:=by simp
   rw [hs4]
   unfold labF at hb
   by_cases c : v'.ownBlock = some b
   · exact hown.lt b c
   · rw [if_neg c] at hb
     have:=h.bnd b hb;omega
 · exact hset.row hown (fun b hb e=>by
    rcases hv4 b hb with g | g
    · exact zH (h.lF b g) (by simp) e
    · omega)
 · exact ((h.each i hi).kp kD (fun b hb=>zD (h.lA i hi b hb) (by simp)) (fun b hb=>zD (h.lE i hi b hb) (by simp))).kp hset (fun b hb=>zH (h.lA i hi b hb) (by simp)) (fun b hb=>zH (h.lE i hi b hb) (by simp))
 · have : w4.heap[mb]? = some (.cells ([S.vS,S.vF,S.vL,S.vP,.int .i64 k.hand] ++ X).toArray tt (0,0)):=kD.keep h.head (fun x=>by have:=h.lF mb x;rw [h.lH] at this;simp at this)
   rw [B.set this 1 v']
   simp
 · exact (kD.mono (fun b _ g=>by rw [h.lF b g];simp)).trans hset (fun b _ e=>by rw [e,h.lH];simp)
def labL (S : St) (v : Value) : Nat -> Lb:=fun b=>if v.ownBlock = some b then .slots else S.lab b
theorem Km.newL {w4 : World} {v' : Value} {fs : List KM.Sl} (h : Km lo mb tt X w S k) (hgr : w.grownBy w4 S.vL.ownBlock) (hown : w4.ownsRow lo 86 2 v' fs.length (fs.flatMap cellSl)) (hat : v'.ownBlock = S.vL.ownBlock ∨ v'.ownBlock = some w.heap.size) :
  Km lo mb tt X (w4.setCell ⟨mb,2,none⟩ v') ⟨labL S v',S.vS,S.vF,v',S.vP,S.L⟩ { k with slots:=fs } /\ Kp (fun b=>S.lab b ≠ .no) w (w4.setCell ⟨mb,2,none⟩ v'):=by
 have s2:=hgr.size
 have kD : Kp (blk S.vL) w w4:=Kp.grown hgr (fun _ e=>e)
 have hset : Kp (fun b=>b = mb) w4 (w4.setCell ⟨mb,2,none⟩ v'):=Kp.set _ _ _ _ rfl
 have hvb : ∀ b,blk S.vL b -> b < w.heap.size:=fun b hb=>(h.slots.lt b hb).2
 have hv4 : ∀ b,blk v' b -> blk S.vL b ∨ b = w.heap.size:=fun b hb=>by
  unfold blk at hb ⊢
  rcases hat with e | e
  · exact .inl (by rw [<- e];exact hb)
  · right
    rw [e] at hb
    injection hb with hb
    exact hb.symm
 have hmb:=B.isLt h.head
 have old : ∀ b c,S.lab b = c -> c ≠ .no -> c ≠ .slots -> labL S v' b = c:=fun b c e h1 h2=>by
  have hb:=(h.bnd b (by rw [e];exact h1)).2
  unfold labL
  rw [if_neg,e]
  intro x
  rcases hv4 b x with g | g
  · exact h2 (by rw [<- e];exact h.lL b g)
  · omega
 have zD : ∀ {b : Nat} {c : Lb},S.lab b = c -> c ≠ .slots -> ¬ blk S.vL b:=fun e hc x=>hc (by rw [<- e];exact h.lL _ x)
 have zH : ∀ {b : Nat} {c : Lb},S.lab b = c -> c ≠ .head -> ¬ b = mb:=fun e hc x=>hc (by rw [<- e,x];exact h.lH)
 have row : ∀ {e : TypeId} {n m : Nat} {v : Value} {xs : List Value},w.ownsRow lo e n v m xs -> (∀ b,blk v b -> ¬ blk S.vL b /\ ¬ b = mb) -> (w4.setCell ⟨mb,2,none⟩ v').ownsRow lo e n v m xs:=fun hr hq=>hset.row (kD.row hr (fun b hb=>(hq b hb).1)) (fun b hb=>(hq b hb).2)
 refine ⟨⟨⟨fun b hb=>?_,row h.sheets (fun b hb=>⟨zD (h.lS b hb) (by simp),zH (h.lS b hb) (by simp)⟩),fun i hi=>row (h.fixes i hi) (fun b hb=>⟨zD (h.lX i hi b hb) (by simp),zH (h.lX i hi b hb) (by simp)⟩),row h.frames (fun b hb=>⟨zD (h.lF b hb) (by simp),zH (h.lF b hb) (by simp)⟩),?_,row h.spaces (fun b hb=>⟨zD (h.lP b hb) (by simp),zH (h.lP b hb) (by simp)⟩),h.len,fun i hi=>?_,fun b hb=>old b _ (h.lS b hb) (by simp) (by simp),fun i hi b hb=>old b _ (h.lX i hi b hb) (by simp) (by simp),fun b hb=>old b _ (h.lF b hb) (by simp) (by simp),fun b hb=>if_pos hb,fun b hb=>old b _ (h.lP b hb) (by simp) (by simp),fun i hi b hb=>old b _ (h.lA i hi b hb) (by simp) (by simp),fun i hi b hb=>old b _ (h.lE i hi b hb) (by simp) (by simp)⟩,?_,old mb _ h.lH (by simp) (by simp)⟩,?_⟩
 · have hb : labL S v' b ≠ .no:=hb
   have hs4 : (w4.setCell ⟨mb,2,none⟩ v').heap.size = w4.heap.size:=by simp
   rw [hs4]
   unfold labL at hb
   by_cases c : v'.ownBlock = some b
   · exact hown.lt b c
   · rw [if_neg c] at hb
     have:=h.bnd b hb;omega
 · exact hset.row hown (fun b hb e=>by
    rcases hv4 b hb with g | g
    · exact zH (h.lL b g) (by simp) e
    · omega)
 · exact ((h.each i hi).kp kD (fun b hb=>zD (h.lA i hi b hb) (by simp)) (fun b hb=>zD (h.lE i hi b hb) (by simp))).kp hset (fun b hb=>zH (h.lA i hi b hb) (by simp)) (fun b hb=>zH (h.lE i hi b hb) (by simp))
 · have : w4.heap[mb]? = some (.cells ([S.vS,S.vF,S.vL,S.vP,.int .i64 k.hand] ++ X).toArray tt (0,0)):=kD.keep h.head (fun x=>by have:=h.lL mb x;rw [h.lH] at this;simp at this)
   rw [B.set this 2 v']
   simp
 · exact (kD.mono (fun b _ g=>by rw [h.lL b g];simp)).trans hset (fun b _ e=>by rw [e,h.lH];simp)
end KO
namespace KY
open Go.RowKit GK KO
open FW (hideC add_below)
open KW (cellFr cellSl cellEn HasRow KAt HasK cellsK aggEn cellI)
open KS (Lc cellLc lc0 lcAt blk SpOwn)
structure Small (k : KM.Kn) : Prop where
 sheets : k.sheets.length <= 1000000
 fixes : ∀ i,i < k.sheets.length -> (LM.shAt k.sheets i).fixes.length <= 1000000
 frames : k.frames.length <= 1000000
 slots : k.slots.length <= 1000000
 spaces : k.spaces.length <= 1000000
 areas : ∀ i,i < k.spaces.length -> (KM.spAt k.spaces i).areas.length <= 1000000
 ents : ∀ i,i < k.spaces.length -> (KM.spAt k.spaces i).ents.length <= 1000000
def OutC (w : World) (k : KM.Kn) (e : Ending) (w' : World) : Prop:=∃ S hs,KM.Same k.sheets hs /\ e = .returned (.agg #[S.vS,S.vF,S.vL,S.vP,.int .i64 k.hand]) /\ Kr w.heap.size w' S (KM.withS k hs) /\ Below w.heap.size w w'
end KY
namespace GZ
open Go.RowKit
section
variable {P : Program} {ops : Array Oper} {Q : Exit -> Act -> World -> Prop} {md : Region.Mode} {S : World -> Prop} {z : Nat}
def wpZ (P : Program) (md : Region.Mode) (ops : Array Oper) (Q : Exit -> Act -> World -> Prop) (S : World -> Prop) (z : Nat) : Nat -> Array Bool -> Act -> World -> Prop
 | 0,l,a,w=>Region.ready md ops l = [] /\ Q .normal a w
 | n + 1,l,a,w=>(Region.ready md ops l = [] -> Q .normal a w) /\ ∀ i ∈ Region.ready md ops l,wpOp P ops Q i (fun a' w'=>(i ≠ z -> S w') /\ wpZ P md ops Q S z n (l.setIfInBounds i true) a' w') a w
theorem to_any : ∀ (n : Nat) (l : Array Bool) (a : Act) (w : World),wpZ P md ops Q S z n l a w -> wpAny P md ops Q n l a w
 | 0,_,_,_,h=>h
 | n + 1,_,_,_,h=>⟨h.1,fun i hi=>wpOp_mono (fun a' w' g=>to_any n _ a' w' g.2) (h.2 i hi)⟩
theorem unlisted {l : Array Bool} {i : Nat} (h : l.getD i true = false) : l.getD i false = false:=by
 rcases Nat.lt_or_ge i l.size with g | g
 · simp [g] at h ⊢;exact h
 · simp [Array.getElem?_eq_none g] at h
theorem first {i : Nat} {oi : Oper} {v : Value} (hi : ops[i]? = some oi) (hsel : ∀ (j : Nat) (o : Oper) cs b,ops[j]? = some o -> o.op ≠ .select cs b)
  (hQ : ∀ c a w,Q (.panic c) (a.put oi.dst v) w -> Q (.panic c) a w) (hz : ∀ oz,ops[z]? = some oz -> ∃ e ∈ oz.after,Region.binds md e = true /\ e.on = i) :
  ∀ (n : Nat) (l : Array Bool) (a : Act) (w : World),(∀ j oj,ops[j]? = some oj -> j ≠ i -> l.getD j true = false -> (∀ e ∈ oj.after,Region.binds md e = true -> e.on ≠ i) -> oi.apart ops oj = true) ->
   i ∈ Region.ready md ops l -> YieldsIf P ops S oi v a -> S w -> wpZ P md ops Q S z n (l.setIfInBounds i true) (a.put oi.dst v) w -> wpZ P md ops Q S z (n + 1) l a w:=by
 intro n
 induction n with
 | zero =>
  intro l a w _ hr hy hS H
  refine ⟨fun g=>absurd hr (by rw [g];exact List.not_mem_nil),fun j hj=>?_⟩
  by_cases c : j = i
  · subst c
    exact hy.wpOp hi hS ⟨fun _=>hS,H⟩
  · have g:=ready_mono hj c
    rw [H.1] at g
    exact absurd g List.not_mem_nil
 | succ n ih =>
  intro l a w hf hr hy hS H
  refine ⟨fun g=>absurd hr (by rw [g];exact List.not_mem_nil),fun j hj=>?_⟩
  by_cases c : j = i
  · subst c
    exact hy.wpOp hi hS ⟨fun _=>hS,H⟩
  · obtain ⟨hu,oj,hoj,hall⟩:=mem_ready.1 hj
    have hiu:=unlisted (mem_ready.1 hr).1
    have hno : ∀ e ∈ oj.after,Region.binds md e = true -> e.on ≠ i:=fun e he hb g=>by
     have:=hall e he hb
     rw [g,hiu] at this
     cases this
    have hjz : j ≠ z:=fun g=>by
     subst g
     obtain ⟨e,he,hb,ho⟩:=hz oj hoj
     exact hno e he hb ho
    have h2:=wpOp_putIf hoj (hf j oj hoj c hu hno) (fun cs b=>hsel i oi cs b hi) (fun cs b=>hsel j oj cs b hoj) hQ hy (H.2 j (ready_mono hj c))
    refine wpOp_mono (fun a' w' g=>⟨g.2.1,ih (l.setIfInBounds j true) a' w' (fun k ok hk hki hun hn=>hf k ok hk hki ?_ hn) (ready_mono hr (Ne.symm c)) g.1 (g.2.1 hjz) ?_⟩) h2
    · by_cases d : j = k
      · subst d;exact hu
      · rw [getD_set_ne true d] at hun;exact hun
    · rw [Array.setIfInBounds_comm _ _ c]
      exact g.2.2
def waits (md : Region.Mode) (ops : Array Oper) (z i : Nat) : Bool:=match ops[z]? with
 | none=>false
 | some o=>o.after.any (fun e=>Region.binds md e && e.on == i)
theorem waits_spec {i : Nat} (h : waits md ops z i = true) : ∀ oz,ops[z]? = some oz -> ∃ e ∈ oz.after,Region.binds md e = true /\ e.on = i:=fun oz ho=>by
 unfold waits at h
 rw [ho] at h
 simp only [Array.any_eq_true'] at h
 obtain ⟨e,he,h1⟩:=h
 simp only [Bool.and_eq_true,beq_iff_eq] at h1
 exact ⟨e,he,h1.1,h1.2⟩
theorem take {i : Nat} {oi : Oper} {v : Value} {n : Nat} {l : Array Bool} {a : Act} {w : World} (hi : ops[i]? = some oi)
  (hs : Region.noSelect ops = true) (hf : Region.free md ops l i = true) (hr : (Region.ready md ops l).contains i = true) (hw : waits md ops z i = true)
  (hQ : ∀ c a w,Q (.panic c) (a.put oi.dst v) w -> Q (.panic c) a w) (hy : YieldsIf P ops S oi v a) (hS : S w)
  (h : wpZ P md ops Q S z n (l.setIfInBounds i true) (a.put oi.dst v) w) : wpZ P md ops Q S z (n + 1) l a w :=
 first hi (Region.noSelect_spec hs) hQ (waits_spec hw) n l a w (Region.free_spec hi hf) (by simpa using hr) hy hS h
theorem tk (i : Nat) {oi : Oper} {n : Nat} {l : Array Bool} {a : Act} {w : World} (hS : S w) (v : Value) (hy : ∀ V,S V -> (execOp a.eval oi).run P V = .ok (.value v) V)
  (h : wpZ P md ops Q S z n (l.setIfInBounds i true) (a.put oi.dst v) w) (hi : ops[i]? = some oi:=by rfl) (hs : Region.noSelect ops = true:=by kernel_rfl) (hf : Region.free md ops l i = true:=by kernel_rfl) (hr : (Region.ready md ops l).contains i = true:=by kernel_rfl) (hw : waits md ops z i = true:=by kernel_rfl)
  (hwt : Region.wanted oi (yielded ops a.tmps) = true:=by rfl) (hQ : ∀ c a w,Q (.panic c) (a.put oi.dst v) w -> Q (.panic c) a w:=by exact fun _ _ _ h=>h) : wpZ P md ops Q S z (n + 1) l a w :=
 take hi hs hf hr hw hQ (Or.inl ⟨hwt,hy⟩) hS h
theorem htk (i : Nat) {oi : Oper} {n : Nat} {l : Array Bool} {a : Act} {w : World} (hS : S w) (v : Value) (hy : ∀ V,S V -> (execOp a.eval oi).run P V = .ok (.value v) V)
  (h : wpAnyH P md ops Q S n (l.setIfInBounds i true) (a.put oi.dst v) w) (hi : ops[i]? = some oi:=by rfl) (hs : Region.noSelect ops = true:=by kernel_rfl) (hf : Region.free md ops l i = true:=by kernel_rfl) (hr : (Region.ready md ops l).contains i = true:=by kernel_rfl)
  (hwt : Region.wanted oi (yielded ops a.tmps) = true:=by rfl) (hQ : ∀ c a w,Q (.panic c) (a.put oi.dst v) w -> Q (.panic c) a w:=by exact fun _ _ _ h=>h) : wpAnyH P md ops Q S (n + 1) l a w :=
 wpAnyH_take hi hs hf hr hQ (Or.inl ⟨hwt,hy⟩) hS h
def AllZ (P : Program) (md : Region.Mode) (ops : Array Oper) (Q : Exit -> Act -> World -> Prop) (S : World -> Prop) (z n : Nat) (l : Array Bool) (a : Act) (w : World) (rs : List Nat) : Prop:=∀ i ∈ rs,wpOp P ops Q i (fun a' w'=>(i ≠ z -> S w') /\ wpZ P md ops Q S z n (l.setIfInBounds i true) a' w') a w
theorem AllZ.nil {n : Nat} {l : Array Bool} {a : Act} {w : World} : AllZ P md ops Q S z n l a w []:=fun _ h=>absurd h List.not_mem_nil
theorem AllZ.cons {n : Nat} {l : Array Bool} {a : Act} {w : World} {i : Nat} {o : Oper} {rs : List Nat} (ho : ops[i]? = some o)
  (h : ∀ K' : Act -> World -> Prop,Shut (∀ a w,(i ≠ z -> S w) -> wpZ P md ops Q S z n (l.setIfInBounds i true) a w -> K' a w) -> if Region.wanted o (yielded ops a.tmps) = true then Oper.wp P o a w K' Q else K' (a.put o.dst undef) w)
  (hs : AllZ P md ops Q S z n l a w rs) : AllZ P md ops Q S z n l a w (i :: rs):=fun j hj=>by
 rcases List.mem_cons.1 hj with g | g
 · subst g
   exact wpOp_step ho (fun K' hK=>h K' (fun a w h1 h2=>hK a w ⟨h1,h2⟩))
 · exact hs j g
theorem all {rs : List Nat} {n : Nat} {l : Array Bool} {a : Act} {w : World} (hr : Region.ready md ops l = rs) (hne : rs ≠ []) (h : AllZ P md ops Q S z n l a w rs) : wpZ P md ops Q S z (n + 1) l a w:=⟨fun g=>absurd (hr ▸ g) hne,hr ▸ h⟩
theorem done {l : Array Bool} {a : Act} {w : World} (hr : Region.ready md ops l = []) (h : Q .normal a w) : ∀ n,wpZ P md ops Q S z n l a w
 | 0=>⟨hr,h⟩
 | _ + 1=>⟨fun _=>h,by rw [hr];exact fun _ g=>absurd g List.not_mem_nil⟩
theorem begin_ {id : Nat} {a : Act} {w : World} (hm : P.follows .mixedOrders = true) (h : wpZ P .any ops Q S z ops.size (Array.replicate ops.size false) a w.drew) : (Code.region id ops true).wp P Q a w:=wp_region_any hm (to_any _ _ _ _ h)
end
end GZ
namespace KY
open Go.RowKit GK KO
open FW (hideC add_below)
open KW (cellFr cellSl cellEn HasRow KAt HasK cellsK aggEn cellI)
open KS (Lc cellLc lc0 lcAt blk SpOwn)
theorem fr_one : ∀ (l : List KM.Fr),∀ u ∈ l.flatMap cellFr,u.oneCell' = true:=fun l u hu=>by
 obtain ⟨y,_,hy⟩:=List.mem_flatMap.1 hu
 simp [cellFr] at hy
 rcases hy with rfl | rfl | rfl | rfl <;> rfl
theorem sl_one : ∀ (l : List KM.Sl),∀ u ∈ l.flatMap cellSl,u.oneCell' = true:=fun l u hu=>by
 obtain ⟨y,_,hy⟩:=List.mem_flatMap.1 hu
 simp [cellSl] at hy
 rcases hy with rfl | rfl <;> rfl
theorem sh_one : ∀ (l : List LM.Sh),∀ u ∈ l.flatMap cellSh,u.oneCell' = true:=fun l u hu=>by
 obtain ⟨y,_,hy⟩:=List.mem_flatMap.1 hu
 simp [cellSh] at hy
 rcases hy with rfl | rfl | rfl <;> rfl
theorem fx_one : ∀ (l : List LM.Fx),∀ u ∈ l.flatMap cellFx,u.oneCell' = true:=fun l u hu=>by
 obtain ⟨y,_,hy⟩:=List.mem_flatMap.1 hu
 simp [cellFx] at hy
 rcases hy with rfl | rfl <;> rfl
theorem row_from {α : Type} {f : α -> List Value} {n : Nat} (hf : ∀ x,(f x).length = n) {d : α} {w : World} {ao : Option Addr} {l : List α} (h : HasRow f n d w ao l) : From w ao l.length (l.flatMap f):=fun hm=>by
 obtain ⟨b,off,rfl,hb,hl⟩:=h hm
 exact KS.from_rows (w:=w) f n hf d l b off (fun i hi j hj=>hl i hi j hj) hm
theorem sh_row {w : World} {ao : Option Addr} {l : List LM.Sh} (h : LM.HasH w ao l) : HasRow cellSh 3 LM.sh0 w ao l:=fun hl=>by
 obtain ⟨b,off,e,hb,hi⟩:=h hl
 refine ⟨b,off,e,hb,fun i hlt j hj=>?_⟩
 obtain ⟨c0,c1,c2,_⟩:=hi i hlt
 match j,hj with
 | 0,_=>exact c0
 | 1,_=>exact c1
 | 2,_=>exact c2
theorem fx_row {w : World} {ao : Option Addr} {l : List LM.Fx} (h : LM.HasF w ao l) : HasRow cellFx 2 LM.fx0 w ao l:=fun hl=>by
 obtain ⟨b,off,e,hb,hi⟩:=h hl
 refine ⟨b,off,e,hb,fun i hlt j hj=>?_⟩
 obtain ⟨c0,c1⟩:=hi i hlt
 match j,hj with
 | 0,_=>exact c0
 | 1,_=>exact c1
structure Four (lo : Nat) (WA wx : World) (cb : Nat) (vS vF vL : Value) (hd : Int) (k : KM.Kn) : Prop where
 head : wx.heap[cb]? = some (.cells #[vS,vF,vL,.slice none 0 0,.int .i64 hd] 27 (0,0))
 hlo : lo <= cb
 rS : wx.ownsRow lo 50 3 vS k.sheets.length (k.sheets.flatMap cellSh)
 rF : wx.ownsRow lo 40 4 vF k.frames.length (k.frames.flatMap cellFr)
 rL : wx.ownsRow lo 86 2 vL k.slots.length (k.slots.flatMap cellSl)
 d1 : ∀ b,blk vS b -> ¬ blk vF b /\ ¬ blk vL b /\ b ≠ cb
 d2 : ∀ b,blk vF b -> ¬ blk vL b /\ b ≠ cb
 d3 : ∀ b,blk vL b -> b ≠ cb
 below : Below WA.heap.size WA wx
theorem four_made {WA V1 w1 V2 w2 V3 w3 V4 : World} {cb : Nat} {vS vF vL : Value} {hd : Int} {k : KM.Kn} (b0 : Below WA.heap.size WA V1) (h1 : w1.ownsRow V1.heap.size 50 3 vS k.sheets.length (k.sheets.flatMap cellSh)) (b1 : Below V1.heap.size V1 w1) (b12 : Below w1.heap.size w1 V2)
  (h2 : w2.ownsRow V2.heap.size 40 4 vF k.frames.length (k.frames.flatMap cellFr)) (b2 : Below V2.heap.size V2 w2) (b23 : Below w2.heap.size w2 V3) (h3 : w3.ownsRow V3.heap.size 86 2 vL k.slots.length (k.slots.flatMap cellSl)) (b3 : Below V3.heap.size V3 w3) (b34 : Below w3.heap.size w3 V4)
  (hcb : V4.heap[cb]? = some (.cells #[.slice none 0 0,.slice none 0 0,.slice none 0 0,.slice none 0 0,.int .i64 0] 27 (0,0))) (hlo : WA.heap.size <= cb) (hout : cb < V1.heap.size ∨ (w1.heap.size <= cb /\ cb < V2.heap.size) ∨ (w2.heap.size <= cb /\ cb < V3.heap.size) ∨ w3.heap.size <= cb) :
  Four WA.heap.size WA (((((V4.setCell ⟨cb,0,none⟩ vS).setCell ⟨cb,1,none⟩ vF).setCell ⟨cb,2,none⟩ vL).setCell ⟨cb,3,none⟩ (.slice none 0 0)).setCell ⟨cb,4,none⟩ (.int .i64 hd)) cb vS vF vL hd k:=by
 have s0:=b0.size
 have s1:=b1.size
 have s12:=b12.size
 have s2:=b2.size
 have s23:=b23.size
 have s3:=b3.size
 have s34:=b34.size
 have kp : Kp (fun b=>b = cb) V4 (((((V4.setCell ⟨cb,0,none⟩ vS).setCell ⟨cb,1,none⟩ vF).setCell ⟨cb,2,none⟩ vL).setCell ⟨cb,3,none⟩ (.slice none 0 0)).setCell ⟨cb,4,none⟩ (.int .i64 hd)):=((((Kp.set (fun b=>b = cb) V4 ⟨cb,0,none⟩ _ rfl).trans (Kp.set (fun b=>b = cb) _ ⟨cb,1,none⟩ _ rfl) (fun _ _ g=>g)).trans (Kp.set (fun b=>b = cb) _ ⟨cb,2,none⟩ _ rfl) (fun _ _ g=>g)).trans (Kp.set (fun b=>b = cb) _ ⟨cb,3,none⟩ _ rfl) (fun _ _ g=>g)).trans (Kp.set (fun b=>b = cb) _ ⟨cb,4,none⟩ _ rfl) (fun _ _ g=>g)
 have B13 : Below w1.heap.size w1 V4:=((b12.trans (b2.mono s12)).trans (b23.mono (by omega))).trans ((b3.mono (by omega)).trans (b34.mono (by omega)))
 have B23 : Below w2.heap.size w2 V4:=(b23.trans (b3.mono s23)).trans (b34.mono (by omega))
 have e1 : ∀ b,blk vS b -> V1.heap.size <= b /\ b < w1.heap.size:=fun b hb=>h1.lt b hb
 have e2 : ∀ b,blk vF b -> V2.heap.size <= b /\ b < w2.heap.size:=fun b hb=>h2.lt b hb
 have e3 : ∀ b,blk vL b -> V3.heap.size <= b /\ b < w3.heap.size:=fun b hb=>h3.lt b hb
 have row : ∀ {e : TypeId} {n m lo : Nat} {v : Value} {xs : List Value} {W : World},W.ownsRow lo e n v m xs -> Below W.heap.size W V4 -> WA.heap.size <= lo -> (∀ b,blk v b -> b ≠ cb) -> World.ownsRow _ WA.heap.size e n v m xs:=fun hr hb hl hn=>kp.row (row_base ((Kp.ofBelow (D:=fun _=>False) hb).row hr (fun _ _ g=>g)) (fun g hg=>by have:=(hr.lt g hg).1;omega)) (fun b hb2=>hn b hb2)
 refine ⟨?_,hlo,row h1 B13 (by omega) (fun b hb=>by have:=e1 b hb;omega),row h2 B23 (by omega) (fun b hb=>by have:=e2 b hb;omega),row h3 b34 (by omega) (fun b hb=>by have:=e3 b hb;omega),fun b hb=>⟨fun x=>by have:=e1 b hb;have:=e2 b x;omega,fun x=>by have:=e1 b hb;have:=e3 b x;omega,by have:=e1 b hb;omega⟩,fun b hb=>⟨fun x=>by have:=e2 b hb;have:=e3 b x;omega,by have:=e2 b hb;omega⟩,fun b hb=>by have:=e3 b hb;omega,?_⟩
 · exact B.set (B.set (B.set (B.set (B.set hcb 0 vS) 1 vF) 2 vL) 3 (.slice none 0 0)) 4 (.int .i64 hd)
 · exact Kp.below (b0.trans ((b1.trans (B13.mono s1)).mono s0)) kp (by omega) (fun b e=>by omega)
theorem four_new {WA V1 w1 V2 w2 V3 w3 : World} {vS vF vL : Value} {hd : Int} {k : KM.Kn} (b0 : Below WA.heap.size WA V1) (h1 : w1.ownsRow V1.heap.size 50 3 vS k.sheets.length (k.sheets.flatMap cellSh)) (b1 : Below V1.heap.size V1 w1) (b12 : Below w1.heap.size w1 V2)
  (h2 : w2.ownsRow V2.heap.size 40 4 vF k.frames.length (k.frames.flatMap cellFr)) (b2 : Below V2.heap.size V2 w2) (b23 : Below w2.heap.size w2 V3) (h3 : w3.ownsRow V3.heap.size 86 2 vL k.slots.length (k.slots.flatMap cellSl)) (b3 : Below V3.heap.size V3 w3) :
  Four WA.heap.size WA (w3.alloc (.cells #[vS,vF,vL,.slice none 0 0,.int .i64 hd] 27)) w3.heap.size vS vF vL hd k:=by
 have s0:=b0.size
 have s1:=b1.size
 have s12:=b12.size
 have s2:=b2.size
 have s23:=b23.size
 have s3:=b3.size
 have b34 : Below w3.heap.size w3 (w3.alloc (.cells #[vS,vF,vL,.slice none 0 0,.int .i64 hd] 27)):=(Below.refl _ _).alloc (Nat.le_refl _) _
 have B13 : Below w1.heap.size w1 (w3.alloc (.cells #[vS,vF,vL,.slice none 0 0,.int .i64 hd] 27)):=((b12.trans (b2.mono s12)).trans (b23.mono (by omega))).trans ((b3.mono (by omega)).trans (b34.mono (by omega)))
 have B23 : Below w2.heap.size w2 (w3.alloc (.cells #[vS,vF,vL,.slice none 0 0,.int .i64 hd] 27)):=(b23.trans (b3.mono s23)).trans (b34.mono (by omega))
 have e1 : ∀ b,blk vS b -> V1.heap.size <= b /\ b < w1.heap.size:=fun b hb=>h1.lt b hb
 have e2 : ∀ b,blk vF b -> V2.heap.size <= b /\ b < w2.heap.size:=fun b hb=>h2.lt b hb
 have e3 : ∀ b,blk vL b -> V3.heap.size <= b /\ b < w3.heap.size:=fun b hb=>h3.lt b hb
 have row : ∀ {e : TypeId} {n m lo : Nat} {v : Value} {xs : List Value} {W : World},W.ownsRow lo e n v m xs -> Below W.heap.size W (w3.alloc (.cells #[vS,vF,vL,.slice none 0 0,.int .i64 hd] 27)) -> WA.heap.size <= lo -> World.ownsRow _ WA.heap.size e n v m xs:=fun hr hb hl=>row_base ((Kp.ofBelow (D:=fun _=>False) hb).row hr (fun _ _ g=>g)) (fun g hg=>by have:=(hr.lt g hg).1;omega)
 refine ⟨B.new w3 _ _,by omega,row h1 B13 (by omega),row h2 B23 (by omega),row h3 b34 (by omega),fun b hb=>⟨fun x=>by have:=e1 b hb;have:=e2 b x;omega,fun x=>by have:=e1 b hb;have:=e3 b x;omega,by have:=e1 b hb;omega⟩,fun b hb=>⟨fun x=>by have:=e2 b hb;have:=e3 b x;omega,by have:=e2 b hb;omega⟩,fun b hb=>by have:=e3 b hb;omega,?_⟩
 exact b0.trans ((b1.trans (B13.mono s1)).mono s0)
structure Kh (lo cb : Nat) (w : World) (lab : Nat -> Lb) (vS vF vL : Value) (k : KM.Kn) (hs : List LM.Sh) (n : Nat) : Prop where
 bnd : ∀ b,lab b ≠ .no -> lo <= b /\ b < w.heap.size
 head : w.heap[cb]? = some (.cells #[vS,vF,vL,.slice none 0 0,.int .i64 k.hand] 27 (0,0))
 lH : lab cb = .head
 sheets : w.ownsRow lo 50 3 vS hs.length (hs.flatMap cellSh)
 fixes : ∀ i,i < n -> w.ownsRow lo 52 2 (vX (LM.shAt hs i)) (LM.shAt hs i).fixes.length ((LM.shAt hs i).fixes.flatMap cellFx)
 frames : w.ownsRow lo 40 4 vF k.frames.length (k.frames.flatMap cellFr)
 slots : w.ownsRow lo 86 2 vL k.slots.length (k.slots.flatMap cellSl)
 lS : ∀ b,blk vS b -> lab b = .sheets
 lX : ∀ i,i < n -> ∀ b,blk (vX (LM.shAt hs i)) b -> lab b = .fixes i
 lF : ∀ b,blk vF b -> lab b = .frames
 lL : ∀ b,blk vL b -> lab b = .slots
 same : KM.Same k.sheets hs
 rest : ∀ i,n <= i -> LM.shAt hs i = LM.shAt k.sheets i
theorem four_kh {lo : Nat} {WA w : World} {cb : Nat} {vS vF vL : Value} {k : KM.Kn} (h : Four lo WA w cb vS vF vL k.hand k) : ∃ lab,Kh lo cb w lab vS vF vL k k.sheets 0:=by
 refine ⟨fun b=>if b = cb then .head else if vS.ownBlock = some b then .sheets else if vF.ownBlock = some b then .frames else if vL.ownBlock = some b then .slots else .no,⟨fun b hb=>?_,h.head,if_pos rfl,h.rS,fun i hi=>absurd hi (Nat.not_lt_zero _),h.rF,h.rL,fun b hb=>?_,fun i hi=>absurd hi (Nat.not_lt_zero _),fun b hb=>?_,fun b hb=>?_,rfl,fun i hi=>rfl⟩⟩
 · by_cases c0 : b = cb
   · rw [c0]
     exact ⟨h.hlo,B.isLt h.head⟩
   · by_cases c1 : vS.ownBlock = some b
     · exact h.rS.lt b c1
     · by_cases c2 : vF.ownBlock = some b
       · exact h.rF.lt b c2
       · by_cases c3 : vL.ownBlock = some b
         · exact h.rL.lt b c3
         · exfalso
           apply hb
           simp [c0,c1,c2,c3]
 · have hb' : vS.ownBlock = some b:=hb
   have:=h.d1 b hb
   rw [if_neg this.2.2,if_pos hb']
 · have hb' : vF.ownBlock = some b:=hb
   have:=h.d2 b hb
   rw [if_neg this.2,if_neg (show ¬ vS.ownBlock = some b from fun x=>(h.d1 b x).1 hb),if_pos hb']
 · have hb' : vL.ownBlock = some b:=hb
   have:=h.d3 b hb
   rw [if_neg this,if_neg (show ¬ vS.ownBlock = some b from fun x=>(h.d1 b x).2.1 hb),if_neg (show ¬ vF.ownBlock = some b from fun x=>(h.d2 b x).1 hb),if_pos hb']
theorem Kh.kp {lo cb : Nat} {w w' : World} {lab : Nat -> Lb} {vS vF vL : Value} {k : KM.Kn} {hs : List LM.Sh} {n : Nat} (h : Kh lo cb w lab vS vF vL k hs n) {E : Nat -> Prop} (hk : Kp E w w') (he : ∀ b,lab b ≠ .no -> ¬ E b) : Kh lo cb w' lab vS vF vL k hs n:=by
 have z : ∀ {b : Nat} {c : Lb},lab b = c -> c ≠ .no -> ¬ E b:=fun e hc=>he _ (by rw [e];exact hc)
 exact ⟨fun b hb=>⟨(h.bnd b hb).1,Nat.lt_of_lt_of_le (h.bnd b hb).2 hk.size⟩,hk.keep h.head (z h.lH (by simp)),h.lH,hk.row h.sheets (fun b hb=>z (h.lS b hb) (by simp)),fun i hi=>hk.row (h.fixes i hi) (fun b hb=>z (h.lX i hi b hb) (by simp)),hk.row h.frames (fun b hb=>z (h.lF b hb) (by simp)),hk.row h.slots (fun b hb=>z (h.lL b hb) (by simp)),h.lS,h.lX,h.lF,h.lL,h.same,h.rest⟩
theorem Kh.below {lo cb : Nat} {w w' : World} {lab : Nat -> Lb} {vS vF vL : Value} {k : KM.Kn} {hs : List LM.Sh} {n : Nat} (h : Kh lo cb w lab vS vF vL k hs n) (hb : Below w.heap.size w w') : Kh lo cb w' lab vS vF vL k hs n:=h.kp (Kp.ofBelow (D:=fun _=>False) hb) (fun _ _ g=>g)
theorem shAt_set (l : List LM.Sh) (i m : Nat) (x : LM.Sh) (hi : i < l.length) : LM.shAt (l.set i x) m = if i = m then x else LM.shAt l m:=by
 unfold LM.shAt
 by_cases c : i = m
 · subst c;rw [if_pos rfl,KM.getD_set_self _ _ _ _ hi]
 · rw [if_neg c,KM.getD_set_ne _ _ _ _ _ c]
theorem plain_set : ∀ (l : List LM.Sh) (i : Nat) (x : LM.Sh),i < l.length -> LM.plain x = LM.plain (LM.shAt l i) -> (l.set i x).map LM.plain = l.map LM.plain
 | [],i,x,hi,_=>absurd hi (Nat.not_lt_zero _)
 | a :: r,0,x,hi,e=>by
  show LM.plain x :: _ = LM.plain a :: _
  rw [e]
  rfl
 | a :: r,i + 1,x,hi,e=>by
  show LM.plain a :: (r.set i x).map LM.plain = LM.plain a :: _
  rw [plain_set r i x (Nat.lt_of_succ_lt_succ hi) e]
theorem Kh.step {lo cb : Nat} {w w1 : World} {lab : Nat -> Lb} {vF vL : Value} {k : KM.Kn} {hs : List LM.Sh} {n : Nat} {sb m cS : Nat} {ax : Option Addr} {cx : Nat} (h : Kh lo cb w lab (.slice (some ⟨sb,0,none⟩) m cS) vF vL k hs n) (hn : n < hs.length) (hlo : lo <= w.heap.size) (hb : Below w.heap.size w w1)
  (hr : w1.ownsRow w.heap.size 52 2 (.slice ax (LM.shAt hs n).fixes.length cx) (LM.shAt hs n).fixes.length ((LM.shAt hs n).fixes.flatMap cellFx)) :
  ∃ lab',Kh lo cb (w1.setCell ⟨sb,n * 3 + 2,none⟩ (.slice ax (LM.shAt hs n).fixes.length cx)) lab' (.slice (some ⟨sb,0,none⟩) m cS) vF vL k (hs.set n ⟨(LM.shAt hs n).page,(LM.shAt hs n).data,(LM.shAt hs n).fixes,ax,cx⟩) (n + 1) /\ ∀ b,b < w.heap.size -> lab' b = lab b:=by
 have h1:=h.below hb
 obtain ⟨v,hv⟩ : ∃ v : Value,v = .slice ax (LM.shAt hs n).fixes.length cx:=⟨_,rfl⟩
 rw [<- hv] at hr ⊢
 have hsb : lab sb = .sheets:=h.lS sb rfl
 have hset : Kp (fun b=>b = sb) w1 (w1.setCell ⟨sb,n * 3 + 2,none⟩ v):=Kp.set _ _ _ _ rfl
 have z : ∀ {b : Nat} {c : Lb},lab b = c -> c ≠ .sheets -> ¬ b = sb:=fun e hc x=>hc (by rw [<- e,x];exact hsb)
 have ev : ∀ b,blk v b -> w.heap.size <= b /\ b < w1.heap.size:=fun b hx=>hr.lt b hx
 have old : ∀ b,b < w.heap.size -> (if v.ownBlock = some b then Lb.fixes n else lab b) = lab b:=fun b hl=>if_neg fun x=>by have:=ev b x;omega
 have o2 : ∀ b c,lab b = c -> c ≠ .no -> (if v.ownBlock = some b then Lb.fixes n else lab b) = c:=fun b c e hc=>by
  rw [old b (h.bnd b (by rw [e];exact hc)).2,e]
 have hm : m = hs.length:=by
  obtain ⟨ao,c,e,_⟩:=row_form h.sheets
  injection e
 subst hm
 have hsz : (w1.setCell ⟨sb,n * 3 + 2,none⟩ v).heap.size = w1.heap.size:=by simp
 refine ⟨fun b=>if v.ownBlock = some b then .fixes n else lab b,⟨fun b hx=>?_,hset.keep h1.head (z h.lH (by simp)),o2 cb _ h.lH (by simp),?_,fun i hi=>?_,hset.row h1.frames (fun b hx=>z (h.lF b hx) (by simp)),hset.row h1.slots (fun b hx=>z (h.lL b hx) (by simp)),fun b hx=>o2 b _ (h.lS b hx) (by simp),fun i hi b hx=>?_,fun b hx=>o2 b _ (h.lF b hx) (by simp),fun b hx=>o2 b _ (h.lL b hx) (by simp),?_,fun i hi=>?_⟩,old⟩
 · rw [hsz]
   by_cases c : v.ownBlock = some b
   · have:=ev b c;omega
   · have hx : (if v.ownBlock = some b then Lb.fixes n else lab b) ≠ .no:=hx
     rw [if_neg c] at hx
     exact h1.bnd b hx
 · have hr1:=row_set h1.sheets (n * 3 + 2) v
   rw [<- rows_set cellSh 3 (fun _=>rfl) LM.sh0 ⟨(LM.shAt hs n).page,(LM.shAt hs n).data,(LM.shAt hs n).fixes,ax,cx⟩ 2 v (by omega) hs n hn (by rw [hv];rfl)] at hr1
   rw [List.length_set]
   exact hr1
 · rw [shAt_set _ _ _ _ hn]
   by_cases c : n = i
   · rw [if_pos c]
     show World.ownsRow _ lo _ 2 (.slice ax (LM.shAt hs n).fixes.length cx) _ _
     rw [<- hv]
     exact hset.row (row_base hr (fun g hg=>by have:=ev g hg;omega)) (fun b hx e=>by have:=ev b hx;have:=(h.bnd sb (by rw [hsb];simp)).2;omega)
   · rw [if_neg c]
     exact hset.row (h1.fixes i (by omega)) (fun b hx=>z (h.lX i (by omega) b hx) (by simp))
 · rw [shAt_set _ _ _ _ hn] at hx
   by_cases c : n = i
   · rw [if_pos c] at hx
     have hx : blk (.slice ax (LM.shAt hs n).fixes.length cx) b:=hx
     rw [<- hv] at hx
     show (if v.ownBlock = some b then Lb.fixes n else lab b) = _
     rw [if_pos (show v.ownBlock = some b from hx),c]
   · rw [if_neg c] at hx
     exact o2 b _ (h.lX i (by omega) b hx) (by simp)
 · show List.map LM.plain _ = _
   exact (plain_set hs n ⟨(LM.shAt hs n).page,(LM.shAt hs n).data,(LM.shAt hs n).fixes,ax,cx⟩ hn rfl).trans h.same
 · rw [shAt_set _ _ _ _ hn,if_neg (by omega)]
   exact h.rest i (by omega)
theorem Kh.done {lo cb : Nat} {w : World} {lab : Nat -> Lb} {vS vF vL : Value} {k : KM.Kn} {hs : List LM.Sh} (h : Kh lo cb w lab vS vF vL k hs hs.length) : Km lo cb 27 [] w ⟨lab,vS,vF,vL,.slice none 0 0,[]⟩ (KM.withS ⟨k.sheets,k.frames,k.slots,k.spaces.take 0,k.hand⟩ hs) :=
 ⟨⟨h.bnd,h.sheets,h.fixes,h.frames,h.slots,World.ownsRow_nil _ _ _ _,rfl,fun i hi=>absurd hi (Nat.not_lt_zero _),h.lS,h.lX,h.lF,h.lL,(fun b hb=>by cases hb),fun i hi=>absurd hi (Nat.not_lt_zero _),fun i hi=>absurd hi (Nat.not_lt_zero _)⟩,h.head,h.lH⟩
end KY
end Go.Proofs.YtpgifpeohlllfaaGreat
