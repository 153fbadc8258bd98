import Derived.Test.YtkdigjpejnebkaaGreatGS11
import Derived.Test.YtkdigjpejnebkaaGreatGS03
import Derived.Test.YtkdigjpejnebkaaGreatGS09
import Derived.Test.YtkdigjpejnebkaaGreatGS14
import Derived.Deep.RegionHeld3
import Derived.Deep.RegionLaw
import Derived.Deep.DeepCutAuto
import Derived.Test.YtkdigjpejnebkaaGreatProg
import Derived.WalkLawsBesides
import Derived.Laws.BytesArg
import Derived.Laws.OwnMore
set_option linter.unusedVariables false
set_option maxRecDepth 100000
set_option linter.unusedSimpArgs false
namespace Go.Proofs.YtkdigjpejnebkaaGreat
namespace GW
open Go.RowKit GK GG
open FW (hideC add_below)
def blk (v : Value) (b : Nat) : Prop:=v.ownBlock = some b
theorem methodLoad (a : Addr) (w : World) : (method 396 144 (.pointer (some a)) "Load").run Tryz.prog w = .ok (192, .pointer (some a)) w := by kernel_rfl
theorem aheadLoad (a : Addr) (w : World) : (nilAhead 396 144 (.pointer (some a)) "Load").run Tryz.prog w = .ok (some false) w := by kernel_rfl
theorem methodStore (a : Addr) (w : World) : (method 396 144 (.pointer (some a)) "Store").run Tryz.prog w = .ok (195, .pointer (some a)) w := by kernel_rfl
theorem aheadStore (a : Addr) (w : World) : (nilAhead 396 144 (.pointer (some a)) "Store").run Tryz.prog w = .ok (some false) w := by kernel_rfl
theorem methodMap (a : Addr) (w : World) : (method 396 144 (.pointer (some a)) "Map").run Tryz.prog w = .ok (193, .pointer (some a)) w := by kernel_rfl
theorem aheadMap (a : Addr) (w : World) : (nilAhead 396 144 (.pointer (some a)) "Map").run Tryz.prog w = .ok (some false) w := by kernel_rfl
theorem methodUnmap (a : Addr) (w : World) : (method 396 144 (.pointer (some a)) "Unmap").run Tryz.prog w = .ok (196, .pointer (some a)) w := by kernel_rfl
theorem aheadUnmap (a : Addr) (w : World) : (nilAhead 396 144 (.pointer (some a)) "Unmap").run Tryz.prog w = .ok (some false) w := by kernel_rfl
theorem methodProtect (a : Addr) (w : World) : (method 396 144 (.pointer (some a)) "Protect").run Tryz.prog w = .ok (194, .pointer (some a)) w := by kernel_rfl
theorem aheadProtect (a : Addr) (w : World) : (nilAhead 396 144 (.pointer (some a)) "Protect").run Tryz.prog w = .ok (some false) w := by kernel_rfl
theorem methodFork (a : Addr) (w : World) : (method 396 144 (.pointer (some a)) "Fork").run Tryz.prog w = .ok (191, .pointer (some a)) w := by kernel_rfl
theorem aheadFork (a : Addr) (w : World) : (nilAhead 396 144 (.pointer (some a)) "Fork").run Tryz.prog w = .ok (some false) w := by kernel_rfl
theorem methodDrop (a : Addr) (w : World) : (method 396 144 (.pointer (some a)) "Drop").run Tryz.prog w = .ok (190, .pointer (some a)) w := by kernel_rfl
theorem aheadDrop (a : Addr) (w : World) : (nilAhead 396 144 (.pointer (some a)) "Drop").run Tryz.prog w = .ok (some false) w := by kernel_rfl
def Out {σ : Type} (Hd : World -> (Nat -> Prop) -> σ -> Prop) (w : World) (D : Nat -> Prop) (v : Value) (s : σ) (e : Ending) (w' : World) : Prop:=∃ D',e = .returned v /\ Hd w' D' s /\ Kp D w w' /\ ∀ b,D' b -> D b ∨ w.heap.size <= b
structure MemC {σ : Type} (lo mb : Nat) (Hd : World -> (Nat -> Prop) -> σ -> Prop) (Ok : σ -> List Bool -> Prop) (o : Ops σ) : Prop where
 kp : ∀ (w w' : World) (D E : Nat -> Prop) (s : σ),Hd w D s -> Kp E w w' -> (∀ b,D b -> ¬ E b) -> Hd w' D s
 dom : ∀ (w : World) (D : Nat -> Prop) (s : σ),Hd w D s -> ∀ b,D b -> lo <= b /\ b < w.heap.size
 ok : OpsOk o Ok
 load : ∀ (w : World) D s fl (k : Nat) (a n way : Int),Hd w D s -> Ok s fl -> fl.getD k false = true -> M.I64 a -> 1 <= n -> n <= 8 -> (way = 0 ∨ way = 2) -> Calls Tryz.prog 192 #[.pointer (some ⟨mb,0,none⟩),.int .i64 (k : Int),.int .i64 a,.int .i64 n,.int .i64 way] w (Out Hd w D (.tuple #[.string (o.load s k a n way).1.1,.agg (FW.fcells (o.load s k a n way).1.2)]) (o.load s k a n way).2)
 store : ∀ (w : World) D s fl (k : Nat) (a : Int) (d : ByteArray),Hd w D s -> Ok s fl -> fl.getD k false = true -> M.I64 a -> 1 <= d.size -> d.size <= 8 -> Calls Tryz.prog 195 #[.pointer (some ⟨mb,0,none⟩),.int .i64 (k : Int),.int .i64 a,.string d] w (Out Hd w D (.agg (FW.fcells (o.store s k a d).1)) (o.store s k a d).2)
 map : ∀ (w : World) D s fl (k : Nat) (p n q : Int),Hd w D s -> Ok s fl -> fl.getD k false = true -> M.I64 p -> M.I64 n -> Calls Tryz.prog 193 #[.pointer (some ⟨mb,0,none⟩),.int .i64 (k : Int),.int .i64 p,.int .i64 n,.int .i64 q] w (Out Hd w D (.int .i64 (o.map s k p n q).1) (o.map s k p n q).2)
 unmap : ∀ (w : World) D s fl (k : Nat) (p n : Int),Hd w D s -> Ok s fl -> fl.getD k false = true -> M.I64 p -> M.I64 n -> Calls Tryz.prog 196 #[.pointer (some ⟨mb,0,none⟩),.int .i64 (k : Int),.int .i64 p,.int .i64 n] w (Out Hd w D (.int .i64 (o.unmap s k p n).1) (o.unmap s k p n).2)
 protect : ∀ (w : World) D s fl (k : Nat) (p n q : Int),Hd w D s -> Ok s fl -> fl.getD k false = true -> M.I64 p -> M.I64 n -> Calls Tryz.prog 194 #[.pointer (some ⟨mb,0,none⟩),.int .i64 (k : Int),.int .i64 p,.int .i64 n,.int .i64 q] w (Out Hd w D (.int .i64 (o.protect s k p n q).1) (o.protect s k p n q).2)
 fork : ∀ (w : World) D s fl (k : Nat),Hd w D s -> Ok s fl -> fl.getD k false = true -> Calls Tryz.prog 191 #[.pointer (some ⟨mb,0,none⟩),.int .i64 (k : Int)] w (Out Hd w D (.int .i64 (o.fork s k).1) (o.fork s k).2)
 drop : ∀ (w : World) D s fl (k : Nat),Hd w D s -> Ok s fl -> fl.getD k false = true -> Calls Tryz.prog 190 #[.pointer (some ⟨mb,0,none⟩),.int .i64 (k : Int)] w (Out Hd w D (.tuple #[]) (o.drop s k))
def cellPr (p : PM.Pr) : List Value:=[.int .i64 (p.r 0),.int .i64 (p.r 1),.int .i64 (p.r 2),.int .i64 (p.r 3),.int .i64 (p.r 4),.int .i64 (p.r 5),.int .i64 (p.r 6),.int .i64 (p.r 7),.int .i64 p.pc,.int .i64 p.st,.int .i64 p.cd,.int .i64 p.fk,.int .i64 p.fa]
def cellWd (x : FM.Wd) : List Value:=[.int .i64 x.proc,.int .i64 x.value]
theorem cellPr_len (p : PM.Pr) : (cellPr p).length = 13:=rfl
theorem cellWd_len (p : FM.Wd) : (cellWd p).length = 2:=rfl
structure Grp {σ : Type} (Hd : World -> (Nat -> Prop) -> σ -> Prop) (lo mb gb : Nat) (w : World) (D : Nat -> Prop) (vr vo : Value) (st : St σ) : Prop where
 head : w.heap[gb]? = some (.cells #[.iface 144 (.pointer (some ⟨mb,0,none⟩)),vr,vo] 151 (0,0))
 mem : Hd w D st.mem
 procs : w.ownsRow lo 70 13 vr st.ps.length (st.ps.flatMap cellPr)
 outs : w.ownsRow lo 78 2 vo st.out.length (st.out.flatMap cellWd)
 base : lo <= gb
 n1 : ¬ D gb
 n2 : ¬ blk vr gb
 n3 : ¬ blk vo gb
 n4 : ∀ b,blk vr b -> ¬ D b
 n5 : ∀ b,blk vo b -> ¬ D b
 n6 : ∀ b,blk vr b -> ¬ blk vo b
def grpD (gb : Nat) (D : Nat -> Prop) (vr vo : Value) (b : Nat) : Prop:=b = gb ∨ D b ∨ blk vr b ∨ blk vo b
section
variable {σ : Type} {Hd : World -> (Nat -> Prop) -> σ -> Prop} {Ok : σ -> List Bool -> Prop} {o : Ops σ} {lo mb gb : Nat} {w w' : World} {D : Nat -> Prop} {vr vo : Value} {st : St σ}
theorem Grp.kp (C : MemC lo mb Hd Ok o) {E : Nat -> Prop} (h : Grp Hd lo mb gb w D vr vo st) (hk : Kp E w w') (hd : ∀ b,grpD gb D vr vo b -> ¬ E b) : Grp Hd lo mb gb w' D vr vo st :=
 ⟨hk.keep h.head (hd _ (.inl rfl)),C.kp _ _ _ _ _ h.mem hk (fun b hb=>hd b (.inr (.inl hb))),hk.row h.procs (fun g hg=>hd g (.inr (.inr (.inl hg)))),hk.row h.outs (fun g hg=>hd g (.inr (.inr (.inr hg)))),h.base,h.n1,h.n2,h.n3,h.n4,h.n5,h.n6⟩
theorem Grp.below (C : MemC lo mb Hd Ok o) (h : Grp Hd lo mb gb w D vr vo st) (hb : Below w.heap.size w w') : Grp Hd lo mb gb w' D vr vo st:=h.kp C (Kp.ofBelow (D:=fun _=>False) hb) (fun _ _ g=>g)
theorem Grp.lt (C : MemC lo mb Hd Ok o) (h : Grp Hd lo mb gb w D vr vo st) (b : Nat) (hb : grpD gb D vr vo b) : lo <= b /\ b < w.heap.size:=by
 rcases hb with g | g | g | g
 · rw [g];exact ⟨h.base,B.isLt h.head⟩
 · exact C.dom _ _ _ h.mem b g
 · exact h.procs.lt b g
 · exact h.outs.lt b g
theorem Grp.turn (C : MemC lo mb Hd Ok o) {D' : Nat -> Prop} {m : σ} (h : Grp Hd lo mb gb w D vr vo st) (hm : Hd w' D' m) (hk : Kp D w w') (hd : ∀ b,D' b -> D b ∨ w.heap.size <= b) : Grp Hd lo mb gb w' D' vr vo { st with mem:=m }:=by
 have h1 : ∀ b,b < w.heap.size -> ¬ D b -> ¬ D' b:=fun b hb hn g=>by
  rcases hd b g with x | x
  · exact hn x
  · omega
 exact ⟨hk.keep h.head h.n1,hm,hk.row h.procs h.n4,hk.row h.outs h.n5,h.base,h1 _ (B.isLt h.head) h.n1,h.n2,h.n3,fun b hb=>h1 b (h.procs.lt b hb).2 (h.n4 b hb),fun b hb=>h1 b (h.outs.lt b hb).2 (h.n5 b hb),h.n6⟩
def Left (Hd : World -> (Nat -> Prop) -> σ -> Prop) (lo mb gb : Nat) (w : World) (D : Nat -> Prop) (vr vo : Value) (st' : St σ) (w' : World) : Prop:=∃ D' vr' vo',Grp Hd lo mb gb w' D' vr' vo' st' /\ Kp (grpD gb D vr vo) w w' /\ ∀ b,grpD gb D' vr' vo' b -> grpD gb D vr vo b ∨ w.heap.size <= b
theorem Left.refl (h : Grp Hd lo mb gb w D vr vo st) : Left Hd lo mb gb w D vr vo st w:=⟨D,vr,vo,h,Kp.refl _ _,fun b hb=>.inl hb⟩
theorem Left.ofTurn (C : MemC lo mb Hd Ok o) {D' : Nat -> Prop} {m : σ} (h : Grp Hd lo mb gb w D vr vo st) (hm : Hd w' D' m) (hk : Kp D w w') (hd : ∀ b,D' b -> D b ∨ w.heap.size <= b) : Left Hd lo mb gb w D vr vo { st with mem:=m } w' :=
 ⟨D',vr,vo,h.turn C hm hk hd,hk.mono (fun b _ g=>.inr (.inl g)),fun b hb=>by
  rcases hb with g | g | g | g
  · exact .inl (.inl g)
  · rcases hd b g with x | x
    · exact .inl (.inr (.inl x))
    · exact .inr x
  · exact .inl (.inr (.inr (.inl g)))
  · exact .inl (.inr (.inr (.inr g)))⟩
theorem Left.trans {w2 : World} {D1 : Nat -> Prop} {r1 o1 : Value} {st2 : St σ} (hk : Kp (grpD gb D vr vo) w w') (hd : ∀ b,grpD gb D1 r1 o1 b -> grpD gb D vr vo b ∨ w.heap.size <= b) (h2 : Left Hd lo mb gb w' D1 r1 o1 st2 w2) : Left Hd lo mb gb w D vr vo st2 w2:=by
 obtain ⟨D',vr',vo',hg,hk2,hd2⟩:=h2
 have hs:=hk.size
 refine ⟨D',vr',vo',hg,hk.trans hk2 (fun b hb g=>?_),fun b hb=>?_⟩
 · rcases hd b g with x | x
   · exact x
   · omega
 · rcases hd2 b hb with x | x
   · exact hd b x
   · exact .inr (by omega)
theorem Left.after {w2 : World} {st2 : St σ} (hb : Below w.heap.size w w') (h2 : Left Hd lo mb gb w' D vr vo st2 w2) : Left Hd lo mb gb w D vr vo st2 w2:=Left.trans (Kp.ofBelow hb) (fun b hb=>.inl hb) h2
theorem Left.more (C : MemC lo mb Hd Ok o) {w2 : World} {st2 : St σ} (h : Left Hd lo mb gb w D vr vo st2 w') (hb : Below w'.heap.size w' w2) : Left Hd lo mb gb w D vr vo st2 w2:=by
 obtain ⟨D',vr',vo',hg,hk2,hd2⟩:=h
 exact ⟨D',vr',vo',hg.below C hb,hk2.trans (Kp.ofBelow hb) (fun _ _ g=>g),hd2⟩
theorem grown_blk {v v' : Value} {O : Obj} (hat : v'.ownBlock = v.ownBlock ∨ v'.ownBlock = some (w.alloc O).heap.size) (b : Nat) (hb : blk v' b) : blk v b ∨ b = w.heap.size + 1:=by
 unfold blk at hb ⊢
 rcases hat with e | e
 · exact .inl (by rw [<- e];exact hb)
 · right
   rw [e,World.size_alloc] at hb
   injection hb with hb
   exact hb.symm
theorem Grp.pushP (C : MemC lo mb Hd Ok o) {w4 : World} {O : Obj} {vr' : Value} {p : PM.Pr} (h : Grp Hd lo mb gb w D vr vo st) (hgr : (w.alloc O).grownBy w4 vr.ownBlock) (hown : w4.ownsRow lo 70 13 vr' (st.ps.length + 1) (st.ps.flatMap cellPr ++ cellPr p)) (hat : vr'.ownBlock = vr.ownBlock ∨ vr'.ownBlock = some (w.alloc O).heap.size) :
  Left Hd lo mb gb w D vr vo { st with ps:=st.ps ++ [p] } (w4.setCell ⟨gb,1,none⟩ vr'):=by
 have s2:=hgr.size
 rw [World.size_alloc] at s2
 have hbk:=grown_blk hat
 have kA : Kp (blk vr) w w4:=(Kp.alloc (blk vr) w O).trans (Kp.grown hgr (fun _ e=>e)) (fun _ _ g=>g)
 have kS : Kp (fun b=>b = gb) w4 (w4.setCell ⟨gb,1,none⟩ vr'):=Kp.set _ _ _ _ rfl
 have lgb:=B.isLt h.head
 have hlt:=h.lt C
 have e1 : ¬ blk vr' gb:=fun g=>by
  rcases hbk _ g with x | x
  · exact h.n2 x
  · omega
 refine ⟨D,vr',vo,⟨B.set (kA.keep h.head h.n2) 1 vr',?_,?_,?_,h.base,h.n1,e1,h.n3,?_,h.n5,?_⟩,?_,?_⟩
 · exact C.kp _ _ _ _ _ (C.kp _ _ _ _ _ h.mem kA (fun b hb g=>h.n4 b g hb)) kS (fun b hb g=>h.n1 (g ▸ hb))
 · show (w4.setCell _ _).ownsRow lo _ 13 vr' (st.ps ++ [p]).length ((st.ps ++ [p]).flatMap cellPr)
   rw [List.length_append,List.flatMap_append]
   exact kS.row (by simpa using hown) (fun g hg e=>e1 (e ▸ hg))
 · exact kS.row (kA.row h.outs (fun g hg e=>h.n6 g e hg)) (fun g hg e=>h.n3 (e ▸ hg))
 · intro b hb g
   rcases hbk _ hb with x | x
   · exact h.n4 b x g
   · have:=hlt b (.inr (.inl g));omega
 · intro b hb g
   rcases hbk _ hb with x | x
   · exact h.n6 b x g
   · have:=hlt b (.inr (.inr (.inr g)));omega
 · exact (kA.mono (fun b _ g=>.inr (.inr (.inl g)))).trans (kS.mono (fun b _ g=>.inl g)) (fun _ _ g=>g)
 · intro b hb
   rcases hb with g | g | g | g
   · exact .inl (.inl g)
   · exact .inl (.inr (.inl g))
   · rcases hbk _ g with x | x
     · exact .inl (.inr (.inr (.inl x)))
     · exact .inr (by omega)
   · exact .inl (.inr (.inr (.inr g)))
theorem Grp.pushW (C : MemC lo mb Hd Ok o) {w4 : World} {O : Obj} {vo' : Value} {x : FM.Wd} (h : Grp Hd lo mb gb w D vr vo st) (hgr : (w.alloc O).grownBy w4 vo.ownBlock) (hown : w4.ownsRow lo 78 2 vo' (st.out.length + 1) (st.out.flatMap cellWd ++ cellWd x)) (hat : vo'.ownBlock = vo.ownBlock ∨ vo'.ownBlock = some (w.alloc O).heap.size) :
  Left Hd lo mb gb w D vr vo { st with out:=st.out ++ [x] } (w4.setCell ⟨gb,2,none⟩ vo'):=by
 have s2:=hgr.size
 rw [World.size_alloc] at s2
 have hbk:=grown_blk hat
 have kA : Kp (blk vo) w w4:=(Kp.alloc (blk vo) w O).trans (Kp.grown hgr (fun _ e=>e)) (fun _ _ g=>g)
 have kS : Kp (fun b=>b = gb) w4 (w4.setCell ⟨gb,2,none⟩ vo'):=Kp.set _ _ _ _ rfl
 have lgb:=B.isLt h.head
 have hlt:=h.lt C
 have e1 : ¬ blk vo' gb:=fun g=>by
  rcases hbk _ g with x | x
  · exact h.n3 x
  · omega
 refine ⟨D,vr,vo',⟨B.set (kA.keep h.head h.n3) 2 vo',?_,?_,?_,h.base,h.n1,h.n2,e1,h.n4,?_,?_⟩,?_,?_⟩
 · exact C.kp _ _ _ _ _ (C.kp _ _ _ _ _ h.mem kA (fun b hb g=>h.n5 b g hb)) kS (fun b hb g=>h.n1 (g ▸ hb))
 · exact kS.row (kA.row h.procs (fun g hg e=>h.n6 g hg e)) (fun g hg e=>h.n2 (e ▸ hg))
 · show (w4.setCell _ _).ownsRow lo _ 2 vo' (st.out ++ [x]).length ((st.out ++ [x]).flatMap cellWd)
   rw [List.length_append,List.flatMap_append]
   exact kS.row (by simpa using hown) (fun g hg e=>e1 (e ▸ hg))
 · intro b hb g
   rcases hbk _ hb with x | x
   · exact h.n5 b x g
   · have:=hlt b (.inr (.inl g));omega
 · intro b hb g
   rcases hbk _ g with x | x
   · exact h.n6 b hb x
   · have:=hlt b (.inr (.inr (.inl hb)));omega
 · exact (kA.mono (fun b _ g=>.inr (.inr (.inr g)))).trans (kS.mono (fun b _ g=>.inl g)) (fun _ _ g=>g)
 · intro b hb
   rcases hb with g | g | g | g
   · exact .inl (.inl g)
   · exact .inl (.inr (.inl g))
   · exact .inl (.inr (.inr (.inl g)))
   · rcases hbk _ g with x | x
     · exact .inl (.inr (.inr (.inr x)))
     · exact .inr (by omega)
def LeftN (ys : Nat -> Prop) (Hd : World -> (Nat -> Prop) -> σ -> Prop) (lo mb gb : Nat) (w : World) (D : Nat -> Prop) (vr vo : Value) (st' : St σ) (w' : World) : Prop:=∃ D' vr' vo',Grp Hd lo mb gb w' D' vr' vo' st' /\ Kp (grpD gb D vr vo) w w' /\ (∀ b,grpD gb D' vr' vo' b -> grpD gb D vr vo b ∨ w.heap.size <= b) /\ ∀ b,ys b -> ¬ grpD gb D' vr' vo' b
theorem LeftN.left {ys : Nat -> Prop} {st' : St σ} (h : LeftN ys Hd lo mb gb w D vr vo st' w') : Left Hd lo mb gb w D vr vo st' w':=by
 obtain ⟨D',r,v,h1,h2,h3,_⟩:=h
 exact ⟨D',r,v,h1,h2,h3⟩
theorem LeftN.set (C : MemC lo mb Hd Ok o) {ys : Nat -> Prop} {st' : St σ} (h : LeftN ys Hd lo mb gb w D vr vo st' w') (a : Addr) (x : Value) (hy : ys a.block) (hw : w.heap.size <= a.block) : LeftN ys Hd lo mb gb w D vr vo st' (w'.setCell a x):=by
 obtain ⟨D',r,v,h1,h2,h3,h4⟩:=h
 have kS : Kp (fun b=>b = a.block) w' (w'.setCell a x):=Kp.set _ _ _ _ rfl
 exact ⟨D',r,v,h1.kp C kS (fun b hb e=>h4 _ hy (e ▸ hb)),h2.trans kS (fun b hb e=>by omega),h3,h4⟩
theorem LeftN.more (C : MemC lo mb Hd Ok o) {ys : Nat -> Prop} {w2 : World} {st' : St σ} (h : LeftN ys Hd lo mb gb w D vr vo st' w') (hb : Below w'.heap.size w' w2) : LeftN ys Hd lo mb gb w D vr vo st' w2:=by
 obtain ⟨D',r,v,h1,h2,h3,h4⟩:=h
 exact ⟨D',r,v,h1.below C hb,h2.trans (Kp.ofBelow hb) (fun _ _ g=>g),h3,h4⟩
theorem LeftN.alloc (C : MemC lo mb Hd Ok o) {ys : Nat -> Prop} {st' : St σ} (h : LeftN ys Hd lo mb gb w D vr vo st' w') (ob : Obj) : LeftN (fun b=>ys b ∨ b = w'.heap.size) Hd lo mb gb w D vr vo st' (w'.alloc ob):=by
 obtain ⟨D',r,v,h1,h2,h3,h4⟩:=h
 have hb : Below w'.heap.size w' (w'.alloc ob):=(Below.refl _ _).alloc (Nat.le_refl _) ob
 exact ⟨D',r,v,h1.below C hb,h2.trans (Kp.ofBelow hb) (fun _ _ g=>g),h3,fun b hy g=>by
  rcases hy with e | e
  · exact h4 b e g
  · have:=h1.lt C b g;omega⟩
theorem LeftN.sub {ys zs : Nat -> Prop} {st' : St σ} (h : LeftN ys Hd lo mb gb w D vr vo st' w') (hs : ∀ b,zs b -> ys b) : LeftN zs Hd lo mb gb w D vr vo st' w':=by
 obtain ⟨D',r,v,h1,h2,h3,h4⟩:=h
 exact ⟨D',r,v,h1,h2,h3,fun b hb=>h4 b (hs b hb)⟩
theorem LeftN.behind (C : MemC lo mb Hd Ok o) {w2 : World} {st' : St σ} (h : Grp Hd lo mb gb w D vr vo st) (hb : Below w.heap.size w w') (h2 : Left Hd lo mb gb w' D vr vo st' w2) : LeftN (fun b=>w.heap.size <= b /\ b < w'.heap.size) Hd lo mb gb w D vr vo st' w2:=by
 obtain ⟨D',r,v,g1,g2,g3⟩:=h2
 have hs:=hb.size
 refine ⟨D',r,v,g1,(Kp.ofBelow hb).trans g2 (fun _ _ g=>g),fun b hb'=>?_,fun b hy g=>?_⟩
 · rcases g3 b hb' with x | x
   · exact .inl x
   · exact .inr (by omega)
 · rcases g3 b g with x | x
   · have:=h.lt C b x;omega
   · omega
theorem Grp.aside (C : MemC lo mb Hd Ok o) {w2 : World} {b : Nat} {ob : Obj} (h : Grp Hd lo mb gb w D vr vo st) (hk : Kp (grpD gb D vr vo) w' w2) (hw : w.heap.size <= b) (hb : w'.heap[b]? = some ob) : w2.heap[b]? = some ob :=
 hk.keep hb (fun g=>by have:=h.lt C b g;omega)
theorem LeftN.step {ys : Nat -> Prop} {w2 : World} {D1 : Nat -> Prop} {r1 o1 : Value} {st2 : St σ} (hys : ∀ b,ys b -> b < w'.heap.size) (hk : Kp (grpD gb D vr vo) w w') (hd : ∀ b,grpD gb D1 r1 o1 b -> grpD gb D vr vo b ∨ w.heap.size <= b) (hn : ∀ b,ys b -> ¬ grpD gb D1 r1 o1 b) (h2 : Left Hd lo mb gb w' D1 r1 o1 st2 w2) : LeftN ys Hd lo mb gb w D vr vo st2 w2:=by
 obtain ⟨D',vr',vo',hg,hk2,hd2⟩:=h2
 have hs:=hk.size
 refine ⟨D',vr',vo',hg,hk.trans hk2 (fun b hb g=>?_),fun b hb=>?_,fun b hy g=>?_⟩
 · rcases hd b g with x | x
   · exact x
   · omega
 · rcases hd2 b hb with x | x
   · exact hd b x
   · exact .inr (by omega)
 · rcases hd2 b g with x | x
   · exact hn b hy x
   · have:=hys b hy;omega
theorem Left.keep {w2 : World} {st2 : St σ} {b : Nat} {ob : Obj} (h2 : Left Hd lo mb gb w D vr vo st2 w2) (hb : w.heap[b]? = some ob) (hn : ¬ grpD gb D vr vo b) : w2.heap[b]? = some ob:=by
 obtain ⟨_,_,_,_,hk2,_⟩:=h2
 exact hk2.keep hb hn
theorem Grp.proc (h : Grp Hd lo mb gb w D vr vo st) (k : Nat) (hk : k < st.ps.length) : ∃ pb cap,vr = .slice (some ⟨pb,0,none⟩) st.ps.length cap /\ pb < w.heap.size /\ (∀ j,j < 13 -> w.cell? ⟨pb,k * 13 + j,none⟩ = (cellPr (FM.prAt st.ps k))[j]?) /\ ∀ j,w.frozen? ⟨pb,j,none⟩ = false:=by
 obtain ⟨ao,cap,e,_,hg⟩:=row_form h.procs
 obtain ⟨pb,rfl,_,hlt⟩:=hg (by omega)
 have hr:=h.procs
 rw [e] at hr
 exact ⟨pb,cap,e,hlt,fun j hj=>row_at cellPr cellPr_len FM.pr0 hr k j hk hj,fun j=>row_free hr j⟩
end
end GW
namespace CW
open Go.RowKit
theorem ret_int {k : IntKind} {a b : Int} (h : a = b) : Value.int k a = .int k b:=by rw [h]
theorem rightSize_yes (n : Int) (w : World) (h1 : 1 <= n) (h2 : n <= 8) :
  Calls Tryz.prog 146 #[.int .i64 n] w fun e w'=>e = .returned (.bool true) /\ w = w':=by
 go_enter Tryz.func146,Tryz.ntmps146
 go_wp2
 go_ret
 exact ⟨rfl,rfl⟩
theorem rightSize_no (n : Int) (w : World) (h1 : n < 1 ∨ 8 < n) :
  Calls Tryz.prog 146 #[.int .i64 n] w fun e w'=>e = .returned (.bool false) /\ w = w':=by
 rcases h1 with h | h
 · go_enter Tryz.func146,Tryz.ntmps146
   go_wp2
   go_ret
   exact ⟨rfl,rfl⟩
 · have h' : 1 <= n:=by omega
   have h'' : decide (n <= 8) = false:=by simp;omega
   go_enter Tryz.func146,Tryz.ntmps146
   go_wp2
   go_ret
   exact ⟨rfl,rfl⟩
theorem get_no (s : ByteArray) (w : World) (hs : s.size <= maxLen) (h1 : (s.size : Int) < 1 ∨ 8 < (s.size : Int)) :
  Calls Tryz.prog 126 #[.string s] w fun e w'=>e = .returned (.tuple #[.int .i64 0,.int .i64 3]) /\ w = w':=by
 unfold maxLen at hs
 go_enter Tryz.func126,Tryz.ntmps126
 go_wp2_with (go_at_call 146;refine (rightSize_no _ _ h1).mono ?_;rintro e w' ⟨rfl,rfl⟩)
 go_ret2
 exact ⟨rfl,rfl⟩
set_option maxHeartbeats 400000 in
theorem get_yes (s : ByteArray) (w : World) (h1 : 1 <= s.size) (h2 : s.size <= 8) :
  Calls Tryz.prog 126 #[.string s] w fun e w'=>e = .returned (.tuple #[.int .i64 (wrap64 (Lib.leNat s.data.toList)),.int .i64 0]) /\ w = w':=by
 go_enter Tryz.func126,Tryz.ntmps126
 go_wp2_with (go_at_call 146;refine (rightSize_yes _ _ (by omega) (by omega)).mono ?_;rintro e w' ⟨rfl,rfl⟩)
 go_loop [4,5] (fun n i=>∃ k : Nat,k <= s.size /\ i = .int .i64 ((k : Int) - 1) /\ n = .int .u64 (Lib.leNat (s.data.toList.drop k))) (fun _ i=>(intOf i + 1).toNat)
 case atStart=>exact ⟨s.size,Nat.le_refl _,rfl,by rw [List.drop_of_length_le (by rw [<- Lib.size_eq];exact Nat.le_refl _)];rfl⟩
 case round =>
  obtain ⟨k,hk,rfl,rfl⟩:=hrel
  by_cases hlt : 0 < k
  · go_wp2
    go_round
    case rel =>
     refine ⟨k - 1,by omega,ret_int (by omega),ret_int ?_⟩
     have hb : s[k - 1].toNat < 256:=s[k - 1].toNat_lt
     rw [CM.leNat_step s k hlt hk,CM.or_u64 _ _ (by omega) (by have:=CM.leNat_lt7 (s.data.toList.drop k) (by rw [List.length_drop,<- Lib.size_eq];omega);omega) (by omega) (by omega)]
    case measure=>simp [intOf];omega
  · obtain rfl : k = 0:=by omega
    go_wp2
    go_ret2
    exact ⟨rfl,rfl⟩
set_option maxHeartbeats 400000 in
theorem bytes_any (n : Int) (size : Nat) (w : World) (h2 : size <= 8) :
  Calls Tryz.prog 55 #[.int .i64 n,.int .i64 size] w fun e w'=>e = .returned (.string ⟨(Lib.leBytes size (CM.low n)).toArray⟩) /\ Below w.heap.size w w':=by
 go_enter Tryz.func55,Tryz.ntmps55
 go_wp2
 go_loopw [0,5,6] (fun t s i wr=>∃ k : Nat,k <= size /\ i = .int .i64 k /\ t = .int .i64 (CM.shr n k) /\ s = .string ⟨(Lib.leBytes k (CM.low n)).toArray⟩ /\ Below w.heap.size w wr) (fun _ _ i _=>size - (intOf i).toNat)
 case atStart=>exact ⟨0,by omega,rfl,by rw [CM.shr_zero],rfl,Below.refl _ _⟩
 case round =>
  obtain ⟨k,hk,rfl,rfl,rfl,hb⟩:=hrel
  by_cases hlt : k < size
  · have hcv : (convert 158 9 (.slice (some ⟨wr.heap.size,0,none⟩) 1 1)).run Tryz.prog (wr.alloc (.cells #[.int .u8 (CM.shr n k % 256)] 5)) = .ok (.string ⟨#[(CM.low n / 256 ^ k % 256).toUInt8]⟩) (wr.alloc (.cells #[.int .u8 (CM.shr n k % 256)] 5)):=by
     rw [<- CM.strOfNums_byte n k (by omega)]
     refine run_convert_bytes_arg _ 158 5 Tryz.underlying158 Tryz.underlying5 _ 0 1 1 [CM.shr n k % 256] rfl ?_ 9 Tryz.underlying9
     intro i hi
     obtain rfl : i = 0:=by omega
     simp
    have hl : (Lib.leBytes k (CM.low n)).length = k:=Lib.leBytes_length _ _
    have HN : Hid (Lib.leBytes (k + 1) (CM.low n) = Lib.leBytes k (CM.low n) ++ [(CM.low n / 256 ^ k % 256).toUInt8]):=CM.leBytes_snoc _ _
    go_wp2
    go_roundw
    case rel=>exact ⟨k + 1,by omega,by go_num,by rw [<- CM.shr_succ],by rw [HN.out];exact congrArg Value.string (CM.mk_append _ [_]),hb.alloc (by have:=hb.size;omega) _⟩
    case measure=>simp [intOf];omega
  · obtain rfl : k = size:=by omega
    go_wp2
    go_ret
    exact ⟨rfl,hb⟩
theorem info5 : (Tryz.prog.info? 5).map (fun i=>(i.zero,i.size,i.bytes)) = some (some (.int .u8 0),1,1):=by kernel_rfl
set_option maxHeartbeats 400000 in
theorem put_yes (n : Int) (size : Nat) (w : World) (h1 : 1 <= size) (h2 : size <= 8) :
  Calls Tryz.prog 127 #[.int .i64 n,.int .i64 size] w fun e w'=>e = .returned (.tuple #[.string ⟨(Lib.leBytes size (CM.low n)).toArray⟩,.int .i64 0]) /\ Below w.heap.size w w':=by
 obtain ⟨i0,hi,hz0,hz1,hz2⟩:=info_parts info5
 obtain ⟨w1,hmk,hown1,hgr1⟩:=run_make_full (P:=Tryz.prog) w w.heap.size 158 5 i0 (.int .u8 0) 1 Tryz.underlying158 hi hz0 hz1 .i64 .i64 size (by rw [hz2];omega) (by unfold maxLen;omega) (Nat.le_refl _)
 have hb1 : Below w.heap.size w w1:=(Below.refl _ _).grown hgr1 (Nat.le_refl _) (by intro k h;cases h)
 rw [Nat.mul_one,show (Value.int .u8 0).cells = #[Value.int .u8 0] from rfl,toList_madeCells_one,<- CM.row_zero size (CM.low n)] at hown1
 go_enter Tryz.func127,Tryz.ntmps127
 go_wp2_with (go_at_call 146;refine (rightSize_yes _ _ (by omega) (by omega)).mono ?_;rintro e w' ⟨rfl,rfl⟩)
 go_loopw [6,18] (fun r i wr=>∃ k : Nat,k <= size /\ i = .int .i64 k /\ r = .int .u64 ((CM.low n / 256 ^ k : Nat) : Int) /\ wr.ownsRow w.heap.size 5 1 (.slice (some ⟨w.heap.size,0,none⟩) size size) size (CM.row size k (CM.low n)) /\ Below w.heap.size w wr) (fun _ i _=>size - (intOf i).toNat)
 case atStart=>exact ⟨0,by omega,rfl,by rw [CM.u64_low];simp,hown1,hb1⟩
 case round =>
  obtain ⟨k,hk,rfl,rfl,hown,hb⟩:=hrel
  by_cases hlt : k < size
  · have hc : wr.cell? ⟨w.heap.size,k,none⟩ = some (.int .u8 0):=(hown.cellAt k (by omega)).trans (CM.row_get _ _ _ hlt)
    have hf : wr.frozen? ⟨w.heap.size,k,none⟩ = false:=hown.frozenAt k
    have HS : Hid ((wr.setCell ⟨w.heap.size,k,none⟩ (.int .u8 (((CM.low n / 256 ^ k : Nat) : Int) % 256))).ownsRow w.heap.size 5 1 (.slice (some ⟨w.heap.size,0,none⟩) size size) size (CM.row size (k + 1) (CM.low n)) /\ Below w.heap.size w (wr.setCell ⟨w.heap.size,k,none⟩ (.int .u8 (((CM.low n / 256 ^ k : Nat) : Int) % 256)))):=by
     have h:=hown.stored k (.int .u8 (((CM.low n / 256 ^ k : Nat) : Int) % 256))
     rw [CM.row_set _ _ _ hlt] at h
     exact ⟨h.1,hb.setCell (Nat.le_refl _) _⟩
    go_wp2
    go_roundw
    case rel=>exact ⟨k + 1,by omega,by go_num,ret_int (CM.low_shr n k),HS.out.1,HS.out.2⟩
    case measure=>simp [intOf];omega
  · obtain rfl : k = size:=by omega
    have hcv : (convert 158 9 (.slice (some ⟨w.heap.size,0,none⟩) k k)).run Tryz.prog wr = .ok (.string ⟨(Lib.leBytes k (CM.low n)).toArray⟩) wr:=by
     rw [<- CM.strOfNums_bytes]
     refine run_convert_bytes_arg _ 158 5 Tryz.underlying158 Tryz.underlying5 _ 0 k k _ (by simp [Lib.leBytes_length]) ?_ 9 Tryz.underlying9
     intro i hi
     rw [Nat.zero_add,hown.cellAt i (by omega),CM.row_full]
     exact CM.byteCells_get _ i (by rw [Lib.leBytes_length];exact hi)
    go_wp2
    go_ret2
    exact ⟨rfl,hb⟩
end CW
end Go.Proofs.YtkdigjpejnebkaaGreat
