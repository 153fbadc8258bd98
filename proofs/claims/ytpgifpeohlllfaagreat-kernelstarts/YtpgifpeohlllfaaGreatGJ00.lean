import Derived.WalkKit
import Derived.Below
import Derived.Deep.AppendLies
import Derived.Deep.Upon
import Derived.Laws.OwnMore
import Derived.Test.YtpgifpeohlllfaaGreatProg
import Derived.WalkLawsBesides
import Derived.WalkSpells
import Derived.Deep.QuietTactic
import Derived.BigQuiet
set_option maxHeartbeats 20000000
set_option linter.unusedVariables false
set_option maxRecDepth 100000
set_option linter.unusedSimpArgs false
namespace Go.Proofs.YtpgifpeohlllfaaGreat
namespace B
open Go.RowKit
theorem below {w w' : World} {b N : Nat} {o : Obj} (h : w.heap[b]? = some o) (hb : Below N w w') (hlt : b < N) : w'.heap[b]? = some o:=(hb.block b hlt).trans h
theorem isLt {w : World} {b : Nat} {o : Obj} (h : w.heap[b]? = some o) : b < w.heap.size:=(Array.getElem?_eq_some_iff.1 h).1
theorem alloc {w : World} {b : Nat} {o : Obj} (h : w.heap[b]? = some o) (o' : Obj) : (w.alloc o').heap[b]? = some o:=(Below.heap_alloc w o' b (isLt h)).trans h
theorem cell {w : World} {b : Nat} {C : Array Value} {t : TypeId} {fr : Nat × Nat} (h : w.heap[b]? = some (.cells C t fr)) (j : Nat) {v : Value} (hj : C[j]? = some v) : w.cell? ⟨b,j,none⟩ = some v:=(cell_of_row w b j C t fr h).trans hj
theorem free {w : World} {b : Nat} {C : Array Value} {t : TypeId} (h : w.heap[b]? = some (.cells C t (0,0))) (j : Nat) : w.frozen? ⟨b,j,none⟩ = false:=frozen_of_row w b j C t h
theorem other {w : World} {b : Nat} {o : Obj} (h : w.heap[b]? = some o) (g j : Nat) (v : Value) (hne : b ≠ g) : (w.setCell ⟨g,j,none⟩ v).heap[b]? = some o:=(heap_setCell_other w ⟨g,j,none⟩ b v hne).trans h
theorem set {w : World} {b : Nat} {C : Array Value} {t : TypeId} (h : w.heap[b]? = some (.cells C t (0,0))) (j : Nat) (v : Value) : (w.setCell ⟨b,j,none⟩ v).heap[b]? = some (.cells (C.setIfInBounds j v) t (0,0)):=heap_setCell_same w b j C t v h
theorem new (w : World) (C : Array Value) (t : TypeId) : (w.alloc (.cells C t)).heap[w.heap.size]? = some (.cells C t (0,0)):=heap_alloc_new w _
theorem news {w : World} {b : Nat} {C : Array Value} {t : TypeId} {fr : Nat × Nat} (h : w.heap[b]? = some (.cells C t fr)) : ∀ j u,C.toList[j]? = some u -> w.cell? ((⟨b,0,none⟩ : Addr).add j) = some u:=fun j u hj=>by
 rw [Addr.add_lit,Nat.zero_add]
 exact cell h j (by simpa using hj)
theorem grown {w w' : World} {b : Nat} {o : Obj} {row : Option Nat} (h : w.heap[b]? = some o) (hg : w.grownBy w' row) (hne : some b ≠ row) : w'.heap[b]? = some o:=(hg.block b (isLt h) hne).trans h
theorem c2 {w : World} {b : Nat} {a0 a1 : Value} {t : TypeId} (h : w.heap[b]? = some (.cells #[a0,a1] t (0,0))) : w.cell? ⟨b,0,none⟩ = some a0 /\ w.cell? ⟨b,1,none⟩ = some a1:=⟨cell h 0 rfl,cell h 1 rfl⟩
theorem c3 {w : World} {b : Nat} {a0 a1 a2 : Value} {t : TypeId} (h : w.heap[b]? = some (.cells #[a0,a1,a2] t (0,0))) : w.cell? ⟨b,0,none⟩ = some a0 /\ w.cell? ⟨b,1,none⟩ = some a1 /\ w.cell? ⟨b,2,none⟩ = some a2:=⟨cell h 0 rfl,cell h 1 rfl,cell h 2 rfl⟩
theorem c4 {w : World} {b : Nat} {a0 a1 a2 a3 : Value} {t : TypeId} (h : w.heap[b]? = some (.cells #[a0,a1,a2,a3] t (0,0))) : w.cell? ⟨b,0,none⟩ = some a0 /\ w.cell? ⟨b,1,none⟩ = some a1 /\ w.cell? ⟨b,2,none⟩ = some a2 /\ w.cell? ⟨b,3,none⟩ = some a3:=⟨cell h 0 rfl,cell h 1 rfl,cell h 2 rfl,cell h 3 rfl⟩
theorem c5 {w : World} {b : Nat} {a0 a1 a2 a3 a4 : Value} {t : TypeId} (h : w.heap[b]? = some (.cells #[a0,a1,a2,a3,a4] t (0,0))) : w.cell? ⟨b,0,none⟩ = some a0 /\ w.cell? ⟨b,1,none⟩ = some a1 /\ w.cell? ⟨b,2,none⟩ = some a2 /\ w.cell? ⟨b,3,none⟩ = some a3 /\ w.cell? ⟨b,4,none⟩ = some a4:=⟨cell h 0 rfl,cell h 1 rfl,cell h 2 rfl,cell h 3 rfl,cell h 4 rfl⟩
end B
namespace GK
open Go.RowKit
structure Kp (D : Nat -> Prop) (w w' : World) : Prop where
 os : w'.os = w.os
 tape : w'.tape = w.tape
 output : w'.output = w.output
 size : w.heap.size <= w'.heap.size
 block : ∀ b,b < w.heap.size -> ¬ D b -> w'.heap[b]? = w.heap[b]?
theorem Kp.refl (D : Nat -> Prop) (w : World) : Kp D w w:=⟨rfl,rfl,rfl,Nat.le_refl _,fun _ _ _=>rfl⟩
theorem Kp.trans {D D1 : Nat -> Prop} {w w1 w2 : World} (h : Kp D w w1) (g : Kp D1 w1 w2) (hd : ∀ b,b < w.heap.size -> D1 b -> D b) : Kp D w w2 :=
 ⟨g.os.trans h.os,g.tape.trans h.tape,g.output.trans h.output,Nat.le_trans h.size g.size,fun b hb hn=>(g.block b (Nat.lt_of_lt_of_le hb h.size) (fun k=>hn (hd b hb k))).trans (h.block b hb hn)⟩
theorem Kp.mono {D D1 : Nat -> Prop} {w w' : World} (h : Kp D w w') (hd : ∀ b,b < w.heap.size -> D b -> D1 b) : Kp D1 w w':=⟨h.os,h.tape,h.output,h.size,fun b hb hn=>h.block b hb (fun k=>hn (hd b hb k))⟩
theorem Kp.ofBelow {D : Nat -> Prop} {w w' : World} (h : Below w.heap.size w w') : Kp D w w':=⟨h.os,h.tape,h.output,h.size,fun b hb _=>h.block b hb⟩
theorem Kp.below {D : Nat -> Prop} {N : Nat} {w0 w w' : World} (h : Below N w0 w) (g : Kp D w w') (hN : N <= w.heap.size) (hd : ∀ b,D b -> N <= b) : Below N w0 w' :=
 h.trans ⟨g.os,g.tape,g.output,g.size,fun b hb=>g.block b (Nat.lt_of_lt_of_le hb hN) (fun k=>by have:=hd b k;omega)⟩
theorem Kp.alloc (D : Nat -> Prop) (w : World) (o : Obj) : Kp D w (w.alloc o):=Kp.ofBelow ((Below.refl _ _).alloc (Nat.le_refl _) o)
theorem Kp.drew (D : Nat -> Prop) (w : World) : Kp D w w.drew:=Kp.ofBelow (Below.refl _ _).drew
theorem Kp.set (D : Nat -> Prop) (w : World) (a : Addr) (v : Value) (h : D a.block) : Kp D w (w.setCell a v):=by
 have hb:=(Below.refl 0 w).setCell (p:=a) (Nat.zero_le _) v
 exact ⟨hb.os,hb.tape,hb.output,hb.size,fun b _ hn=>Below.heap_setCell w a v b (fun e=>hn (e ▸ h))⟩
theorem Kp.grown {D : Nat -> Prop} {w w' : World} {row : Option Nat} (h : w.grownBy w' row) (hd : ∀ k,row = some k -> D k) : Kp D w w' :=
 ⟨h.os,h.tape,h.output,h.size,fun b hb hn=>h.block b hb (fun e=>hn (hd b e.symm))⟩
theorem Kp.keep {D : Nat -> Prop} {w w' : World} {b : Nat} {o : Obj} (h : Kp D w w') (hb : w.heap[b]? = some o) (hn : ¬ D b) : w'.heap[b]? = some o:=(h.block b (B.isLt hb) hn).trans hb
theorem Kp.cell {D : Nat -> Prop} {w w' : World} {p : Addr} {v : Value} (h : Kp D w w') (hp : w.cell? p = some v) (hn : ¬ D p.block) : w'.cell? p = some v :=
 (World.cell?_of_block (h.block p.block (World.block_lt_of_cell? w p hp) hn)).trans hp
theorem Kp.row {D : Nat -> Prop} {w w' : World} {base : Nat} {e : TypeId} {size : Nat} {v : Value} {n : Nat} {xs : List Value} (h : Kp D w w') (hr : w.ownsRow base e size v n xs) (hn : ∀ g,v.ownBlock = some g -> ¬ D g) : w'.ownsRow base e size v n xs:=by
 refine ⟨hr.1,?_⟩
 rcases hr.2 with h0 | ⟨g,cap,cur,hv,hb,hg,h1,h2,h3,h4⟩
 · exact .inl h0
 · exact .inr ⟨g,cap,cur,hv,hb,h.keep hg (hn g (by rw [hv];rfl)),h1,h2,h3,h4⟩
theorem row_set {w : World} {base : Nat} {e : TypeId} {size : Nat} {g n cap : Nat} {xs : List Value} (hr : w.ownsRow base e size (.slice (some ⟨g,0,none⟩) n cap) n xs) (j : Nat) (u : Value) :
  (w.setCell ⟨g,j,none⟩ u).ownsRow base e size (.slice (some ⟨g,0,none⟩) n cap) n (xs.set j u):=by
 refine ⟨by rw [List.length_set];exact hr.1,?_⟩
 rcases hr.2 with ⟨h0,_⟩ | ⟨g',cap',cur,hv,hb,hg,h1,h2,h3,h4⟩
 · cases h0
 · injection hv with e1 e2 e3
   injection e1 with e1
   injection e1 with e1 _ _
   subst e1 e3
   refine .inr ⟨g,cap,cur.setIfInBounds j u,rfl,hb,B.set hg j u,h1,h2,by rw [Array.size_setIfInBounds];exact h3,?_⟩
   rw [Array.toList_setIfInBounds,<- h4]
   exact List.take_set.symm ▸ rfl
theorem row_free {w : World} {base : Nat} {e : TypeId} {size : Nat} {g n cap : Nat} {xs : List Value} (hr : w.ownsRow base e size (.slice (some ⟨g,0,none⟩) n cap) n xs) (j : Nat) : w.frozen? ⟨g,j,none⟩ = false:=by
 rcases hr.2 with ⟨h0,_⟩ | ⟨g',cap',cur,hv,hb,hg,h1,h2,h3,h4⟩
 · cases h0
 · injection hv with e1 e2 e3
   injection e1 with e1
   injection e1 with e1 _ _
   subst e1
   exact B.free hg j
theorem run_append_src {P : Program} (w : World) (t ty : TypeId) (base : Nat) (e : TypeId) (i : TypeInfo) (z : Value) (size bytes : Nat) (ht : P.underlying t = some (.slice e)) (hi : P.info? e = some i) (hz : i.zero = some z)
  (hsize : i.size = size) (hby : i.bytes = bytes) (hzs : z.cells.size = size) (hsz : 0 < size)
  (v : Value) (n : Nat) (xs : List Value) (hown : w.ownsRow base e size v n xs)
  (ao : Option Addr) (m c : Nat) (news : List Value) (hl : news.length = m * size) (hnews : 0 < m -> ∃ ad,ao = some ad /\ ∀ j u,news[j]? = some u -> w.cell? (ad.add j) = some u) (h1 : ∀ u ∈ news,u.oneCell' = true)
  (h63 : n + m <= maxLen) (hbytes : (n + m) * bytes <= 140737488355328) (hbase : base <= w.heap.size) :
  ∃ v' w',(Builtin.append_ #[t,t] ty #[v,.slice ao m c]).run P w = .ok v' w' /\
   w'.ownsRow base e size v' (n + m) (xs ++ news) /\ w.grownBy w' v.ownBlock /\ (v'.ownBlock = v.ownBlock ∨ v'.ownBlock = some w.heap.size):=by
 by_cases h0 : 0 < m
 · obtain ⟨ad,rfl,hc⟩:=hnews h0
   obtain ⟨g,cap,w',hr,h2,h3,h4,h5⟩:=run_append_lies (P:=P) w t ty base e i z size bytes ht hi hz hsize hby hzs hsz v n xs hown ad m c news hl hc h1 h0 h63 hbytes hbase _ rfl
   refine ⟨_,w',hr,h2,h3,?_⟩
   rcases h4 with h4 | h4
   · exact .inl h4.symm
   · exact .inr (by rw [h4];rfl)
 · obtain rfl : m = 0:=by omega
   have hn : news = []:=List.eq_nil_of_length_eq_zero (by omega)
   subst hn
   have hsrc : Src P i.size t (.slice ao 0 c) 0 [] w:=⟨.inl ⟨_,ht⟩,fun w'=>by simp [Builtin.lenOf],by cases ao <;> simp [Builtin.firstCells,loadCells,loadCellsFrom],by cases ao <;> simp [Builtin.firstCells,loadCells,loadCellsFrom],by simp,by simp⟩
   have hform : ∃ b cap,v = .slice b n cap /\ n <= cap:=by
    rcases hown.2 with ⟨h0,h1⟩ | ⟨g',cap',cur,hv,hb,hg,h1,h2,h3,h4⟩
    · exact ⟨none,0,by rw [h0,h1],by omega⟩
    · exact ⟨_,cap',hv,h1⟩
   obtain ⟨b,cap,rfl,hle⟩:=hform
   have hr:=run_append_nothing (P:=P) w t t ty e i ht hi b n cap hle (.slice ao 0 c) hsrc
   exact ⟨_,w,hr,by simpa using hown,World.grownBy.refl _ _,.inl rfl⟩
theorem wp_append_src {P : Program} {o : Oper} {a : Act} {w : World} {K : Act -> World -> Prop} {Q : Exit -> Act -> World -> Prop} (s x : Operand) (t : TypeId)
  (ho : o.op = .call { callee:=.builtin .append,args:=#[s,x],argTypes:=#[t,t] })
  (base : Nat) (e : TypeId) (i : TypeInfo) (z : Value) (size bytes : Nat) (ht : P.underlying t = some (.slice e)) (hi : P.info? e = some i) (hz : i.zero = some z)
  (hsize : i.size = size) (hby : i.bytes = bytes) (hzs : z.cells.size = size) (hsz : 0 < size)
  (v : Value) (n : Nat) (xs : List Value) (hs : a.eval s = v) (hown : w.ownsRow base e size v n xs)
  (ao : Option Addr) (m c : Nat) (news : List Value) (hx : a.eval x = .slice ao m c) (hl : news.length = m * size) (hnews : 0 < m -> ∃ ad,ao = some ad /\ ∀ j u,news[j]? = some u -> w.cell? (ad.add j) = some u) (h1 : ∀ u ∈ news,u.oneCell' = true)
  (h63 : n + m <= maxLen) (hbytes : (n + m) * bytes <= 140737488355328) (hbase : base <= w.heap.size)
  (h : ∀ v' w',w'.ownsRow base e size v' (n + m) (xs ++ news) -> w.grownBy w' v.ownBlock -> (v'.ownBlock = v.ownBlock ∨ v'.ownBlock = some w.heap.size) -> K (a.put o.dst v') w') : o.wp P a w K Q:=by
 obtain ⟨v',w',hr,h2,h3,h4⟩:=run_append_src (P:=P) w t o.type base e i z size bytes ht hi hz hsize hby hzs hsz v n xs hown ao m c news hl hnews h1 h63 hbytes hbase
 unfold Oper.wp execOp
 simp only [ho,resolve,invoke,builtin,Sem.run_bind,Sem.run_pure,Result.andThen_ok,List.map_toArray,List.map_cons,List.map_nil,hs,hx,hr]
 exact h v' w' h2 h3 h4
theorem wpList_append_src {P : Program} {ops : Array Oper} {rest : List Oper} {o : Oper} {a : Act} {w : World} {Q : Exit -> Act -> World -> Prop} (hgd : o.guard = none) (s x : Operand) (t : TypeId)
  (ho : o.op = .call { callee:=.builtin .append,args:=#[s,x],argTypes:=#[t,t] })
  (base : Nat) (e : TypeId) (i : TypeInfo) (z : Value) (size bytes : Nat) (ht : P.underlying t = some (.slice e)) (hi : P.info? e = some i) (hz : i.zero = some z)
  (hsize : i.size = size) (hby : i.bytes = bytes) (hzs : z.cells.size = size) (hsz : 0 < size)
  (v : Value) (n : Nat) (xs : List Value) (hs : a.eval s = v) (hown : w.ownsRow base e size v n xs)
  (ao : Option Addr) (m c : Nat) (news : List Value) (hx : a.eval x = .slice ao m c) (hl : news.length = m * size) (hnews : 0 < m -> ∃ ad,ao = some ad /\ ∀ j u,news[j]? = some u -> w.cell? (ad.add j) = some u) (h1 : ∀ u ∈ news,u.oneCell' = true)
  (h63 : n + m <= maxLen) (hbytes : (n + m) * bytes <= 140737488355328) (hbase : base <= w.heap.size)
  (h : ∀ v' w',w'.ownsRow base e size v' (n + m) (xs ++ news) -> w.grownBy w' v.ownBlock -> (v'.ownBlock = v.ownBlock ∨ v'.ownBlock = some w.heap.size) -> wpList P ops Q rest (a.put o.dst v') w') : wpList P ops Q (o :: rest) a w :=
 wpList_plain hgd fun _ hK=>wp_append_src s x t ho base e i z size bytes ht hi hz hsize hby hzs hsz v n xs hs hown ao m c news hx hl hnews h1 h63 hbytes hbase fun v' w' h2 h3 h4=>hK _ _ (h v' w' h2 h3 h4)
theorem rows_length {α : Type} (f : α -> List Value) (k : Nat) (hf : ∀ x,(f x).length = k) : ∀ l : List α,(l.flatMap f).length = l.length * k
 | []=>by simp
 | a :: r=>by rw [List.flatMap_cons,List.length_append,hf,rows_length f k hf r,List.length_cons,Nat.succ_mul,Nat.add_comm]
theorem rows_get {α : Type} (f : α -> List Value) (k : Nat) (hf : ∀ x,(f x).length = k) (d : α) : ∀ (l : List α) (i j : Nat),i < l.length -> j < k -> (l.flatMap f)[i * k + j]? = (f (l.getD i d))[j]?
 | [],i,j,hi,hj=>by simp at hi
 | a :: r,0,j,hi,hj=>by
  rw [List.flatMap_cons,Nat.zero_mul,Nat.zero_add,List.getElem?_append_left (by rw [hf];exact hj)]
  rfl
 | a :: r,i + 1,j,hi,hj=>by
  rw [List.flatMap_cons,List.getElem?_append_right (by rw [hf,Nat.succ_mul];omega),hf,show (i + 1) * k + j - k = i * k + j by rw [Nat.succ_mul];omega]
  exact rows_get f k hf d r i j (by simpa using hi) hj
theorem rows_set {α : Type} (f : α -> List Value) (k : Nat) (hf : ∀ x,(f x).length = k) (d : α) (x : α) (j : Nat) (v : Value) (hj : j < k) : ∀ (l : List α) (i : Nat),i < l.length -> f x = (f (l.getD i d)).set j v -> (l.set i x).flatMap f = (l.flatMap f).set (i * k + j) v
 | [],i,hi,_=>by simp at hi
 | a :: r,0,hi,e=>by
  have e' : f x = (f a).set j v:=e
  rw [List.set_cons_zero,List.flatMap_cons,List.flatMap_cons,Nat.zero_mul,Nat.zero_add,List.set_append_left _ _ (by rw [hf];exact hj),e']
 | a :: r,i + 1,hi,e=>by
  rw [List.set_cons_succ,List.flatMap_cons,List.flatMap_cons,List.set_append_right _ _ (by rw [hf,Nat.succ_mul];omega),hf,show (i + 1) * k + j - k = i * k + j by rw [Nat.succ_mul];omega,rows_set f k hf d x j v hj r i (by simpa using hi) e]
theorem row_at {α : Type} {w : World} {base : Nat} {e : TypeId} {k g cap : Nat} (f : α -> List Value) (hf : ∀ x,(f x).length = k) (d : α) {l : List α} (hr : w.ownsRow base e k (.slice (some ⟨g,0,none⟩) l.length cap) l.length (l.flatMap f)) (i j : Nat) (hi : i < l.length) (hj : j < k) : w.cell? ⟨g,i * k + j,none⟩ = (f (l.getD i d))[j]?:=by
 have : i * k + j < l.length * k:=by
  have:=Nat.mul_le_mul_right k (show i + 1 <= l.length from hi)
  rw [Nat.succ_mul] at this
  omega
 exact (hr.cellAt _ this).trans (rows_get f k hf d l i j hi hj)
theorem row_form {w : World} {base : Nat} {e : TypeId} {size : Nat} {v : Value} {n : Nat} {xs : List Value} (h : w.ownsRow base e size v n xs) : ∃ ao cap,v = .slice ao n cap /\ n <= cap /\ (0 < n -> ∃ g,ao = some ⟨g,0,none⟩ /\ base <= g /\ g < w.heap.size):=by
 rcases h.2 with ⟨h0,h1⟩ | ⟨g',cap',cur,hv,hb,hg,h1,h2,h3,h4⟩
 · exact ⟨none,0,by rw [h0,h1],by omega,fun h=>by omega⟩
 · exact ⟨_,cap',hv,h1,fun _=>⟨g',rfl,hb,B.isLt hg⟩⟩
theorem row_base {w : World} {base base' : Nat} {e : TypeId} {size : Nat} {v : Value} {n : Nat} {xs : List Value} (h : w.ownsRow base e size v n xs) (hb : ∀ g,v.ownBlock = some g -> base' <= g) : w.ownsRow base' e size v n xs:=by
 refine ⟨h.1,?_⟩
 rcases h.2 with h0 | ⟨g,cap,cur,hv,_,hg,h1,h2,h3,h4⟩
 · exact .inl h0
 · exact .inr ⟨g,cap,cur,hv,hb g (by rw [hv];rfl),hg,h1,h2,h3,h4⟩
theorem cell_other (w : World) (g j b o : Nat) (v : Value) (h : b ≠ g) : (w.setCell ⟨g,j,none⟩ v).cell? ⟨b,o,none⟩ = w.cell? ⟨b,o,none⟩:=World.cell?_of_block (Below.heap_setCell w ⟨g,j,none⟩ v b h)
theorem kp_set3 {D : Nat -> Prop} (w : World) (g : Nat) (j0 j1 j2 : Nat) (v0 v1 v2 : Value) (h : D g) : Kp D w (((w.setCell ⟨g,j0,none⟩ v0).setCell ⟨g,j1,none⟩ v1).setCell ⟨g,j2,none⟩ v2) :=
 ((Kp.set D w ⟨g,j0,none⟩ v0 h).trans (Kp.set D _ ⟨g,j1,none⟩ v1 h) (fun _ _ k=>k)).trans (Kp.set D _ ⟨g,j2,none⟩ v2 h) (fun _ _ k=>k)
end GK
namespace AM
open Go.RowKit
structure Ar where
 page : Int
 pages : Int
 prot : Int
 zero : Bool
def Ar.last0 (a : Ar) : Int:=a.page + a.pages
def nil : Ar:=⟨0,0,0,false⟩
def at_ (l : List Ar) (i : Nat) : Ar:=l.getD i nil
def pagesB (p n : Int) : Bool:=decide (1 <= p /\ 1 <= n /\ n <= 256 - p)
def protB (p : Int) : Bool:=decide (0 <= p /\ p <= 3)
def followB (a b : Ar) : Bool:=if b.page = a.last0 then (b.prot != a.prot || b.zero != a.zero) else decide (a.last0 < b.page)
def Lie (w : World) (b off : Nat) (l : List Ar) : Prop:=∀ i,i < l.length ->
 w.cell? ⟨b,off + i * 4,none⟩ = some (.int .i64 (at_ l i).page) /\ w.cell? ⟨b,off + i * 4 + 1,none⟩ = some (.int .i64 (at_ l i).pages) /\
 w.cell? ⟨b,off + i * 4 + 2,none⟩ = some (.int .i64 (at_ l i).prot) /\ w.cell? ⟨b,off + i * 4 + 3,none⟩ = some (.bool (at_ l i).zero)
def Fits (a : Ar) : Prop:=(-9223372036854775808 <= a.page /\ a.page <= 9223372036854775807) /\ (-9223372036854775808 <= a.pages /\ a.pages <= 9223372036854775807) /\ (-9223372036854775808 <= a.prot /\ a.prot <= 9223372036854775807)
def okAt (l : List Ar) (i : Nat) : Bool:=pagesB (at_ l i).page (at_ l i).pages && protB (at_ l i).prot && (i == 0 || followB (at_ l (i - 1)) (at_ l i))
def goodTo (l : List Ar) : Nat -> Bool
 | 0=>true
 | k + 1=>goodTo l k && okAt l k
def good (l : List Ar) : Bool:=goodTo l l.length
def checkN (l : List Ar) : Int:=if 255 < l.length then 2 else if good l then 0 else 1
theorem goodTo_false (l : List Ar) : ∀ (k n : Nat),k <= n -> goodTo l k = false -> goodTo l n = false
 | k, 0, h, hk => by obtain rfl : k = 0 := by omega
                     exact hk
 | k,n + 1,h,hk=>by
  by_cases e : k = n + 1
  · subst e;exact hk
  · simp [goodTo,goodTo_false l k n (by omega) hk]
theorem goodTo_ok (l : List Ar) : ∀ (n : Nat),goodTo l n = true -> ∀ i,i < n -> okAt l i = true
 | 0,_,i,hi=>by omega
 | n + 1,h,i,hi=>by
  simp only [goodTo,Bool.and_eq_true] at h
  by_cases e : i = n
  · subst e;exact h.2
  · exact goodTo_ok l n h.1 i (by omega)
theorem Lie.lt {w : World} {b off : Nat} {l : List Ar} (h : Lie w b off l) (i : Nat) (hi : i < l.length) : b < w.heap.size :=
 World.block_lt_of_cell? w _ (h i hi).1
theorem Lie.below {w w' : World} {b off : Nat} {l : List Ar} (h : Lie w b off l) (hb : Below w.heap.size w w') : Lie w' b off l:=fun i hi=>by
 have hlt:=h.lt i hi
 obtain ⟨h0,h1,h2,h3⟩:=h i hi
 exact ⟨(hb.cell (p:=⟨b,_,none⟩) hlt).trans h0,(hb.cell (p:=⟨b,_,none⟩) hlt).trans h1,(hb.cell (p:=⟨b,_,none⟩) hlt).trans h2,(hb.cell (p:=⟨b,_,none⟩) hlt).trans h3⟩
theorem bad_at (l : List Ar) (k : Nat) (hk : k < l.length) (h : okAt l k = false) : good l = false :=
 goodTo_false l (k + 1) l.length (by omega) (by simp [goodTo,h])
theorem ok_step (l : List Ar) (k : Nat) (h : goodTo l k = true) (h' : okAt l k = true) : goodTo l (k + 1) = true:=by simp [goodTo,h,h']
def hit (a : Ar) (p : Int) : Bool:=decide (a.page <= p /\ p < a.last0)
def findFrom : List Ar -> Int -> Ar × Bool
 | [],_=>(nil,false)
 | a :: r,p=>if hit a p then (a,true) else findFrom r p
def findN (l : List Ar) (p : Int) : Ar × Bool:=if checkN l = 0 then findFrom l p else (nil,false)
def sumTo (l : List Ar) : Nat -> Int
 | 0=>0
 | k + 1=>sumTo l k + (at_ l k).pages
def totalN (l : List Ar) : Int:=if checkN l = 0 then sumTo l l.length else 0
theorem findFrom_none : ∀ (l : List Ar) (p : Int),(∀ i,i < l.length -> hit (at_ l i) p = false) -> findFrom l p = (nil,false)
 | [],_,_=>rfl
 | a :: r,p,h=>by
  have h0 : hit a p = false:=h 0 (by simp)
  have hr : ∀ i,i < r.length -> hit (at_ r i) p = false:=fun i hi=>h (i + 1) (by simpa using hi)
  simp [findFrom,h0,findFrom_none r p hr]
theorem findFrom_at : ∀ (l : List Ar) (p : Int) (k : Nat),k < l.length -> (∀ i,i < k -> hit (at_ l i) p = false) -> hit (at_ l k) p = true -> findFrom l p = (at_ l k,true)
 | [],_,k,hk,_,_=>by simp at hk
 | a :: r,p,0,hk,_,h1=>by
  have h0 : hit a p = true:=h1
  simp [findFrom,h0,at_]
 | a :: r,p,k + 1,hk,h,h1=>by
  have h0 : hit a p = false:=h 0 (by omega)
  have hr:=findFrom_at r p k (by simpa using hk) (fun i hi=>h (i + 1) (by omega)) h1
  simp [findFrom,h0,hr,at_]
theorem good_pages (l : List Ar) (h : checkN l = 0) (i : Nat) (hi : i < l.length) : okAt l i = true:=by
 unfold checkN at h
 split at h
 · simp at h
 · split at h
   · exact goodTo_ok l l.length (by assumption) i hi
   · simp at h
theorem good_len (l : List Ar) (h : checkN l = 0) : l.length <= 255:=by
 unfold checkN at h
 split at h
 · simp at h
 · omega
theorem okAt_pages (l : List Ar) (i : Nat) (h : okAt l i = true) : 1 <= (at_ l i).page /\ 1 <= (at_ l i).pages /\ (at_ l i).pages <= 256 - (at_ l i).page /\ 0 <= (at_ l i).prot /\ (at_ l i).prot <= 3:=by
 simp only [okAt,Bool.and_eq_true,pagesB,protB,decide_eq_true_eq] at h
 exact ⟨h.1.1.1,h.1.1.2.1,h.1.1.2.2,h.1.2.1,h.1.2.2⟩
theorem sumTo_bd (l : List Ar) (h : checkN l = 0) : ∀ k,k <= l.length -> 0 <= sumTo l k /\ sumTo l k <= 255 * k
 | 0,_=>by simp [sumTo]
 | k + 1,hk=>by
  have ih:=sumTo_bd l h k (by omega)
  have ho:=okAt_pages l k (good_pages l h k (by omega))
  simp only [sumTo]
  omega
end AM
namespace FM
open Go.RowKit
def noRight (prot way : Int) : Bool:=decide ((way = 1 /\ prot % 2 = 0) ∨ (way = 2 /\ prot < 2))
def byteN (l : List AM.Ar) (p way : Int) : Int × Int :=
 if p < 0 ∨ (AM.findN l (p / 16)).2 = false then (1,p) else if noRight (AM.findN l (p / 16)).1.prot way = true then (2,p) else (0,0)
def bytesN (l : List AM.Ar) (a way : Int) : Nat -> Int × Int
 | 0=>(0,0)
 | n + 1=>if (bytesN l a way n).1 = 0 then byteN l (a + n) way else bytesN l a way n
def faultN (l : List AM.Ar) (a size way : Int) : Int × Int:=if way = 2 /\ ¬ a % 8 = 0 then (3,a) else bytesN l a way size.toNat
theorem byte_zero {l : List AM.Ar} {p way : Int} (h : (byteN l p way).1 = 0) : byteN l p way = (0,0) /\ 0 <= p /\ (AM.findN l (p / 16)).2 = true /\ noRight (AM.findN l (p / 16)).1.prot way = false:=by
 unfold byteN at h ⊢
 by_cases c : p < 0 ∨ (AM.findN l (p / 16)).2 = false
 · rw [if_pos c] at h
   cases h
 · rw [if_neg c] at h ⊢
   cases d : noRight (AM.findN l (p / 16)).1.prot way with
   | true=>rw [d] at h;cases h
   | false =>
    refine ⟨rfl,by omega,?_,rfl⟩
    cases e : (AM.findN l (p / 16)).2 with
    | true=>rfl
    | false=>exact (c (.inr e)).elim
theorem byte_map {l : List AM.Ar} {p way : Int} (h : p < 0 ∨ (AM.findN l (p / 16)).2 = false) : byteN l p way = (1,p):=by unfold byteN;rw [if_pos h]
theorem byte_right {l : List AM.Ar} {p way : Int} (h : 0 <= p) (h2 : (AM.findN l (p / 16)).2 = true) (h3 : noRight (AM.findN l (p / 16)).1.prot way = true) : byteN l p way = (2,p):=by
 unfold byteN
 rw [if_neg (by rw [h2];intro g;rcases g with g | g;omega;cases g),if_pos h3]
theorem byte_ok {l : List AM.Ar} {p way : Int} (h : 0 <= p) (h2 : (AM.findN l (p / 16)).2 = true) (h3 : noRight (AM.findN l (p / 16)).1.prot way = false) : byteN l p way = (0,0):=by
 unfold byteN
 rw [if_neg (by rw [h2];intro g;rcases g with g | g;omega;cases g),h3]
 rfl
theorem bytes_fell {l : List AM.Ar} {a way : Int} {k : Nat} {f : Int × Int} (h : bytesN l a way k = f) (hf : ¬ f.1 = 0) : ∀ n,k <= n -> bytesN l a way n = f
 | 0, hn => by obtain rfl : k = 0 := by omega
               exact h
 | n + 1,hn=>by
  by_cases e : k = n + 1
  · subst e;exact h
  · have ih:=bytes_fell h hf n (by omega)
    rw [bytesN,ih,if_neg hf]
theorem bytes_step {l : List AM.Ar} {a way : Int} {k : Nat} (h : bytesN l a way k = (0,0)) : bytesN l a way (k + 1) = byteN l (a + k) way:=by
 rw [bytesN,h]
 rfl
theorem from_mem : ∀ (l : List AM.Ar) (q : Int),(AM.findFrom l q).2 = true -> ∃ k,k < l.length /\ AM.hit (AM.at_ l k) q = true /\ (AM.findFrom l q).1 = AM.at_ l k
 | [],q,h=>by cases h
 | a :: r,q,h=>by
  unfold AM.findFrom at h ⊢
  by_cases c : AM.hit a q = true
  · rw [if_pos c]
    exact ⟨0,by simp,c,rfl⟩
  · rw [if_neg c] at h ⊢
    obtain ⟨k,h1,h2,h3⟩:=from_mem r q h
    exact ⟨k + 1,by simp;omega,h2,h3⟩
theorem found_page {l : List AM.Ar} {q : Int} (hc : AM.checkN l = 0) (h : (AM.findN l q).2 = true) : 1 <= q /\ q < 256 /\ 0 <= (AM.findN l q).1.prot /\ (AM.findN l q).1.prot <= 3:=by
 have e : AM.findN l q = AM.findFrom l q:=by unfold AM.findN;rw [if_pos hc]
 rw [e] at h ⊢
 obtain ⟨k,h1,h2,h4⟩:=from_mem l q h
 have h5:=AM.okAt_pages l _ (AM.good_pages l hc _ h1)
 have h6 : (AM.at_ l k).page <= q /\ q < (AM.at_ l k).page + (AM.at_ l k).pages:=of_decide_eq_true h2
 rw [h4]
 omega
theorem found_check {l : List AM.Ar} {q : Int} (h : (AM.findN l q).2 = true) : AM.checkN l = 0:=by
 by_cases c : AM.checkN l = 0
 · exact c
 · unfold AM.findN at h
   rw [if_neg c] at h
   cases h
theorem bytes_small {l : List AM.Ar} {a way : Int} : ∀ {k : Nat},bytesN l a way (k + 1) = (0,0) -> 16 <= a /\ a + k < 4096
 | 0,h=>by
  rw [bytes_step rfl] at h
  obtain ⟨_,h1,h2,_⟩:=byte_zero (by rw [h])
  have:=found_page (found_check h2) h2
  omega
 | k + 1,h=>by
  have h0 : bytesN l a way (k + 1) = (0,0):=by
   by_cases c : (bytesN l a way (k + 1)).1 = 0
   · rw [bytesN] at c ⊢
     split at c
     · rename_i d
       rw [if_pos d]
       exact (byte_zero c).1
     · rename_i d
       exact (d c).elim
   · rw [bytes_fell (k:=k + 1) rfl c (k + 2) (by omega)] at h
     rw [h] at c
     exact (c rfl).elim
  have ih:=bytes_small h0
  rw [bytes_step h0] at h
  obtain ⟨_,h1,h2,_⟩:=byte_zero (by rw [h])
  have:=found_page (found_check h2) h2
  omega
end FM
namespace AW
open Go.RowKit
set_option maxHeartbeats 400000 in
theorem end_any (p n t : Int) (z : Bool) (w : World) (h1 : -9223372036854775808 <= p + n) (h2 : p + n <= 9223372036854775807) :
  Calls Tryz.prog 117 #[.agg #[.int .i64 p,.int .i64 n,.int .i64 t,.bool z]] w fun e w'=>e = .returned (.int .i64 (p + n)) /\ Below w.heap.size w w':=by
 go_enter Tryz.func117,Tryz.ntmps117
 go_wp2
 go_ret
 exact ⟨rfl,(Below.refl _ _).alloc (Nat.le_refl _) _⟩
theorem rightPages_any (p n : Int) (w : World) (hp : -9223372036854775808 <= p /\ p <= 9223372036854775807) (hn : -9223372036854775808 <= n /\ n <= 9223372036854775807) :
  Calls Tryz.prog 143 #[.int .i64 p,.int .i64 n] w fun e w'=>e = .returned (.bool (AM.pagesB p n)) /\ w = w':=by
 by_cases h1 : 1 <= p
 · by_cases h2 : 1 <= n
   · by_cases h3 : n <= 256 - p
     · have e : AM.pagesB p n = true:=by simp [AM.pagesB,h1,h2,h3]
       have h4 : n <= 255 - p + 1:=by omega
       rw [e]
       go_enter Tryz.func143,Tryz.ntmps143
       go_wp2
       go_ret
       exact ⟨rfl,rfl⟩
     · have e : AM.pagesB p n = false:=by simp [AM.pagesB];omega
       have h4 : decide (n <= 255 - p + 1) = false:=by simp;omega
       rw [e]
       go_enter Tryz.func143,Tryz.ntmps143
       go_wp2
       go_ret
       exact ⟨rfl,rfl⟩
   · have e : AM.pagesB p n = false:=by simp [AM.pagesB];omega
     have h4 : decide (1 <= n) = false:=by simp;omega
     rw [e]
     go_enter Tryz.func143,Tryz.ntmps143
     go_wp2
     go_ret
     exact ⟨rfl,rfl⟩
 · have e : AM.pagesB p n = false:=by simp [AM.pagesB];omega
   have h4 : decide (1 <= p) = false:=by simp;omega
   rw [e]
   go_enter Tryz.func143,Tryz.ntmps143
   go_wp2
   go_ret
   exact ⟨rfl,rfl⟩
theorem rightProt_any (p : Int) (w : World) :
  Calls Tryz.prog 144 #[.int .i64 p] w fun e w'=>e = .returned (.bool (AM.protB p)) /\ w = w':=by
 by_cases h1 : 0 <= p
 · by_cases h2 : p <= 3
   · have e : AM.protB p = true:=by simp [AM.protB,h1,h2]
     rw [e]
     go_enter Tryz.func144,Tryz.ntmps144
     go_wp2
     go_ret
     exact ⟨rfl,rfl⟩
   · have e : AM.protB p = false:=by simp [AM.protB];omega
     have h4 : decide (p <= 3) = false:=by simp;omega
     rw [e]
     go_enter Tryz.func144,Tryz.ntmps144
     go_wp2
     go_ret
     exact ⟨rfl,rfl⟩
 · have e : AM.protB p = false:=by simp [AM.protB];omega
   have h4 : decide (0 <= p) = false:=by simp;omega
   rw [e]
   go_enter Tryz.func144,Tryz.ntmps144
   go_wp2
   go_ret
   exact ⟨rfl,rfl⟩
end AW
namespace Q
open Go.RowKit
structure Kin (B : Nat) (w : World) where
 world : World
 keeps : Below B w world
theorem kin_some (w : World) : Nonempty (Kin w.heap.size w):=⟨⟨w,Below.refl _ _⟩⟩
theorem region_kin {P : Program} {id : Nat} {Q : Exit -> Act -> World -> Prop} {a : Act} {w : World} {l : List Oper} (hm : P.follows .mixedOrders = true) (hB : Region.lexB .any l.toArray = true)
  (h : wpQuiet P l.toArray (fun w'=>∃ x : Kin w.heap.size w,w' = x.world) (fun a'=>∀ w',(∃ x : Kin w.heap.size w,w' = x.world) -> Q .normal a' w') l a) : (Code.region id l.toArray true).wp P Q a w :=
 wp_region_quiet (C:=fun w'=>∃ x : Kin w.heap.size w,w' = x.world) hm hB ⟨⟨_,(Below.refl _ _).drew⟩,rfl⟩ (by simpa using h)
theorem calls_kin {P : Program} {f : FuncId} {args : Array Value} {v : Value} {w : World} (h : ∀ W,Calls P f args W fun e w'=>e = .returned v /\ Below W.heap.size W w') (x : Kin w.heap.size w) :
  Calls P f args x.world fun e w''=>e = .returned v /\ ∃ y : Kin w.heap.size w,w'' = y.world :=
 (h x.world).mono fun e w'' ⟨he,hb⟩=>⟨he,⟨w'',x.keeps.trans (hb.mono x.keeps.size)⟩,rfl⟩
theorem cell_kin {w : World} (x : Kin w.heap.size w) (b o : Nat) (h : b < w.heap.size) : x.world.cell? ⟨b,o,none⟩ = w.cell? ⟨b,o,none⟩:=x.keeps.cell (p:=⟨b,o,none⟩) h
end Q
namespace AW
open Go.RowKit
set_option maxHeartbeats 400000 in
theorem mayFollow_eq (ap an at' bp bn bt : Int) (az bz : Bool) (w : World) (h1 : -9223372036854775808 <= ap + an) (h2 : ap + an <= 9223372036854775807) (he : bp = ap + an) :
  Calls Tryz.prog 145 #[.agg #[.int .i64 ap,.int .i64 an,.int .i64 at',.bool az],.agg #[.int .i64 bp,.int .i64 bn,.int .i64 bt,.bool bz]] w fun e w'=>e = .returned (.bool (bt != at' || bz != az)) /\ Below w.heap.size w w':=by
 obtain ⟨W,hW⟩ : ∃ W,W = (w.alloc (.cells #[.int .i64 ap,.int .i64 an,.int .i64 at',.bool az] 47)).alloc (.cells #[.int .i64 bp,.int .i64 bn,.int .i64 bt,.bool bz] 47):=⟨_,rfl⟩
 have hs : W.heap.size = w.heap.size + 2:=by rw [hW];simp
 have hkin:=Q.kin_some W
 have hkc:=@Q.cell_kin W
 have c0 : ∀ x : Q.Kin W.heap.size W,x.world.cell? ⟨w.heap.size,0,none⟩ = some (.int .i64 ap):=fun x=>by rw [hkc x _ _ (by omega),hW];simp
 have c1 : ∀ x : Q.Kin W.heap.size W,x.world.cell? ⟨w.heap.size,1,none⟩ = some (.int .i64 an):=fun x=>by rw [hkc x _ _ (by omega),hW];simp
 have c2 : ∀ x : Q.Kin W.heap.size W,x.world.cell? ⟨w.heap.size,2,none⟩ = some (.int .i64 at'):=fun x=>by rw [hkc x _ _ (by omega),hW];simp
 have c3 : ∀ x : Q.Kin W.heap.size W,x.world.cell? ⟨w.heap.size,3,none⟩ = some (.bool az):=fun x=>by rw [hkc x _ _ (by omega),hW];simp
 have d0 : ∀ x : Q.Kin W.heap.size W,x.world.cell? ⟨w.heap.size + 1,0,none⟩ = some (.int .i64 bp):=fun x=>by rw [hkc x _ _ (by omega),hW];simp
 have d2 : ∀ x : Q.Kin W.heap.size W,x.world.cell? ⟨w.heap.size + 1,2,none⟩ = some (.int .i64 bt):=fun x=>by rw [hkc x _ _ (by omega),hW];simp
 have d3 : ∀ x : Q.Kin W.heap.size W,x.world.cell? ⟨w.heap.size + 1,3,none⟩ = some (.bool bz):=fun x=>by rw [hkc x _ _ (by omega),hW];simp
 have hbW : Hid (Below w.heap.size w W):=by show Below _ _ _;rw [hW];exact ((Below.refl _ _).alloc (Nat.le_refl _) _).alloc (by simp) _
 have HW : Hid (W = (w.alloc (.cells #[.int .i64 ap,.int .i64 an,.int .i64 at',.bool az] 47)).alloc (.cells #[.int .i64 bp,.int .i64 bn,.int .i64 bt,.bool bz] 47)):=hW
 clear hW hs hkc
 have hx : (bp == ap + an) = true:=by simp [he]
 clear he
 go_enter Tryz.func145,Tryz.ntmps145
 go_wp2_with fail
 rw [<- HW.out]
 refine Q.region_kin (by kernel_rfl) (by kernel_rfl) ?_
 repeat (first | go_big_quiet_step ((go_at_call 117;exact Q.calls_kin (fun W=>end_any _ _ _ _ W h1 h2) _)) | quiet_step ((go_at_call 117;exact Q.calls_kin (fun W=>end_any _ _ _ _ W h1 h2) _)))
 refine wpQuiet_nil ?_
 intro _ hw'
 obtain ⟨x,hw''⟩:=hw'
 subst hw''
 go_wp2
 all_goals go_ret
 all_goals exact ⟨by first | (simp [*];done) | (simp [*];cases bz <;> cases az <;> rfl),hbW.out.trans (x.keeps.mono hbW.out.size)⟩
set_option maxHeartbeats 400000 in
theorem mayFollow_ne (ap an at' bp bn bt : Int) (az bz : Bool) (w : World) (h1 : -9223372036854775808 <= ap + an) (h2 : ap + an <= 9223372036854775807) (he : ¬ bp = ap + an) :
  Calls Tryz.prog 145 #[.agg #[.int .i64 ap,.int .i64 an,.int .i64 at',.bool az],.agg #[.int .i64 bp,.int .i64 bn,.int .i64 bt,.bool bz]] w fun e w'=>e = .returned (.bool (decide (ap + an < bp))) /\ Below w.heap.size w w':=by
 obtain ⟨W,hW⟩ : ∃ W,W = (w.alloc (.cells #[.int .i64 ap,.int .i64 an,.int .i64 at',.bool az] 47)).alloc (.cells #[.int .i64 bp,.int .i64 bn,.int .i64 bt,.bool bz] 47):=⟨_,rfl⟩
 have hs : W.heap.size = w.heap.size + 2:=by rw [hW];simp
 have hkin:=Q.kin_some W
 have hkc:=@Q.cell_kin W
 have c0 : ∀ x : Q.Kin W.heap.size W,x.world.cell? ⟨w.heap.size,0,none⟩ = some (.int .i64 ap):=fun x=>by rw [hkc x _ _ (by omega),hW];simp
 have c1 : ∀ x : Q.Kin W.heap.size W,x.world.cell? ⟨w.heap.size,1,none⟩ = some (.int .i64 an):=fun x=>by rw [hkc x _ _ (by omega),hW];simp
 have c2 : ∀ x : Q.Kin W.heap.size W,x.world.cell? ⟨w.heap.size,2,none⟩ = some (.int .i64 at'):=fun x=>by rw [hkc x _ _ (by omega),hW];simp
 have c3 : ∀ x : Q.Kin W.heap.size W,x.world.cell? ⟨w.heap.size,3,none⟩ = some (.bool az):=fun x=>by rw [hkc x _ _ (by omega),hW];simp
 have d0 : ∀ x : Q.Kin W.heap.size W,x.world.cell? ⟨w.heap.size + 1,0,none⟩ = some (.int .i64 bp):=fun x=>by rw [hkc x _ _ (by omega),hW];simp
 have hbW : Hid (Below w.heap.size w W):=by show Below _ _ _;rw [hW];exact ((Below.refl _ _).alloc (Nat.le_refl _) _).alloc (by simp) _
 have HW : Hid (W = (w.alloc (.cells #[.int .i64 ap,.int .i64 an,.int .i64 at',.bool az] 47)).alloc (.cells #[.int .i64 bp,.int .i64 bn,.int .i64 bt,.bool bz] 47)):=hW
 have hs2 : Hid (w.heap.size + 2 <= W.heap.size):=by show _ <= _;omega
 clear hW hs hkc
 have hx : (bp == ap + an) = false:=by simp [he]
 clear he
 go_enter Tryz.func145,Tryz.ntmps145
 go_wp2_with fail
 rw [<- HW.out]
 refine Q.region_kin (by kernel_rfl) (by kernel_rfl) ?_
 repeat (first | go_big_quiet_step ((go_at_call 117;exact Q.calls_kin (fun W=>end_any _ _ _ _ W h1 h2) _)) | quiet_step ((go_at_call 117;exact Q.calls_kin (fun W=>end_any _ _ _ _ W h1 h2) _)))
 refine wpQuiet_nil ?_
 intro _ hw'
 obtain ⟨x,hw''⟩:=hw'
 subst hw''
 have c0x:=c0 x
 have c1x:=c1 x
 have c2x:=c2 x
 have c3x:=c3 x
 have d0x:=d0 x
 have hsx : Hid (w.heap.size + 2 <= x.world.heap.size):=Nat.le_trans hs2.out x.keeps.size
 have hbx : Hid (Below w.heap.size w x.world):=hbW.out.trans (x.keeps.mono hbW.out.size)
 clear HW c0 c1 c2 c3 d0 hkin hbW hs2
 obtain ⟨V,hV⟩ : ∃ V,V = x.world:=⟨_,rfl⟩
 rw [<- hV] at c0x c1x c2x c3x d0x hsx hbx ⊢
 clear hV
 have hkin:=Q.kin_some V
 have hkc:=@Q.cell_kin V
 have hsx':=hsx.out
 have c0 : ∀ x : Q.Kin V.heap.size V,x.world.cell? ⟨w.heap.size,0,none⟩ = some (.int .i64 ap):=fun x=>by rw [hkc x _ _ (by omega),c0x]
 have c1 : ∀ x : Q.Kin V.heap.size V,x.world.cell? ⟨w.heap.size,1,none⟩ = some (.int .i64 an):=fun x=>by rw [hkc x _ _ (by omega),c1x]
 have c2 : ∀ x : Q.Kin V.heap.size V,x.world.cell? ⟨w.heap.size,2,none⟩ = some (.int .i64 at'):=fun x=>by rw [hkc x _ _ (by omega),c2x]
 have c3 : ∀ x : Q.Kin V.heap.size V,x.world.cell? ⟨w.heap.size,3,none⟩ = some (.bool az):=fun x=>by rw [hkc x _ _ (by omega),c3x]
 have d0 : ∀ x : Q.Kin V.heap.size V,x.world.cell? ⟨w.heap.size + 1,0,none⟩ = some (.int .i64 bp):=fun x=>by rw [hkc x _ _ (by omega),d0x]
 clear hkc hsx'
 go_wp2_with fail
 refine Q.region_kin (by kernel_rfl) (by kernel_rfl) ?_
 repeat (first | go_big_quiet_step ((go_at_call 117;exact Q.calls_kin (fun W=>end_any _ _ _ _ W h1 h2) _)) | quiet_step ((go_at_call 117;exact Q.calls_kin (fun W=>end_any _ _ _ _ W h1 h2) _)))
 refine wpQuiet_nil ?_
 intro _ hw'
 obtain ⟨y,hw''⟩:=hw'
 subst hw''
 go_wp2
 go_ret
 exact ⟨rfl,hbx.out.trans (y.keeps.mono hbx.out.size)⟩
theorem mayFollow_any (a b : AM.Ar) (w : World) (h1 : -9223372036854775808 <= a.page + a.pages) (h2 : a.page + a.pages <= 9223372036854775807) :
  Calls Tryz.prog 145 #[.agg #[.int .i64 a.page,.int .i64 a.pages,.int .i64 a.prot,.bool a.zero],.agg #[.int .i64 b.page,.int .i64 b.pages,.int .i64 b.prot,.bool b.zero]] w fun e w'=>e = .returned (.bool (AM.followB a b)) /\ Below w.heap.size w w':=by
 unfold AM.followB AM.Ar.last0
 split
 · exact mayFollow_eq _ _ _ _ _ _ _ _ w h1 h2 (by assumption)
 · exact mayFollow_ne _ _ _ _ _ _ _ _ w h1 h2 (by assumption)
end AW
end Go.Proofs.YtpgifpeohlllfaaGreat
