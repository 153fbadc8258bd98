import Derived.Test.YtkdigjpejnebkaaGreatGP02
import Derived.Deep.AppendLies
import Derived.Deep.Upon
import Derived.Laws.OwnMore
import Derived.Lib.SliceRun
import Derived.Test.YtkdigjpejnebkaaGreatGP03
set_option linter.unusedVariables false
set_option maxRecDepth 100000
set_option linter.unusedSimpArgs false
namespace Go.Proofs.YtkdigjpejnebkaaGreat
namespace GK
open Go.RowKit
structure Kp (D : Nat -> Prop) (w w' : World) : Prop where
 os : w'.os = w.os
 tape : w'.tape = w.tape
 output : w'.output = w.output
 size : w.heap.size <= w'.heap.size
 block : ∀ b,b < w.heap.size -> ¬ D b -> w'.heap[b]? = w.heap[b]?
theorem Kp.refl (D : Nat -> Prop) (w : World) : Kp D w w := ⟨rfl,rfl,rfl,Nat.le_refl _,fun _ _ _ => rfl⟩
theorem Kp.trans {D D1 : Nat -> Prop} {w w1 w2 : World} (h : Kp D w w1) (g : Kp D1 w1 w2) (hd : ∀ b,b < w.heap.size -> D1 b -> D b) : Kp D w w2 :=
 ⟨g.os.trans h.os,g.tape.trans h.tape,g.output.trans h.output,Nat.le_trans h.size g.size,fun b hb hn => (g.block b (Nat.lt_of_lt_of_le hb h.size) (fun k => hn (hd b hb k))).trans (h.block b hb hn)⟩
theorem Kp.mono {D D1 : Nat -> Prop} {w w' : World} (h : Kp D w w') (hd : ∀ b,b < w.heap.size -> D b -> D1 b) : Kp D1 w w' := ⟨h.os,h.tape,h.output,h.size,fun b hb hn => h.block b hb (fun k => hn (hd b hb k))⟩
theorem Kp.ofBelow {D : Nat -> Prop} {w w' : World} (h : Below w.heap.size w w') : Kp D w w' := ⟨h.os,h.tape,h.output,h.size,fun b hb _ => h.block b hb⟩
theorem Kp.below {D : Nat -> Prop} {N : Nat} {w0 w w' : World} (h : Below N w0 w) (g : Kp D w w') (hN : N <= w.heap.size) (hd : ∀ b,D b -> N <= b) : Below N w0 w' :=
 h.trans ⟨g.os,g.tape,g.output,g.size,fun b hb => g.block b (Nat.lt_of_lt_of_le hb hN) (fun k => by have := hd b k;omega)⟩
theorem Kp.alloc (D : Nat -> Prop) (w : World) (o : Obj) : Kp D w (w.alloc o) := Kp.ofBelow ((Below.refl _ _).alloc (Nat.le_refl _) o)
theorem Kp.drew (D : Nat -> Prop) (w : World) : Kp D w w.drew := Kp.ofBelow (Below.refl _ _).drew
theorem Kp.set (D : Nat -> Prop) (w : World) (a : Addr) (v : Value) (h : D a.block) : Kp D w (w.setCell a v) := by
 have hb := (Below.refl 0 w).setCell (p := a) (Nat.zero_le _) v
 exact ⟨hb.os,hb.tape,hb.output,hb.size,fun b _ hn => Below.heap_setCell w a v b (fun e => hn (e ▸ h))⟩
theorem Kp.grown {D : Nat -> Prop} {w w' : World} {row : Option Nat} (h : w.grownBy w' row) (hd : ∀ k,row = some k -> D k) : Kp D w w' :=
 ⟨h.os,h.tape,h.output,h.size,fun b hb hn => h.block b hb (fun e => hn (hd b e.symm))⟩
theorem Kp.keep {D : Nat -> Prop} {w w' : World} {b : Nat} {o : Obj} (h : Kp D w w') (hb : w.heap[b]? = some o) (hn : ¬ D b) : w'.heap[b]? = some o := (h.block b (B.isLt hb) hn).trans hb
theorem Kp.cell {D : Nat -> Prop} {w w' : World} {p : Addr} {v : Value} (h : Kp D w w') (hp : w.cell? p = some v) (hn : ¬ D p.block) : w'.cell? p = some v :=
 (World.cell?_of_block (h.block p.block (World.block_lt_of_cell? w p hp) hn)).trans hp
theorem Kp.row {D : Nat -> Prop} {w w' : World} {base : Nat} {e : TypeId} {size : Nat} {v : Value} {n : Nat} {xs : List Value} (h : Kp D w w') (hr : w.ownsRow base e size v n xs) (hn : ∀ g,v.ownBlock = some g -> ¬ D g) : w'.ownsRow base e size v n xs := by
 refine ⟨hr.1,?_⟩
 rcases hr.2 with h0 | ⟨g,cap,cur,hv,hb,hg,h1,h2,h3,h4⟩
 · exact .inl h0
 · exact .inr ⟨g,cap,cur,hv,hb,h.keep hg (hn g (by rw [hv];rfl)),h1,h2,h3,h4⟩
theorem row_set {w : World} {base : Nat} {e : TypeId} {size : Nat} {g n cap : Nat} {xs : List Value} (hr : w.ownsRow base e size (.slice (some ⟨g,0,none⟩) n cap) n xs) (j : Nat) (u : Value) :
  (w.setCell ⟨g,j,none⟩ u).ownsRow base e size (.slice (some ⟨g,0,none⟩) n cap) n (xs.set j u) := by
 refine ⟨by rw [List.length_set];exact hr.1,?_⟩
 rcases hr.2 with ⟨h0,_⟩ | ⟨g',cap',cur,hv,hb,hg,h1,h2,h3,h4⟩
 · cases h0
 · injection hv with e1 e2 e3
   injection e1 with e1
   injection e1 with e1 _ _
   subst e1 e3
   refine .inr ⟨g,cap,cur.setIfInBounds j u,rfl,hb,B.set hg j u,h1,h2,by rw [Array.size_setIfInBounds];exact h3,?_⟩
   rw [Array.toList_setIfInBounds,<- h4]
   exact List.take_set.symm ▸ rfl
theorem row_free {w : World} {base : Nat} {e : TypeId} {size : Nat} {g n cap : Nat} {xs : List Value} (hr : w.ownsRow base e size (.slice (some ⟨g,0,none⟩) n cap) n xs) (j : Nat) : w.frozen? ⟨g,j,none⟩ = false := by
 rcases hr.2 with ⟨h0,_⟩ | ⟨g',cap',cur,hv,hb,hg,h1,h2,h3,h4⟩
 · cases h0
 · injection hv with e1 e2 e3
   injection e1 with e1
   injection e1 with e1 _ _
   subst e1
   exact B.free hg j
theorem run_append_src {P : Program} (w : World) (t ty : TypeId) (base : Nat) (e : TypeId) (i : TypeInfo) (z : Value) (size bytes : Nat) (ht : P.underlying t = some (.slice e)) (hi : P.info? e = some i) (hz : i.zero = some z)
  (hsize : i.size = size) (hby : i.bytes = bytes) (hzs : z.cells.size = size) (hsz : 0 < size)
  (v : Value) (n : Nat) (xs : List Value) (hown : w.ownsRow base e size v n xs)
  (ao : Option Addr) (m c : Nat) (news : List Value) (hl : news.length = m * size) (hnews : 0 < m -> ∃ ad,ao = some ad /\ ∀ j u,news[j]? = some u -> w.cell? (ad.add j) = some u) (h1 : ∀ u ∈ news,u.oneCell' = true)
  (h63 : n + m <= maxLen) (hbytes : (n + m) * bytes <= 140737488355328) (hbase : base <= w.heap.size) :
  ∃ v' w',(Builtin.append_ #[t,t] ty #[v,.slice ao m c]).run P w = .ok v' w' /\
   w'.ownsRow base e size v' (n + m) (xs ++ news) /\ w.grownBy w' v.ownBlock /\ (v'.ownBlock = v.ownBlock ∨ v'.ownBlock = some w.heap.size) := by
 by_cases h0 : 0 < m
 · obtain ⟨ad,rfl,hc⟩ := hnews h0
   obtain ⟨g,cap,w',hr,h2,h3,h4,h5⟩ := run_append_lies (P := P) w t ty base e i z size bytes ht hi hz hsize hby hzs hsz v n xs hown ad m c news hl hc h1 h0 h63 hbytes hbase _ rfl
   refine ⟨_,w',hr,h2,h3,?_⟩
   rcases h4 with h4 | h4
   · exact .inl h4.symm
   · exact .inr (by rw [h4];rfl)
 · obtain rfl : m = 0 := by omega
   have hn : news = [] := List.eq_nil_of_length_eq_zero (by omega)
   subst hn
   have hsrc : Src P i.size t (.slice ao 0 c) 0 [] w := ⟨.inl ⟨_,ht⟩,fun w' => by simp [Builtin.lenOf],by cases ao <;> simp [Builtin.firstCells,loadCells,loadCellsFrom],by cases ao <;> simp [Builtin.firstCells,loadCells,loadCellsFrom],by simp,by simp⟩
   have hform : ∃ b cap,v = .slice b n cap /\ n <= cap := by
    rcases hown.2 with ⟨h0,h1⟩ | ⟨g',cap',cur,hv,hb,hg,h1,h2,h3,h4⟩
    · exact ⟨none,0,by rw [h0,h1],by omega⟩
    · exact ⟨_,cap',hv,h1⟩
   obtain ⟨b,cap,rfl,hle⟩ := hform
   have hr := run_append_nothing (P := P) w t t ty e i ht hi b n cap hle (.slice ao 0 c) hsrc
   exact ⟨_,w,hr,by simpa using hown,World.grownBy.refl _ _,.inl rfl⟩
theorem wp_append_src {P : Program} {o : Oper} {a : Act} {w : World} {K : Act -> World -> Prop} {Q : Exit -> Act -> World -> Prop} (s x : Operand) (t : TypeId)
  (ho : o.op = .call { callee := .builtin .append,args := #[s,x],argTypes := #[t,t] })
  (base : Nat) (e : TypeId) (i : TypeInfo) (z : Value) (size bytes : Nat) (ht : P.underlying t = some (.slice e)) (hi : P.info? e = some i) (hz : i.zero = some z)
  (hsize : i.size = size) (hby : i.bytes = bytes) (hzs : z.cells.size = size) (hsz : 0 < size)
  (v : Value) (n : Nat) (xs : List Value) (hs : a.eval s = v) (hown : w.ownsRow base e size v n xs)
  (ao : Option Addr) (m c : Nat) (news : List Value) (hx : a.eval x = .slice ao m c) (hl : news.length = m * size) (hnews : 0 < m -> ∃ ad,ao = some ad /\ ∀ j u,news[j]? = some u -> w.cell? (ad.add j) = some u) (h1 : ∀ u ∈ news,u.oneCell' = true)
  (h63 : n + m <= maxLen) (hbytes : (n + m) * bytes <= 140737488355328) (hbase : base <= w.heap.size)
  (h : ∀ v' w',w'.ownsRow base e size v' (n + m) (xs ++ news) -> w.grownBy w' v.ownBlock -> (v'.ownBlock = v.ownBlock ∨ v'.ownBlock = some w.heap.size) -> K (a.put o.dst v') w') : o.wp P a w K Q := by
 obtain ⟨v',w',hr,h2,h3,h4⟩ := run_append_src (P := P) w t o.type base e i z size bytes ht hi hz hsize hby hzs hsz v n xs hown ao m c news hl hnews h1 h63 hbytes hbase
 unfold Oper.wp execOp
 simp only [ho,resolve,invoke,builtin,Sem.run_bind,Sem.run_pure,Result.andThen_ok,List.map_toArray,List.map_cons,List.map_nil,hs,hx,hr]
 exact h v' w' h2 h3 h4
theorem wpList_append_src {P : Program} {ops : Array Oper} {rest : List Oper} {o : Oper} {a : Act} {w : World} {Q : Exit -> Act -> World -> Prop} (hgd : o.guard = none) (s x : Operand) (t : TypeId)
  (ho : o.op = .call { callee := .builtin .append,args := #[s,x],argTypes := #[t,t] })
  (base : Nat) (e : TypeId) (i : TypeInfo) (z : Value) (size bytes : Nat) (ht : P.underlying t = some (.slice e)) (hi : P.info? e = some i) (hz : i.zero = some z)
  (hsize : i.size = size) (hby : i.bytes = bytes) (hzs : z.cells.size = size) (hsz : 0 < size)
  (v : Value) (n : Nat) (xs : List Value) (hs : a.eval s = v) (hown : w.ownsRow base e size v n xs)
  (ao : Option Addr) (m c : Nat) (news : List Value) (hx : a.eval x = .slice ao m c) (hl : news.length = m * size) (hnews : 0 < m -> ∃ ad,ao = some ad /\ ∀ j u,news[j]? = some u -> w.cell? (ad.add j) = some u) (h1 : ∀ u ∈ news,u.oneCell' = true)
  (h63 : n + m <= maxLen) (hbytes : (n + m) * bytes <= 140737488355328) (hbase : base <= w.heap.size)
  (h : ∀ v' w',w'.ownsRow base e size v' (n + m) (xs ++ news) -> w.grownBy w' v.ownBlock -> (v'.ownBlock = v.ownBlock ∨ v'.ownBlock = some w.heap.size) -> wpList P ops Q rest (a.put o.dst v') w') : wpList P ops Q (o :: rest) a w :=
 wpList_plain hgd fun _ hK => wp_append_src s x t ho base e i z size bytes ht hi hz hsize hby hzs hsz v n xs hs hown ao m c news hx hl hnews h1 h63 hbytes hbase fun v' w' h2 h3 h4 => hK _ _ (h v' w' h2 h3 h4)
theorem step_append_src {P : Program} {ops : Array Oper} {o : Oper} {a : Act} {w : World} {K : Act -> World -> Prop} {Q : Exit -> Act -> World -> Prop} {E : Prop} (hgd : o.guard = none) (s x : Operand) (t : TypeId)
  (ho : o.op = .call { callee := .builtin .append,args := #[s,x],argTypes := #[t,t] })
  (base : Nat) (e : TypeId) (i : TypeInfo) (z : Value) (size bytes : Nat) (ht : P.underlying t = some (.slice e)) (hi : P.info? e = some i) (hz : i.zero = some z)
  (hsize : i.size = size) (hby : i.bytes = bytes) (hzs : z.cells.size = size) (hsz : 0 < size)
  (v : Value) (n : Nat) (xs : List Value) (hs : a.eval s = v) (hown : w.ownsRow base e size v n xs)
  (ao : Option Addr) (m c : Nat) (news : List Value) (hx : a.eval x = .slice ao m c) (hl : news.length = m * size) (hnews : 0 < m -> ∃ ad,ao = some ad /\ ∀ j u,news[j]? = some u -> w.cell? (ad.add j) = some u) (h1 : ∀ u ∈ news,u.oneCell' = true)
  (h63 : n + m <= maxLen) (hbytes : (n + m) * bytes <= 140737488355328) (hbase : base <= w.heap.size)
  (h : ∀ v' w',w'.ownsRow base e size v' (n + m) (xs ++ news) -> w.grownBy w' v.ownBlock -> (v'.ownBlock = v.ownBlock ∨ v'.ownBlock = some w.heap.size) -> K (a.put o.dst v') w') :
  if Region.wanted o (yielded ops a.tmps) = true then Oper.wp P o a w K Q else E := by
 have hw : Region.wanted o (yielded ops a.tmps) = true := by simp [Region.wanted,hgd]
 rw [if_pos hw]
 exact wp_append_src s x t ho base e i z size bytes ht hi hz hsize hby hzs hsz v n xs hs hown ao m c news hx hl hnews h1 h63 hbytes hbase h
theorem rows_length {α : Type} (f : α -> List Value) (k : Nat) (hf : ∀ x,(f x).length = k) : ∀ l : List α,(l.flatMap f).length = l.length * k
 | [] => by simp
 | a :: r => by rw [List.flatMap_cons,List.length_append,hf,rows_length f k hf r,List.length_cons,Nat.succ_mul,Nat.add_comm]
theorem rows_get {α : Type} (f : α -> List Value) (k : Nat) (hf : ∀ x,(f x).length = k) (d : α) : ∀ (l : List α) (i j : Nat),i < l.length -> j < k -> (l.flatMap f)[i * k + j]? = (f (l.getD i d))[j]?
 | [],i,j,hi,hj => by simp at hi
 | a :: r,0,j,hi,hj => by
  rw [List.flatMap_cons,Nat.zero_mul,Nat.zero_add,List.getElem?_append_left (by rw [hf];exact hj)]
  rfl
 | a :: r,i + 1,j,hi,hj => by
  rw [List.flatMap_cons,List.getElem?_append_right (by rw [hf,Nat.succ_mul];omega),hf,show (i + 1) * k + j - k = i * k + j by rw [Nat.succ_mul];omega]
  exact rows_get f k hf d r i j (by simpa using hi) hj
theorem rows_set {α : Type} (f : α -> List Value) (k : Nat) (hf : ∀ x,(f x).length = k) (d : α) (x : α) (j : Nat) (v : Value) (hj : j < k) : ∀ (l : List α) (i : Nat),i < l.length -> f x = (f (l.getD i d)).set j v -> (l.set i x).flatMap f = (l.flatMap f).set (i * k + j) v
 | [],i,hi,_ => by simp at hi
 | a :: r,0,hi,e => by
  have e' : f x = (f a).set j v := e
  rw [List.set_cons_zero,List.flatMap_cons,List.flatMap_cons,Nat.zero_mul,Nat.zero_add,List.set_append_left _ _ (by rw [hf];exact hj),e']
 | a :: r,i + 1,hi,e => by
  rw [List.set_cons_succ,List.flatMap_cons,List.flatMap_cons,List.set_append_right _ _ (by rw [hf,Nat.succ_mul];omega),hf,show (i + 1) * k + j - k = i * k + j by rw [Nat.succ_mul];omega,rows_set f k hf d x j v hj r i (by simpa using hi) e]
theorem row_at {α : Type} {w : World} {base : Nat} {e : TypeId} {k g cap : Nat} (f : α -> List Value) (hf : ∀ x,(f x).length = k) (d : α) {l : List α} (hr : w.ownsRow base e k (.slice (some ⟨g,0,none⟩) l.length cap) l.length (l.flatMap f)) (i j : Nat) (hi : i < l.length) (hj : j < k) : w.cell? ⟨g,i * k + j,none⟩ = (f (l.getD i d))[j]? := by
 have : i * k + j < l.length * k := by
  have := Nat.mul_le_mul_right k (show i + 1 <= l.length from hi)
  rw [Nat.succ_mul] at this
  omega
 exact (hr.cellAt _ this).trans (rows_get f k hf d l i j hi hj)
theorem row_form {w : World} {base : Nat} {e : TypeId} {size : Nat} {v : Value} {n : Nat} {xs : List Value} (h : w.ownsRow base e size v n xs) : ∃ ao cap,v = .slice ao n cap /\ n <= cap /\ (0 < n -> ∃ g,ao = some ⟨g,0,none⟩ /\ base <= g /\ g < w.heap.size) := by
 rcases h.2 with ⟨h0,h1⟩ | ⟨g',cap',cur,hv,hb,hg,h1,h2,h3,h4⟩
 · exact ⟨none,0,by rw [h0,h1],by omega,fun h => by omega⟩
 · exact ⟨_,cap',hv,h1,fun _ => ⟨g',rfl,hb,B.isLt hg⟩⟩
theorem row_base {w : World} {base base' : Nat} {e : TypeId} {size : Nat} {v : Value} {n : Nat} {xs : List Value} (h : w.ownsRow base e size v n xs) (hb : ∀ g,v.ownBlock = some g -> base' <= g) : w.ownsRow base' e size v n xs := by
 refine ⟨h.1,?_⟩
 rcases h.2 with h0 | ⟨g,cap,cur,hv,_,hg,h1,h2,h3,h4⟩
 · exact .inl h0
 · exact .inr ⟨g,cap,cur,hv,hb g (by rw [hv];rfl),hg,h1,h2,h3,h4⟩
theorem cell_other (w : World) (g j b o : Nat) (v : Value) (h : b ≠ g) : (w.setCell ⟨g,j,none⟩ v).cell? ⟨b,o,none⟩ = w.cell? ⟨b,o,none⟩ := World.cell?_of_block (Below.heap_setCell w ⟨g,j,none⟩ v b h)
theorem kp_set3 {D : Nat -> Prop} (w : World) (g : Nat) (j0 j1 j2 : Nat) (v0 v1 v2 : Value) (h : D g) : Kp D w (((w.setCell ⟨g,j0,none⟩ v0).setCell ⟨g,j1,none⟩ v1).setCell ⟨g,j2,none⟩ v2) :=
 ((Kp.set D w ⟨g,j0,none⟩ v0 h).trans (Kp.set D _ ⟨g,j1,none⟩ v1 h) (fun _ _ k => k)).trans (Kp.set D _ ⟨g,j2,none⟩ v2 h) (fun _ _ k => k)
end GK
namespace GK
open Go.RowKit
open FW (hideC add_below)
def From (w : World) (ao : Option Addr) (m : Nat) (news : List Value) : Prop := 0 < m -> ∃ ad,ao = some ad /\ ∀ j u,news[j]? = some u -> w.cell? (ad.add j) = some u
theorem From.below {w w' : World} {ao : Option Addr} {m : Nat} {news : List Value} (h : From w ao m news) (hb : Below w.heap.size w w') : From w' ao m news := fun hm => by
 obtain ⟨ad,e,hc⟩ := h hm
 refine ⟨ad,e,fun j u hu => ?_⟩
 have := hc j u hu
 exact (hb.cell (World.block_lt_of_cell? w _ this)).trans this
theorem infoAr : (Tryz.prog.info? 59).map (fun i => (i.zero,i.size,i.bytes)) = some (some (.agg #[.int .i64 0,.int .i64 0,.int .i64 0,.bool false]),4,32) := by kernel_rfl
set_option maxHeartbeats 1000000 in
theorem cloneAr (ao : Option Addr) (n c : Nat) (xs : List Value) (w : World) (hl : xs.length = n * 4) (h : From w ao n xs) (h1 : ∀ u ∈ xs,u.oneCell' = true) (hn : n <= 1000000) :
  Calls Tryz.prog 23 #[.slice ao n c] w fun e w' => ∃ v,e = .returned v /\ w'.ownsRow w.heap.size 59 4 v n xs /\ Below w.heap.size w w' := by
 have HH := hideC h
 have HL := hideC hl
 have H1 := hideC h1
 clear h hl h1
 have q : ∀ (w : World) (a : Option Addr) (n c n' c' : Nat),(binOp .eql 22 (.slice a n c) (.slice none n' c')).run Tryz.prog w = .ok (.bool a.isNone) w := fun w a n c n' c' => Lib.run_eql_slice_nil w _ _ a n c n' c' Tryz.underlying22
 obtain ⟨i0,hin,hz0,hz1,hz2⟩ := info_parts infoAr
 cases ao with
 | none =>
  have h0 : n = 0 := by
   by_cases g : 0 < n
   · obtain ⟨ad,e,_⟩ := HH.out g
     cases e
   · omega
  subst h0
  have hx : xs = [] := List.eq_nil_of_length_eq_zero (by rw [HL.out])
  subst hx
  clear HH HL H1 hin hz0 hz1 hz2
  go_enter Tryz.func23,Tryz.ntmps23
  go_wp2
  go_ret
  exact ⟨_,rfl,World.ownsRow_nil _ _ _ _,Below.refl _ _⟩
 | some ad =>
  have HIN := hideC hin
  have HZ0 := hideC hz0
  have HZ1 := hideC hz1
  have HZ2 := hideC hz2
  clear hin hz0 hz1 hz2
  go_enter Tryz.func23,Tryz.ntmps23
  go_wp2_with (at_builtin;refine wpList_append_src (P := Tryz.prog) rfl _ _ 22 rfl w.heap.size 59 i0 (.agg #[.int .i64 0,.int .i64 0,.int .i64 0,.bool false]) 4 32 Tryz.underlying22 HIN.out HZ0.out HZ1.out HZ2.out rfl (by decide) (.slice (some ⟨w.heap.size,0,none⟩) 0 0) 0 [] (by rfl) (World.ownsRow_made w #[] 0 (Nat.le_refl _) (by unfold maxLen;omega) (by simp)) (some ad) n c xs (by rfl) HL.out ((HH.out.below ((Below.refl _ _).alloc (Nat.le_refl _) _))) H1.out (by unfold maxLen;omega) (by omega) (by simp) ?_;intro v' w' hown hgr hat;have HOWN := hideC hown;have HGR := hideC hgr;clear hown hgr hat)
  go_ret
  have hown := HOWN.out
  have hgr := HGR.out
  rw [Nat.zero_add] at hown
  exact ⟨_,rfl,hown,((Below.refl _ _).alloc (Nat.le_refl _) _).grown hgr (by simp) (fun k hk => by simp [Value.ownBlock] at hk;omega)⟩
theorem infoPg : (Tryz.prog.info? 65).map (fun i => (i.zero,i.size,i.bytes)) = some (some (.agg #[.int .i64 0,.string ⟨#[]⟩]),2,24) := by kernel_rfl
set_option maxHeartbeats 1000000 in
theorem clonePg (ao : Option Addr) (n c : Nat) (xs : List Value) (w : World) (hl : xs.length = n * 2) (h : From w ao n xs) (h1 : ∀ u ∈ xs,u.oneCell' = true) (hn : n <= 1000000) :
  Calls Tryz.prog 123 #[.slice ao n c] w fun e w' => ∃ v,e = .returned v /\ w'.ownsRow w.heap.size 65 2 v n xs /\ Below w.heap.size w w' := by
 have HH := hideC h
 have HL := hideC hl
 have H1 := hideC h1
 clear h hl h1
 have q : ∀ (w : World) (a : Option Addr) (n c n' c' : Nat),(binOp .eql 51 (.slice a n c) (.slice none n' c')).run Tryz.prog w = .ok (.bool a.isNone) w := fun w a n c n' c' => Lib.run_eql_slice_nil w _ _ a n c n' c' Tryz.underlying51
 obtain ⟨i0,hin,hz0,hz1,hz2⟩ := info_parts infoPg
 cases ao with
 | none =>
  have h0 : n = 0 := by
   by_cases g : 0 < n
   · obtain ⟨ad,e,_⟩ := HH.out g
     cases e
   · omega
  subst h0
  have hx : xs = [] := List.eq_nil_of_length_eq_zero (by rw [HL.out])
  subst hx
  clear HH HL H1 hin hz0 hz1 hz2
  go_enter Tryz.func123,Tryz.ntmps123
  go_wp2
  go_ret
  exact ⟨_,rfl,World.ownsRow_nil _ _ _ _,Below.refl _ _⟩
 | some ad =>
  have HIN := hideC hin
  have HZ0 := hideC hz0
  have HZ1 := hideC hz1
  have HZ2 := hideC hz2
  clear hin hz0 hz1 hz2
  go_enter Tryz.func123,Tryz.ntmps123
  go_wp2_with (at_builtin;refine wpList_append_src (P := Tryz.prog) rfl _ _ 51 rfl w.heap.size 65 i0 (.agg #[.int .i64 0,.string ⟨#[]⟩]) 2 24 Tryz.underlying51 HIN.out HZ0.out HZ1.out HZ2.out rfl (by decide) (.slice (some ⟨w.heap.size,0,none⟩) 0 0) 0 [] (by rfl) (World.ownsRow_made w #[] 0 (Nat.le_refl _) (by unfold maxLen;omega) (by simp)) (some ad) n c xs (by rfl) HL.out ((HH.out.below ((Below.refl _ _).alloc (Nat.le_refl _) _))) H1.out (by unfold maxLen;omega) (by omega) (by simp) ?_;intro v' w' hown hgr hat;have HOWN := hideC hown;have HGR := hideC hgr;clear hown hgr hat)
  go_ret
  have hown := HOWN.out
  have hgr := HGR.out
  rw [Nat.zero_add] at hown
  exact ⟨_,rfl,hown,((Below.refl _ _).alloc (Nat.le_refl _) _).grown hgr (by simp) (fun k hk => by simp [Value.ownBlock] at hk;omega)⟩
theorem infoPr : (Tryz.prog.info? 70).map (fun i => (i.zero,i.size,i.bytes)) = some (some (.agg #[.int .i64 0,.int .i64 0,.int .i64 0,.int .i64 0,.int .i64 0,.int .i64 0,.int .i64 0,.int .i64 0,.int .i64 0,.int .i64 0,.int .i64 0,.int .i64 0,.int .i64 0]),13,104) := by kernel_rfl
set_option maxHeartbeats 1000000 in
theorem clonePr (ao : Option Addr) (n c : Nat) (xs : List Value) (w : World) (hl : xs.length = n * 13) (h : From w ao n xs) (h1 : ∀ u ∈ xs,u.oneCell' = true) (hn : n <= 1000000) :
  Calls Tryz.prog 79 #[.slice ao n c] w fun e w' => ∃ v,e = .returned v /\ w'.ownsRow w.heap.size 70 13 v n xs /\ Below w.heap.size w w' := by
 have HH := hideC h
 have HL := hideC hl
 have H1 := hideC h1
 clear h hl h1
 have q : ∀ (w : World) (a : Option Addr) (n c n' c' : Nat),(binOp .eql 27 (.slice a n c) (.slice none n' c')).run Tryz.prog w = .ok (.bool a.isNone) w := fun w a n c n' c' => Lib.run_eql_slice_nil w _ _ a n c n' c' Tryz.underlying27
 obtain ⟨i0,hin,hz0,hz1,hz2⟩ := info_parts infoPr
 cases ao with
 | none =>
  have h0 : n = 0 := by
   by_cases g : 0 < n
   · obtain ⟨ad,e,_⟩ := HH.out g
     cases e
   · omega
  subst h0
  have hx : xs = [] := List.eq_nil_of_length_eq_zero (by rw [HL.out])
  subst hx
  clear HH HL H1 hin hz0 hz1 hz2
  go_enter Tryz.func79,Tryz.ntmps79
  go_wp2
  go_ret
  exact ⟨_,rfl,World.ownsRow_nil _ _ _ _,Below.refl _ _⟩
 | some ad =>
  have HIN := hideC hin
  have HZ0 := hideC hz0
  have HZ1 := hideC hz1
  have HZ2 := hideC hz2
  clear hin hz0 hz1 hz2
  go_enter Tryz.func79,Tryz.ntmps79
  go_wp2_with (at_builtin;refine wpList_append_src (P := Tryz.prog) rfl _ _ 27 rfl w.heap.size 70 i0 (.agg #[.int .i64 0,.int .i64 0,.int .i64 0,.int .i64 0,.int .i64 0,.int .i64 0,.int .i64 0,.int .i64 0,.int .i64 0,.int .i64 0,.int .i64 0,.int .i64 0,.int .i64 0]) 13 104 Tryz.underlying27 HIN.out HZ0.out HZ1.out HZ2.out rfl (by decide) (.slice (some ⟨w.heap.size,0,none⟩) 0 0) 0 [] (by rfl) (World.ownsRow_made w #[] 0 (Nat.le_refl _) (by unfold maxLen;omega) (by simp)) (some ad) n c xs (by rfl) HL.out ((HH.out.below ((Below.refl _ _).alloc (Nat.le_refl _) _))) H1.out (by unfold maxLen;omega) (by omega) (by simp) ?_;intro v' w' hown hgr hat;have HOWN := hideC hown;have HGR := hideC hgr;clear hown hgr hat)
  go_ret
  have hown := HOWN.out
  have hgr := HGR.out
  rw [Nat.zero_add] at hown
  exact ⟨_,rfl,hown,((Below.refl _ _).alloc (Nat.le_refl _) _).grown hgr (by simp) (fun k hk => by simp [Value.ownBlock] at hk;omega)⟩
theorem infoWd : (Tryz.prog.info? 78).map (fun i => (i.zero,i.size,i.bytes)) = some (some (.agg #[.int .i64 0,.int .i64 0]),2,16) := by kernel_rfl
set_option maxHeartbeats 1000000 in
theorem cloneWd (ao : Option Addr) (n c : Nat) (xs : List Value) (w : World) (hl : xs.length = n * 2) (h : From w ao n xs) (h1 : ∀ u ∈ xs,u.oneCell' = true) (hn : n <= 1000000) :
  Calls Tryz.prog 80 #[.slice ao n c] w fun e w' => ∃ v,e = .returned v /\ w'.ownsRow w.heap.size 78 2 v n xs /\ Below w.heap.size w w' := by
 have HH := hideC h
 have HL := hideC hl
 have H1 := hideC h1
 clear h hl h1
 have q : ∀ (w : World) (a : Option Addr) (n c n' c' : Nat),(binOp .eql 28 (.slice a n c) (.slice none n' c')).run Tryz.prog w = .ok (.bool a.isNone) w := fun w a n c n' c' => Lib.run_eql_slice_nil w _ _ a n c n' c' Tryz.underlying28
 obtain ⟨i0,hin,hz0,hz1,hz2⟩ := info_parts infoWd
 cases ao with
 | none =>
  have h0 : n = 0 := by
   by_cases g : 0 < n
   · obtain ⟨ad,e,_⟩ := HH.out g
     cases e
   · omega
  subst h0
  have hx : xs = [] := List.eq_nil_of_length_eq_zero (by rw [HL.out])
  subst hx
  clear HH HL H1 hin hz0 hz1 hz2
  go_enter Tryz.func80,Tryz.ntmps80
  go_wp2
  go_ret
  exact ⟨_,rfl,World.ownsRow_nil _ _ _ _,Below.refl _ _⟩
 | some ad =>
  have HIN := hideC hin
  have HZ0 := hideC hz0
  have HZ1 := hideC hz1
  have HZ2 := hideC hz2
  clear hin hz0 hz1 hz2
  go_enter Tryz.func80,Tryz.ntmps80
  go_wp2_with (at_builtin;refine wpList_append_src (P := Tryz.prog) rfl _ _ 28 rfl w.heap.size 78 i0 (.agg #[.int .i64 0,.int .i64 0]) 2 16 Tryz.underlying28 HIN.out HZ0.out HZ1.out HZ2.out rfl (by decide) (.slice (some ⟨w.heap.size,0,none⟩) 0 0) 0 [] (by rfl) (World.ownsRow_made w #[] 0 (Nat.le_refl _) (by unfold maxLen;omega) (by simp)) (some ad) n c xs (by rfl) HL.out ((HH.out.below ((Below.refl _ _).alloc (Nat.le_refl _) _))) H1.out (by unfold maxLen;omega) (by omega) (by simp) ?_;intro v' w' hown hgr hat;have HOWN := hideC hown;have HGR := hideC hgr;clear hown hgr hat)
  go_ret
  have hown := HOWN.out
  have hgr := HGR.out
  rw [Nat.zero_add] at hown
  exact ⟨_,rfl,hown,((Below.refl _ _).alloc (Nat.le_refl _) _).grown hgr (by simp) (fun k hk => by simp [Value.ownBlock] at hk;omega)⟩
end GK
end Go.Proofs.YtkdigjpejnebkaaGreat
