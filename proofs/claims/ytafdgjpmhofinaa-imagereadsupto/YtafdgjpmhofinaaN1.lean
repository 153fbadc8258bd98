/- What is written: the bytes of an image, and a pen: one block that holds a row of bytes of its own. -/
import Derived.Test.YtafdgjpmhofinaaWB
import Derived.Test.YtafdgjpmhofinaaBW4
import Derived.Lib.AppendStr
import Derived.Deep.RegionLaw
namespace Go.Proofs.Ytafdgjpmhofinaa.W
open Go.RowKit
set_option linter.unusedVariables false

/-- a number as eight bytes -/
def num8 (n : Int) : List UInt8 := Lib.leBytes 8 (Z.low n)
theorem num8_length (n : Int) : (num8 n).length = 8 := Lib.leBytes_length _ _
def textL (s : ByteArray) : List UInt8 := num8 s.size ++ s.data.toList
def flagN (b : Bool) : Int := if b then 1 else 0
def segL (g : M.Sg) : List UInt8 := num8 g.page ++ (num8 g.pages ++ (textL g.data ++ (num8 (flagN g.wr) ++ num8 (flagN g.ex))))
def symL (y : M.Sy) : List UInt8 := textL y.name ++ num8 y.pos
def relL (r : M.Rl) : List UInt8 := num8 r.pos ++ (textL r.name ++ num8 r.add)
/-- the bytes of an image -/
def bytesL (i : M.Im) : List UInt8 :=
  textL i.name ++ num8 i.needs.length ++ i.needs.flatMap textL ++ num8 i.segs.length ++ i.segs.flatMap segL ++ num8 i.syms.length ++ i.syms.flatMap symL ++ num8 i.rels.length ++ i.rels.flatMap relL ++ num8 i.entry

theorem textL_length (s : ByteArray) : (textL s).length = 8 + s.size := by
  unfold textL
  rw [List.length_append, num8_length, Lib.size_eq]

/-- append of a string, and where the new row lies -/
theorem run_append_str {P : Program} (w : World) (base : Nat) (t u ty e : TypeId) (i : TypeInfo) (ht : P.underlying t = some (.slice e)) (hu : P.underlying u = some .string) (hi : P.info? e = some i) (hz : i.zero = some (.int .u8 0))
    (hsize : i.size = 1) (hby : i.bytes = 1) (v : Value) (n : Nat) (xs : List Value) (hown : w.ownsRow base e 1 v n xs) (s : ByteArray) (hb : n + s.size ≤ 140737488355328) (hbase : base ≤ w.heap.size) :
    ∃ v' w', (Builtin.append_ #[t, u] ty #[v, .string s]).run P w = .ok v' w' ∧ w'.ownsRow base e 1 v' (n + s.size) (xs ++ Lib.strCells s) ∧ w.grownBy w' v.ownBlock ∧
      (v'.ownBlock = v.ownBlock ∨ ∃ g, v'.ownBlock = some g ∧ w.heap.size ≤ g) := by
  have h63 : n + s.size ≤ maxLen := by unfold maxLen; omega
  obtain ⟨v', w', hr, h2, h3, h4⟩ := Lib.run_append_own_string (P := P) w base t u ty e i ht hu hi hz hsize hby v n xs hown s h63 hb hbase
  refine ⟨v', w', hr, h2, h3, ?_⟩
  have hxl : xs.length = n := by simpa using hown.1
  rcases hown.2 with ⟨hv, hn⟩ | ⟨g, cap, cur, hv, hbg, hg, hnc, hcm, hcs, htake⟩
  · by_cases hs : s.size = 0
    · exact .inl (by rw [h4.2 ⟨hv, hs⟩, hv])
    · have hx : xs = [] := List.eq_nil_of_length_eq_zero (by omega)
      have hown' : w.ownsRow w.heap.size e 1 v n xs := by rw [hv, hn, hx]; exact World.ownsRow_nil _ _ _ _
      obtain ⟨v2, w2, hr2, h22, h23, h24⟩ := Lib.run_append_own_string (P := P) w w.heap.size t u ty e i ht hu hi hz hsize hby v n xs hown' s h63 hb (Nat.le_refl _)
      rw [hr] at hr2
      injection hr2 with hv2 hw2
      subst hv2
      rcases h22.2 with ⟨hv', hn'⟩ | ⟨g', cap', cur', hv', hbg', _⟩
      · omega
      · exact .inr ⟨g', by rw [hv']; rfl, hbg'⟩
  · subst hv
    by_cases hroom : n + s.size ≤ cap
    · have hcs' : cur.size = cap := by simpa using hcs
      have hr2 := Lib.run_append_room_string (P := P) w t u ty e i ht hu hi hsize g n cap cur hg s hroom (by omega)
      rw [hr] at hr2
      injection hr2 with hv2 hw2
      subst hv2
      exact .inl rfl
    · have hr2 := Lib.run_append_grow_string (P := P) w t u ty e i (.int .u8 0) ht hu hi hz ⟨g, 0, none⟩ n cap xs (by rw [hsize]; simpa using hxl) (hown.cells (g := g) rfl) s (by omega) (by omega) (by rw [hby]; exact growslice_fits (by omega) (by omega))
      rw [hr] at hr2
      injection hr2 with hv2 hw2
      subst hv2
      exact .inr ⟨_, rfl, Nat.le_refl _⟩

theorem wpList_append_str {P : Program} (w : World) {ops : Array Oper} {rest : List Oper} {o : Oper} {a : Act} {Q : Exit → Act → World → Prop} (hgd : o.guard = none) (sl x : Operand) (t u : TypeId)
    (ho : o.op = .call { callee := .builtin .append, args := #[sl, x], argTypes := #[t, u] })
    (base : Nat) (e : TypeId) (i : TypeInfo) (ht : P.underlying t = some (.slice e)) (hu : P.underlying u = some .string) (hi : P.info? e = some i) (hz : i.zero = some (.int .u8 0))
    (hsize : i.size = 1) (hby : i.bytes = 1)
    (v : Value) (n : Nat) (xs : List Value) (hs : a.eval sl = v) (hown : w.ownsRow base e 1 v n xs) (s : ByteArray) (hx : a.eval x = .string s)
    (hb : n + s.size ≤ 140737488355328) (hbase : base ≤ w.heap.size)
    (h : ∀ v' w', w'.ownsRow base e 1 v' (n + s.size) (xs ++ Lib.strCells s) → w.grownBy w' v.ownBlock → (v'.ownBlock = v.ownBlock ∨ ∃ g, v'.ownBlock = some g ∧ w.heap.size ≤ g) → wpList P ops Q rest (a.put o.dst v') w') : wpList P ops Q (o :: rest) a w := by
  refine wpList_plain hgd fun K hK => ?_
  obtain ⟨v', w', hr, h2, h3, h4⟩ := run_append_str (P := P) w base t u o.type e i ht hu hi hz hsize hby v n xs hown s hb hbase
  unfold Oper.wp execOp
  simp only [ho, resolve, invoke, builtin, Sem.run_bind, Sem.run_pure, Result.andThen_ok, List.map_toArray, List.map_cons, List.map_nil, hs, hx, hr]
  exact hK _ _ (h v' w' h2 h3 h4)
theorem step_append_str {P : Program} (w : World) {ops : Array Oper} {o : Oper} {a : Act} {K : Act → World → Prop} {Q : Exit → Act → World → Prop} {E : Prop} (hgd : o.guard = none) (sl x : Operand) (t u : TypeId)
    (ho : o.op = .call { callee := .builtin .append, args := #[sl, x], argTypes := #[t, u] })
    (base : Nat) (e : TypeId) (i : TypeInfo) (ht : P.underlying t = some (.slice e)) (hu : P.underlying u = some .string) (hi : P.info? e = some i) (hz : i.zero = some (.int .u8 0))
    (hsize : i.size = 1) (hby : i.bytes = 1)
    (v : Value) (n : Nat) (xs : List Value) (hs : a.eval sl = v) (hown : w.ownsRow base e 1 v n xs) (s : ByteArray) (hx : a.eval x = .string s)
    (hb : n + s.size ≤ 140737488355328) (hbase : base ≤ w.heap.size)
    (h : ∀ v' w', w'.ownsRow base e 1 v' (n + s.size) (xs ++ Lib.strCells s) → w.grownBy w' v.ownBlock → (v'.ownBlock = v.ownBlock ∨ ∃ g, v'.ownBlock = some g ∧ w.heap.size ≤ g) → K (a.put o.dst v') w') :
    if Region.wanted o (yielded ops a.tmps) = true then Oper.wp P o a w K Q else E := by
  have hw : Region.wanted o (yielded ops a.tmps) = true := by simp [Region.wanted, hgd]
  rw [if_pos hw]
  obtain ⟨v', w', hr, h2, h3, h4⟩ := run_append_str (P := P) w base t u o.type e i ht hu hi hz hsize hby v n xs hown s hb hbase
  unfold Oper.wp execOp
  simp only [ho, resolve, invoke, builtin, Sem.run_bind, Sem.run_pure, Result.andThen_ok, List.map_toArray, List.map_cons, List.map_nil, hs, hx, hr]
  exact h v' w' h2 h3 h4

/-- a pen: block p holds a row of bytes of its own, in block r -/
def Pen (t : TypeId) (p : Nat) (w : World) (r : Option Nat) (l : List UInt8) : Prop :=
  ∃ v, w.heap[p]? = some (.cells #[v] t (0, 0)) ∧ v.ownBlock = r ∧ w.ownsRow (p + 1) 5 1 v l.length (Lib.byteCells l)
/-- from w to w' the pen wrote, and nothing else was turned -/
structure Frm (p : Nat) (w : World) (r : Option Nat) (w' : World) (r' : Option Nat) : Prop where
  below : Below p w w'
  block : ∀ b, b < w.heap.size → b ≠ p → some b ≠ r → w'.heap[b]? = w.heap[b]?
  row : r' = r ∨ ∃ g, r' = some g ∧ w.heap.size ≤ g
theorem Frm.refl (p : Nat) (w : World) (r : Option Nat) : Frm p w r w r := ⟨Below.refl _ _, fun _ _ _ _ => rfl, .inl rfl⟩
theorem Frm.trans {p : Nat} {w w1 w2 : World} {r r1 r2 : Option Nat} (h : Frm p w r w1 r1) (g : Frm p w1 r1 w2 r2) : Frm p w r w2 r2 := by
  refine ⟨h.below.trans g.below, fun b hb hp hr => ?_, ?_⟩
  · have hs := h.below.size
    rw [g.block b (by omega) hp (fun e => ?_), h.block b hb hp hr]
    rcases h.row with e1 | ⟨x, e1, e2⟩
    · exact hr (by rw [e, e1])
    · rw [e1] at e
      injection e with e
      omega
  · rcases g.row with e1 | ⟨x, e1, e2⟩
    · rcases h.row with e3 | ⟨y, e3, e4⟩
      · exact .inl (e1.trans e3)
      · exact .inr ⟨y, e1.trans e3, e4⟩
    · exact .inr ⟨x, e1, Nat.le_trans h.below.size e2⟩
theorem Frm.ofBelow {p : Nat} {w w' : World} (h : Below w.heap.size w w') (hp : p ≤ w.heap.size) (r : Option Nat) : Frm p w r w' r := ⟨h.mono hp, fun b hb _ _ => h.block b hb, .inl rfl⟩
theorem Frm.alloc {p : Nat} {w w' : World} {r r' : Option Nat} (h : Frm p w r w' r') (hp : p ≤ w.heap.size) (o : Obj) : Frm p w r (w'.alloc o) r' :=
  h.trans (Frm.ofBelow ((Below.refl _ _).alloc (Nat.le_refl _) o) (Nat.le_trans hp h.below.size) r')
theorem ownsRow_below {w w' : World} {base : Nat} {e : TypeId} {size : Nat} {v : Value} {n : Nat} {xs : List Value} (h : w.ownsRow base e size v n xs) (hb : Below w.heap.size w w') : w'.ownsRow base e size v n xs := by
  refine ⟨h.1, ?_⟩
  rcases h.2 with h2 | ⟨g, cap, cur, hv, hbg, hg, rest⟩
  · exact .inl h2
  · exact .inr ⟨g, cap, cur, hv, hbg, (hb.block g (B.isLt hg)).trans hg, rest⟩
theorem Pen.lt {t : TypeId} {p : Nat} {w : World} {r : Option Nat} {l : List UInt8} (h : Pen t p w r l) : p < w.heap.size := let ⟨_, h1, _⟩ := h; B.isLt h1
theorem Pen.row_ge {t : TypeId} {p : Nat} {w : World} {r : Option Nat} {l : List UInt8} (h : Pen t p w r l) (g : Nat) (e : r = some g) : p + 1 ≤ g ∧ g < w.heap.size := by
  obtain ⟨v, h1, h2, h3⟩ := h
  exact h3.lt g (h2.trans e)
theorem Pen.keep {t : TypeId} {p : Nat} {w w' : World} {r : Option Nat} {l : List UInt8} (h : Pen t p w r l) (hb : Below w.heap.size w w') : Pen t p w' r l := by
  obtain ⟨v, h1, h2, h3⟩ := h
  exact ⟨v, (hb.block p (B.isLt h1)).trans h1, h2, ownsRow_below h3 hb⟩
theorem strCells_eq (s : ByteArray) : Lib.strCells s = Lib.byteCells s.data.toList := rfl
theorem byteCells_append (a b : List UInt8) : Lib.byteCells (a ++ b) = Lib.byteCells a ++ Lib.byteCells b := by unfold Lib.byteCells; rw [List.map_append]
/-- the pen writes a string -/
theorem pen_write {t : TypeId} {p : Nat} {w w1 : World} {v v' : Value} {l : List UInt8} {s : ByteArray} (h1 : w.heap[p]? = some (.cells #[v] t (0, 0))) (hb : ∀ g, v.ownBlock = some g → p + 1 ≤ g)
    (hown : w1.ownsRow (p + 1) 5 1 v' (l.length + s.size) (Lib.byteCells l ++ Lib.strCells s)) (hg : w.grownBy w1 v.ownBlock) (hl : v'.ownBlock = v.ownBlock ∨ ∃ g, v'.ownBlock = some g ∧ w.heap.size ≤ g) :
    Pen t p (w1.setCell ⟨p, 0, none⟩ v') v'.ownBlock (l ++ s.data.toList) ∧ Frm p w v.ownBlock (w1.setCell ⟨p, 0, none⟩ v') v'.ownBlock := by
  have hp := B.isLt h1
  have hne : some p ≠ v.ownBlock := fun e => by have := hb p e.symm; omega
  have h1' : w1.heap[p]? = some (.cells #[v] t (0, 0)) := (hg.block p hp hne).trans h1
  refine ⟨⟨v', B.set h1' 0 v', rfl, ?_⟩, ⟨?_, fun b hb hbp hbr => ?_, hl⟩⟩
  · rw [List.length_append, ← Lib.size_eq, byteCells_append, ← strCells_eq]
    exact ownsRow_setCell_below hown (by simp) _
  · exact (((Below.refl p w).grown hg (by omega) (fun k e => by have := hb k e; omega))).setCell (Nat.le_refl _) _
  · rw [heap_setCell_other w1 ⟨p, 0, none⟩ b v' hbp]
    exact hg.block b hb hbr
end Go.Proofs.Ytafdgjpmhofinaa.W
