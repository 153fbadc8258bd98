/- The reference's reader of images: what stands in memory while it reads. -/
import Derived.Test.YtafdgjpmhofinaaU3
import Derived.Test.YtafdgjpmhofinaaR4
namespace Go.Proofs.Ytafdgjpmhofinaa.W
open Go.RowKit
set_option linter.unusedVariables false

/-- but for the blocks p and q all is as it was -/
structure F2 (p q : Nat) (w w' : World) : Prop where
  below : Below p w w'
  block : ∀ b, b < w.heap.size → b ≠ p → b ≠ q → w'.heap[b]? = w.heap[b]?
theorem F2.refl (p q : Nat) (w : World) : F2 p q w w := ⟨Below.refl _ _, fun _ _ _ _ => rfl⟩
theorem F2.trans {p q : Nat} {w w1 w2 : World} (h : F2 p q w w1) (g : F2 p q w1 w2) : F2 p q w w2 :=
  ⟨h.below.trans g.below, fun b hb hp hq => (g.block b (Nat.lt_of_lt_of_le hb h.below.size) hp hq).trans (h.block b hb hp hq)⟩
theorem F2.ofFrm {p : Nat} (q : Nat) {w w' : World} (h : Frm p w none w' none) : F2 p q w w' := ⟨h.below, fun b hb hp _ => h.block b hb hp (by simp)⟩
theorem F2.ofBelow {p : Nat} (q : Nat) {w w' : World} (h : Below w.heap.size w w') (hp : p ≤ w.heap.size) : F2 p q w w' := ⟨h.mono hp, fun b hb _ _ => h.block b hb⟩
theorem F2.setQ {p q : Nat} {w W : World} (h : F2 p q w W) (hpq : p ≤ q) (j : Nat) (v : Value) : F2 p q w (W.setCell ⟨q, j, none⟩ v) :=
  ⟨h.below.setCell hpq v, fun b hb hp hq => by rw [heap_setCell_other W ⟨q, j, none⟩ b v hq]; exact h.block b hb hp hq⟩
theorem F2.setNew {p q g : Nat} {w W : World} (h : F2 p q w W) (hpw : p < w.heap.size) (hg : w.heap.size ≤ g) (j : Nat) (v : Value) : F2 p q w (W.setCell ⟨g, j, none⟩ v) :=
  ⟨h.below.setCell (by show p ≤ g; omega) v, fun b hb hp hq => by rw [heap_setCell_other W ⟨g, j, none⟩ b v (by show b ≠ g; omega)]; exact h.block b hb hp hq⟩
theorem F2.grown {p q : Nat} {w W W' : World} {row : Option Nat} (h : F2 p q w W) (hg : W.grownBy W' row) (hr : ∀ g, row = some g → w.heap.size ≤ g) (hp : p < w.heap.size) : F2 p q w W' := by
  have hs := h.below.size
  refine ⟨h.below.grown hg (by omega) (fun k e => by have := hr k e; omega), fun b hb hbp hbq => ?_⟩
  rw [hg.block b (by omega) (fun e => by have := hr b e.symm; omega)]
  exact h.block b hb hbp hbq
theorem Eye.setQ {p q : Nat} {w : World} {o : Option (List UInt8)} (h : Eye p w o) (hpq : p ≠ q) (j : Nat) (v : Value) : Eye p (w.setCell ⟨q, j, none⟩ v) o := by
  obtain ⟨s, b, h1, h2⟩ := h
  exact ⟨s, b, B.other h1 q j v hpq, h2⟩
theorem Eye.grown {p : Nat} {w w' : World} {o : Option (List UInt8)} {row : Option Nat} (h : Eye p w o) (hg : w.grownBy w' row) (hr : ∀ g, row = some g → p < g) : Eye p w' o := by
  obtain ⟨s, b, h1, h2⟩ := h
  exact ⟨s, b, (hg.block p (B.isLt h1) (fun e => by have := hr p e.symm; omega)).trans h1, h2⟩
theorem Eye.len {p : Nat} {w : World} {l : List UInt8} (h : Eye p w (some l)) : l.length ≤ 1048576 := by
  obtain ⟨s, b, h1, h2, h3, h4⟩ := h
  rw [← h4, ← Lib.size_eq]
  exact h2
theorem Eye.bad {p : Nat} {w : World} (h : Eye p w none) : w.cell? ⟨p, 1, none⟩ = some (.bool true) := by
  obtain ⟨s, b, h1, h2, h3⟩ := h
  subst h3
  exact B.cell h1 1 rfl
theorem Eye.good {p : Nat} {w : World} {l : List UInt8} (h : Eye p w (some l)) : w.cell? ⟨p, 1, none⟩ = some (.bool false) := by
  obtain ⟨s, b, h1, h2, h3, h4⟩ := h
  subst h3
  exact B.cell h1 1 rfl
theorem Eye.text {p : Nat} {w : World} {l : List UInt8} (h : Eye p w (some l)) : ∃ s : ByteArray, w.cell? ⟨p, 0, none⟩ = some (.string s) ∧ s.data.toList = l := by
  obtain ⟨s, b, h1, h2, h3, h4⟩ := h
  exact ⟨s, B.cell h1 0 rfl, h4⟩

theorem count_nat (o : Option (List UInt8)) : ∃ m : Nat, ∃ o2, countE o = ((m : Int), o2) ∧ ∀ l, o2 = some l → m ≤ l.length := by
  rcases countE_parts o with h | ⟨n, l, h, hl⟩
  · exact ⟨0, none, h, fun l e => by cases e⟩
  · exact ⟨n, some l, h, fun l' e => by injection e with e; subst e; exact hl⟩
/-- a list that is read: its number, and what is left behind it -/
theorem count_list {α : Type} (E : Option (List UInt8) → α × Option (List UInt8)) (o : Option (List UInt8)) : ∃ (m : Nat) (o2 : Option (List UInt8)), countE o = ((m : Int), o2) ∧ stepsE E m o2 [] = listE E o ∧ ∀ (p : Nat) (w : World), Eye p w o2 → m ≤ 1048576 := by
  obtain ⟨m, o2, h, hm⟩ := count_nat o
  refine ⟨m, o2, h, by unfold listE; rw [h, Int.toNat_natCast], fun p w he => ?_⟩
  cases h2 : o2 with
  | none =>
    rcases countE_parts o with g | ⟨n, l, g, hl⟩
    · rw [h] at g
      injection g with g _
      omega
    · rw [h] at g
      injection g with _ g
      rw [h2] at g
      cases g
  | some l =>
    have := hm l h2
    rw [h2] at he
    have := he.len
    omega
theorem steps_end {α : Type} {E : Option (List UInt8) → α × Option (List UInt8)} {k : Nat} {oc oz : Option (List UInt8)} {xs zs : List α} (h : stepsE E k oc xs = (zs, oz)) (he : k = 0 ∨ oc = none) : xs = zs ∧ oc = oz := by
  rcases he with rfl | rfl
  · exact Prod.mk.inj h
  · rw [steps_bad] at h
    exact Prod.mk.inj h
/-- inside the loop that reads a list: k elements are to come yet -/
def LL {α : Type} (E : Option (List UInt8) → α × Option (List UInt8)) (cx : α → List Value) (ty n : Nat) (p q : Nat) (C : Value → Array Value) (wB : World) (zs : List α) (oz : Option (List UInt8)) (k : Nat) (oc : Option (List UInt8)) (xs : List α) (v : Value) (wr : World) : Prop :=
  stepsE E k oc xs = (zs, oz) ∧ Eye p wr oc ∧ wr.heap[q]? = some (.cells (C v) 27 (0, 0)) ∧ wr.ownsRow wB.heap.size ty n v xs.length (xs.flatMap cx) ∧ xs.length + k ≤ 1048576 ∧ F2 p q wB wr
/-- behind it -/
def LE {α : Type} (cx : α → List Value) (ty n : Nat) (p q : Nat) (C : Value → Array Value) (wB : World) (zs : List α) (oz : Option (List UInt8)) (wc : World) : Prop :=
  ∃ v, Eye p wc oz ∧ wc.heap[q]? = some (.cells (C v) 27 (0, 0)) ∧ wc.ownsRow wB.heap.size ty n v zs.length (zs.flatMap cx) ∧ F2 p q wB wc
theorem LL.done {α : Type} {E : Option (List UInt8) → α × Option (List UInt8)} {cx : α → List Value} {ty n : Nat} {p q : Nat} {C : Value → Array Value} {wB : World} {zs : List α} {oz : Option (List UInt8)} {k : Nat} {oc : Option (List UInt8)} {xs : List α} {v : Value} {wr : World}
    (h : LL E cx ty n p q C wB zs oz k oc xs v wr) (he : k = 0 ∨ oc = none) : LE cx ty n p q C wB zs oz wr := by
  obtain ⟨h1, h2, h3, h4, h5, h6⟩ := h
  obtain ⟨rfl, rfl⟩ := steps_end h1 he
  exact ⟨v, h2, h3, h4, h6⟩
theorem LL.begin {α : Type} {E : Option (List UInt8) → α × Option (List UInt8)} {cx : α → List Value} {ty n : Nat} {p q : Nat} {C : Value → Array Value} {wB : World} {zs : List α} {oz : Option (List UInt8)} {k : Nat} {oc : Option (List UInt8)}
    (h1 : stepsE E k oc [] = (zs, oz)) (h2 : Eye p wB oc) (h3 : wB.heap[q]? = some (.cells (C (.slice none 0 0)) 27 (0, 0))) (h5 : k ≤ 1048576) : LL E cx ty n p q C wB zs oz k oc [] (.slice none 0 0) wB :=
  ⟨h1, h2, h3, World.ownsRow_nil _ _ _ _, by simpa using h5, F2.refl _ _ _⟩
theorem HasN.f2 {α : Type} {lo p q : Nat} {lie : World → Nat → Nat → List α → Prop} {w w' : World} {ao : Option Addr} {l : List α} (hlie : ∀ {b off : Nat}, lie w b off l → w'.heap[b]? = w.heap[b]? → lie w' b off l) (h : HasN lo lie w ao l) (hf : F2 p q w w') (hp : p < lo) (hq : q < lo) : HasN lo lie w' ao l := fun hl => by
  obtain ⟨b, off, e, h1, h2, h3⟩ := h hl
  exact ⟨b, off, e, Nat.lt_of_lt_of_le h1 hf.below.size, h2, hlie h3 (hf.block b h1 (by omega) (by omega))⟩
theorem HasImN.f2 {lo p q : Nat} {w w' : World} {a : M.At} {i : M.Im} (h : HasImN lo w a i) (hf : F2 p q w w') (hp : p < lo) (hq : q < lo) : HasImN lo w' a i :=
  ⟨h.needs.f2 (fun h hb => lieS_block h hb) hf hp hq, h.segs.f2 (fun h hb => lieG_block h hb) hf hp hq, h.syms.f2 (fun h hb => lieY_block h hb) hf hp hq, h.rels.f2 (fun h hb => lieR_block h hb) hf hp hq⟩
/-- a round: one element more -/
theorem LL.next {α : Type} {E : Option (List UInt8) → α × Option (List UInt8)} {cx : α → List Value} {ty n : Nat} {p q : Nat} {C : Value → Array Value} {wB : World} {zs : List α} {oz : Option (List UInt8)} {j : Nat} {ox : Option (List UInt8)} {xs : List α} {x : α} {v v' : Value} {wr aX w' : World} {i : Nat}
    (hf : F2 p q wB wr) (hxk : xs.length + (j + 1) ≤ 1048576) (hq : wr.heap[q]? = some (.cells (C v) 27 (0, 0))) (hrow : ∀ g, v.ownBlock = some g → wB.heap.size ≤ g) (hpq : p < q) (hqB : q < wB.heap.size)
    (G : Frm p wr none aX none) (EY : Eye p aX ox) (hst : stepsE E j ox (xs ++ [x]) = (zs, oz)) (hown : w'.ownsRow wB.heap.size ty n v' (xs.length + 1) (xs.flatMap cx ++ cx x)) (hg : aX.grownBy w' v.ownBlock) (hC : (C v).setIfInBounds i v' = C v') :
    LL E cx ty n p q C wB zs oz j ox (xs ++ [x]) v' (w'.setCell ⟨q, i, none⟩ v') := by
  have hs := hf.below.size
  refine ⟨hst, (EY.grown hg (fun g e => by have := hrow g e; omega)).setQ (by omega) _ _, ?_, ?_, by rw [List.length_append]; simp; omega, ?_⟩
  · have h := B.set (B.grown ((G.block q (by omega) (by omega) (by simp)).trans hq) hg (fun e => by have := hrow _ e.symm; omega)) i v'
    rw [hC] at h
    exact h
  · rw [List.length_append, List.flatMap_append]
    have e : [x].flatMap cx = cx x := by simp
    rw [e]
    exact ownsRow_setCell_below hown (by show q < _; omega) _
  · exact ((hf.trans (F2.ofFrm q G)).grown hg hrow (by omega)).setQ (by omega) _ _
end Go.Proofs.Ytafdgjpmhofinaa.W
