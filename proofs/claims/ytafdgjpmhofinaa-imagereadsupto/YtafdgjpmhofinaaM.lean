/- Images as plain Lean data, and what Check says of them; no Go in sight. -/
import Derived.WalkKit
import Derived.Below
import Derived.Lib.Strings
namespace Go.Proofs.Ytafdgjpmhofinaa.M
open Go.RowKit
set_option linter.unusedVariables false

structure Sg where
  page : Int
  pages : Int
  data : ByteArray
  wr : Bool
  ex : Bool
structure Sy where
  name : ByteArray
  pos : Int
structure Rl where
  pos : Int
  name : ByteArray
  add : Int
structure Im where
  name : ByteArray
  needs : List ByteArray
  segs : List Sg
  syms : List Sy
  rels : List Rl
  entry : Int

def nil : ByteArray := ⟨#[]⟩
def sg0 : Sg := ⟨0, 0, nil, false, false⟩
def sy0 : Sy := ⟨nil, 0⟩
def rl0 : Rl := ⟨0, nil, 0⟩
def strAt (l : List ByteArray) (i : Nat) : ByteArray := l.getD i nil
def sgAt (l : List Sg) (i : Nat) : Sg := l.getD i sg0
def syAt (l : List Sy) (i : Nat) : Sy := l.getD i sy0
def rlAt (l : List Rl) (i : Nat) : Rl := l.getD i rl0

theorem all_true {α : Type} (p : α → Bool) (d : α) : ∀ l : List α, (∀ i, i < l.length → p (l.getD i d) = true) → l.all p = true
  | [], _ => rfl
  | a :: r, h => by
    have h0 : p a = true := h 0 (by simp)
    have hr := all_true p d r (fun i hi => h (i + 1) (by simpa using hi))
    simp [h0, hr]
theorem all_at {α : Type} (p : α → Bool) (d : α) : ∀ (l : List α) (i : Nat), i < l.length → l.all p = true → p (l.getD i d) = true
  | a :: r, 0, _, h => by simp at h; simpa using h.1
  | a :: r, i + 1, hi, h => by
    simp at h
    have := all_at p d r i (by simpa using hi) (by simpa using h.2)
    simpa using this
theorem all_false {α : Type} (p : α → Bool) (d : α) (l : List α) (i : Nat) (hi : i < l.length) (h : p (l.getD i d) = false) : l.all p = false := by
  cases e : l.all p
  · rfl
  · rw [all_at p d l i hi e] at h; cases h

/-- a sign of a name -/
def signB (n : Int) : Bool := decide (97 ≤ n ∧ n ≤ 122) || (decide (48 ≤ n ∧ n ≤ 57) || decide (n = 95))
def nameB (s : ByteArray) : Bool := decide (1 ≤ s.size ∧ s.size ≤ 12) && s.data.toList.all (fun c => signB c.toNat)

theorem name_at (s : ByteArray) (k : Nat) (h : k < s.size) : s.data.toList.getD k 0 = s[k] := by
  have h' : k < s.data.toList.length := by rw [← Lib.size_eq]; exact h
  rw [List.getD_eq_getElem?_getD, List.getElem?_eq_getElem h']
  rfl
theorem name_yes (s : ByteArray) (h1 : 1 ≤ s.size) (h2 : s.size ≤ 12) (h : ∀ k (hk : k < s.size), signB s[k].toNat = true) : nameB s = true := by
  unfold nameB
  rw [decide_eq_true ⟨h1, h2⟩, Bool.true_and]
  refine all_true _ 0 _ (fun i hi => ?_)
  have hi' : i < s.size := by rw [Lib.size_eq]; exact hi
  rw [name_at s i hi']
  exact h i hi'
theorem name_no (s : ByteArray) (k : Nat) (hk : k < s.size) (h : signB s[k].toNat = false) : nameB s = false := by
  unfold nameB
  rw [all_false _ 0 s.data.toList k (by rw [← Lib.size_eq]; exact hk) (by rw [name_at s k hk]; exact h), Bool.and_false]
theorem name_len (s : ByteArray) (h : ¬ (1 ≤ s.size ∧ s.size ≤ 12)) : nameB s = false := by
  unfold nameB
  rw [decide_eq_false h, Bool.false_and]

def relNameB (r : Rl) : Bool := decide (r.name.size = 0) || nameB r.name
def namesB (i : Im) : Bool := nameB i.name && (i.needs.all nameB && (i.syms.all (fun y => nameB y.name) && i.rels.all relNameB))

def countsB (i : Im) : Bool := decide (1 ≤ i.segs.length ∧ i.segs.length ≤ 6 ∧ i.needs.length ≤ 4 ∧ i.syms.length ≤ 12 ∧ i.rels.length ≤ 16)
def rangeB (s : Sg) : Bool := decide (0 ≤ s.page ∧ 1 ≤ s.pages ∧ s.page + s.pages ≤ 255 ∧ (s.data.size : Int) ≤ s.pages * 16)
def rangesB (i : Im) : Bool := i.segs.all rangeB
def overAt (l : List Sg) (k : Nat) : Bool := k == 0 || decide ((sgAt l (k - 1)).page + (sgAt l (k - 1)).pages ≤ (sgAt l k).page)
def overTo (l : List Sg) : Nat → Bool
  | 0 => true
  | k + 1 => overTo l k && overAt l k
/-- no segment lies over the one ahead -/
def apartB (l : List Sg) : Bool := overTo l l.length
def onceTo (l : List ByteArray) : Nat → Bool
  | 0 => true
  | k + 1 => onceTo l k && !(l.take k).contains (strAt l k)
/-- no name stands twice -/
def onceB (l : List ByteArray) : Bool := onceTo l l.length
def thereB (i : Im) : Bool := apartB i.segs && (onceB i.needs && onceB (i.syms.map (·.name)))
def inSeg (s : Sg) (a : Int) : Bool := decide (s.page * 16 ≤ a ∧ a < (s.page + s.pages) * 16)
def segIn : List Sg → Int → Option Sg
  | [], _ => none
  | s :: r, a => if inSeg s a then some s else segIn r a
def placedB (l : List Sg) (a : Int) : Bool := (segIn l a).isSome
def wholeB (l : List Sg) (a : Int) : Bool := placedB l a && (placedB l (a + 1) && (placedB l (a + 2) && (placedB l (a + 3) && (placedB l (a + 4) && (placedB l (a + 5) && (placedB l (a + 6) && placedB l (a + 7)))))))
def relAt (i : Im) (k : Nat) : Bool := (k == 0 || decide ((rlAt i.rels (k - 1)).pos + 8 ≤ (rlAt i.rels k).pos)) && wholeB i.segs (rlAt i.rels k).pos
def relsTo (i : Im) : Nat → Bool
  | 0 => true
  | k + 1 => relsTo i k && relAt i k
def entryB (i : Im) : Bool := match segIn i.segs i.entry with
  | some s => s.ex && decide (i.entry % 8 = 0)
  | none => false
def placesB (i : Im) : Bool := i.syms.all (fun y => placedB i.segs y.pos) && (relsTo i i.rels.length && entryB i)
/-- what Check answers -/
def chkN (i : Im) : Int := if !namesB i then 4 else if !countsB i then 2 else if !rangesB i then 3 else if !thereB i then 5 else if !placesB i then 6 else 0

/-- the cells lie in block b of w, from off on -/
def LieS (w : World) (b off : Nat) (l : List ByteArray) : Prop := ∀ i, i < l.length → w.cell? ⟨b, off + i, none⟩ = some (.string (strAt l i))
def LieG (w : World) (b off : Nat) (l : List Sg) : Prop := ∀ i, i < l.length →
  w.cell? ⟨b, off + i * 5, none⟩ = some (.int .i64 (sgAt l i).page) ∧ w.cell? ⟨b, off + i * 5 + 1, none⟩ = some (.int .i64 (sgAt l i).pages) ∧
  w.cell? ⟨b, off + i * 5 + 2, none⟩ = some (.string (sgAt l i).data) ∧ w.cell? ⟨b, off + i * 5 + 3, none⟩ = some (.bool (sgAt l i).wr) ∧ w.cell? ⟨b, off + i * 5 + 4, none⟩ = some (.bool (sgAt l i).ex)
def LieY (w : World) (b off : Nat) (l : List Sy) : Prop := ∀ i, i < l.length →
  w.cell? ⟨b, off + i * 2, none⟩ = some (.string (syAt l i).name) ∧ w.cell? ⟨b, off + i * 2 + 1, none⟩ = some (.int .i64 (syAt l i).pos)
def LieR (w : World) (b off : Nat) (l : List Rl) : Prop := ∀ i, i < l.length →
  w.cell? ⟨b, off + i * 3, none⟩ = some (.int .i64 (rlAt l i).pos) ∧ w.cell? ⟨b, off + i * 3 + 1, none⟩ = some (.string (rlAt l i).name) ∧ w.cell? ⟨b, off + i * 3 + 2, none⟩ = some (.int .i64 (rlAt l i).add)

/-- numbers that an int can hold, and lengths that memory can -/
def I64 (n : Int) : Prop := -9223372036854775808 ≤ n ∧ n ≤ 9223372036854775807
def Short (n : Nat) : Prop := n ≤ 140737488351232
def FitG (s : Sg) : Prop := I64 s.page ∧ I64 s.pages ∧ Short s.data.size
def FitY (s : Sy) : Prop := Short s.name.size ∧ I64 s.pos
def FitR (s : Rl) : Prop := I64 s.pos ∧ Short s.name.size ∧ I64 s.add
structure Fit (i : Im) : Prop where
  name : Short i.name.size
  needs : Short i.needs.length
  need : ∀ k, k < i.needs.length → Short (strAt i.needs k).size
  segs : Short i.segs.length
  seg : ∀ k, k < i.segs.length → FitG (sgAt i.segs k)
  syms : Short i.syms.length
  sym : ∀ k, k < i.syms.length → FitY (syAt i.syms k)
  rels : Short i.rels.length
  rel : ∀ k, k < i.rels.length → FitR (rlAt i.rels k)
  entry : I64 i.entry

/-- a slice that holds the list -/
def HasBy {α : Type} (lie : World → Nat → Nat → List α → Prop) (w : World) (ao : Option Addr) (l : List α) : Prop := 0 < l.length → ∃ b off, ao = some ⟨b, off, none⟩ ∧ b < w.heap.size ∧ lie w b off l
/-- where an image's lists lie -/
structure At where
  an : Option Addr
  cn : Nat
  ag : Option Addr
  cg : Nat
  ay : Option Addr
  cy : Nat
  ar : Option Addr
  cr : Nat
structure HasIm (w : World) (a : At) (i : Im) : Prop where
  needs : HasBy LieS w a.an i.needs
  segs : HasBy LieG w a.ag i.segs
  syms : HasBy LieY w a.ay i.syms
  rels : HasBy LieR w a.ar i.rels
def cellsI (a : At) (i : Im) : Array Value := #[.string i.name, .slice a.an i.needs.length a.cn, .slice a.ag i.segs.length a.cg, .slice a.ay i.syms.length a.cy, .slice a.ar i.rels.length a.cr, .int .i64 i.entry]

theorem below_cell {w w' : World} (hb : Below w.heap.size w w') {b o : Nat} (h : b < w.heap.size) : w'.cell? ⟨b, o, none⟩ = w.cell? ⟨b, o, none⟩ := hb.cell (p := ⟨b, o, none⟩) h
theorem HasBy.below {α : Type} {lie : World → Nat → Nat → List α → Prop} (hlie : ∀ {w w' : World} {b off : Nat} {l : List α}, Below w.heap.size w w' → b < w.heap.size → lie w b off l → lie w' b off l)
    {w w' : World} {ao : Option Addr} {l : List α} (h : HasBy lie w ao l) (hb : Below w.heap.size w w') : HasBy lie w' ao l := fun hl => by
  obtain ⟨b, off, e, hlt, hh⟩ := h hl
  exact ⟨b, off, e, Nat.lt_of_lt_of_le hlt hb.size, hlie hb hlt hh⟩
theorem lieS {w w' : World} {b off : Nat} {l : List ByteArray} (hb : Below w.heap.size w w') (hlt : b < w.heap.size) (h : LieS w b off l) : LieS w' b off l := fun i hi => (below_cell hb hlt).trans (h i hi)
theorem lieG {w w' : World} {b off : Nat} {l : List Sg} (hb : Below w.heap.size w w') (hlt : b < w.heap.size) (h : LieG w b off l) : LieG w' b off l := fun i hi => by
  obtain ⟨c0, c1, c2, c3, c4⟩ := h i hi
  exact ⟨(below_cell hb hlt).trans c0, (below_cell hb hlt).trans c1, (below_cell hb hlt).trans c2, (below_cell hb hlt).trans c3, (below_cell hb hlt).trans c4⟩
theorem lieY {w w' : World} {b off : Nat} {l : List Sy} (hb : Below w.heap.size w w') (hlt : b < w.heap.size) (h : LieY w b off l) : LieY w' b off l := fun i hi => by
  obtain ⟨c0, c1⟩ := h i hi
  exact ⟨(below_cell hb hlt).trans c0, (below_cell hb hlt).trans c1⟩
theorem lieR {w w' : World} {b off : Nat} {l : List Rl} (hb : Below w.heap.size w w') (hlt : b < w.heap.size) (h : LieR w b off l) : LieR w' b off l := fun i hi => by
  obtain ⟨c0, c1, c2⟩ := h i hi
  exact ⟨(below_cell hb hlt).trans c0, (below_cell hb hlt).trans c1, (below_cell hb hlt).trans c2⟩
theorem HasIm.below {w w' : World} {a : At} {i : Im} (h : HasIm w a i) (hb : Below w.heap.size w w') : HasIm w' a i :=
  ⟨HasBy.below (lie := LieS) (fun hb hlt h => lieS hb hlt h) h.needs hb, HasBy.below (lie := LieG) (fun hb hlt h => lieG hb hlt h) h.segs hb, HasBy.below (lie := LieY) (fun hb hlt h => lieY hb hlt h) h.syms hb, HasBy.below (lie := LieR) (fun hb hlt h => lieR hb hlt h) h.rels hb⟩
end Go.Proofs.Ytafdgjpmhofinaa.M
