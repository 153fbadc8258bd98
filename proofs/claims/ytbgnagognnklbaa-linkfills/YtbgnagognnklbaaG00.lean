import Derived.WalkKit
import Derived.Below
import Derived.Lib.Strings
/- Images as plain Lean data, and what Check says of them; no Go in sight. -/
namespace Go.Proofs.Ytbgnagognnklbaa.M
open Go.RowKit
set_option linter.unusedVariables false

structure Sg where
  page : Int
  pages : Int
  data : ByteArray
  wr : Bool
  ex : Bool
structure Sy where
  name : ByteArray
  pos : Int
structure Rl where
  pos : Int
  name : ByteArray
  add : Int
structure Im where
  name : ByteArray
  needs : List ByteArray
  segs : List Sg
  syms : List Sy
  rels : List Rl
  entry : Int

def nil : ByteArray := ⟨#[]⟩
def sg0 : Sg := ⟨0, 0, nil, false, false⟩
def sy0 : Sy := ⟨nil, 0⟩
def rl0 : Rl := ⟨0, nil, 0⟩
def strAt (l : List ByteArray) (i : Nat) : ByteArray := l.getD i nil
def sgAt (l : List Sg) (i : Nat) : Sg := l.getD i sg0
def syAt (l : List Sy) (i : Nat) : Sy := l.getD i sy0
def rlAt (l : List Rl) (i : Nat) : Rl := l.getD i rl0

theorem all_true {α : Type} (p : α → Bool) (d : α) : ∀ l : List α, (∀ i, i < l.length → p (l.getD i d) = true) → l.all p = true
  | [], _ => rfl
  | a :: r, h => by
    have h0 : p a = true := h 0 (by simp)
    have hr := all_true p d r (fun i hi => h (i + 1) (by simpa using hi))
    simp [h0, hr]
theorem all_at {α : Type} (p : α → Bool) (d : α) : ∀ (l : List α) (i : Nat), i < l.length → l.all p = true → p (l.getD i d) = true
  | a :: r, 0, _, h => by simp at h; simpa using h.1
  | a :: r, i + 1, hi, h => by
    simp at h
    have := all_at p d r i (by simpa using hi) (by simpa using h.2)
    simpa using this
theorem all_false {α : Type} (p : α → Bool) (d : α) (l : List α) (i : Nat) (hi : i < l.length) (h : p (l.getD i d) = false) : l.all p = false := by
  cases e : l.all p
  · rfl
  · rw [all_at p d l i hi e] at h; cases h

/-- a sign of a name -/
def signB (n : Int) : Bool := decide (97 ≤ n ∧ n ≤ 122) || (decide (48 ≤ n ∧ n ≤ 57) || decide (n = 95))
def nameB (s : ByteArray) : Bool := decide (1 ≤ s.size ∧ s.size ≤ 12) && s.data.toList.all (fun c => signB c.toNat)

theorem name_at (s : ByteArray) (k : Nat) (h : k < s.size) : s.data.toList.getD k 0 = s[k] := by
  have h' : k < s.data.toList.length := by rw [← Lib.size_eq]; exact h
  rw [List.getD_eq_getElem?_getD, List.getElem?_eq_getElem h']
  rfl
theorem name_yes (s : ByteArray) (h1 : 1 ≤ s.size) (h2 : s.size ≤ 12) (h : ∀ k (hk : k < s.size), signB s[k].toNat = true) : nameB s = true := by
  unfold nameB
  rw [decide_eq_true ⟨h1, h2⟩, Bool.true_and]
  refine all_true _ 0 _ (fun i hi => ?_)
  have hi' : i < s.size := by rw [Lib.size_eq]; exact hi
  rw [name_at s i hi']
  exact h i hi'
theorem name_no (s : ByteArray) (k : Nat) (hk : k < s.size) (h : signB s[k].toNat = false) : nameB s = false := by
  unfold nameB
  rw [all_false _ 0 s.data.toList k (by rw [← Lib.size_eq]; exact hk) (by rw [name_at s k hk]; exact h), Bool.and_false]
theorem name_len (s : ByteArray) (h : ¬ (1 ≤ s.size ∧ s.size ≤ 12)) : nameB s = false := by
  unfold nameB
  rw [decide_eq_false h, Bool.false_and]

def relNameB (r : Rl) : Bool := decide (r.name.size = 0) || nameB r.name
def namesB (i : Im) : Bool := nameB i.name && (i.needs.all nameB && (i.syms.all (fun y => nameB y.name) && i.rels.all relNameB))

def countsB (i : Im) : Bool := decide (1 ≤ i.segs.length ∧ i.segs.length ≤ 6 ∧ i.needs.length ≤ 4 ∧ i.syms.length ≤ 12 ∧ i.rels.length ≤ 16)
def rangeB (s : Sg) : Bool := decide (0 ≤ s.page ∧ 1 ≤ s.pages ∧ s.page + s.pages ≤ 255 ∧ (s.data.size : Int) ≤ s.pages * 16)
def rangesB (i : Im) : Bool := i.segs.all rangeB
def overAt (l : List Sg) (k : Nat) : Bool := k == 0 || decide ((sgAt l (k - 1)).page + (sgAt l (k - 1)).pages ≤ (sgAt l k).page)
def overTo (l : List Sg) : Nat → Bool
  | 0 => true
  | k + 1 => overTo l k && overAt l k
/-- no segment lies over the one ahead -/
def apartB (l : List Sg) : Bool := overTo l l.length
def onceTo (l : List ByteArray) : Nat → Bool
  | 0 => true
  | k + 1 => onceTo l k && !(l.take k).contains (strAt l k)
/-- no name stands twice -/
def onceB (l : List ByteArray) : Bool := onceTo l l.length
def thereB (i : Im) : Bool := apartB i.segs && (onceB i.needs && onceB (i.syms.map (·.name)))
def inSeg (s : Sg) (a : Int) : Bool := decide (s.page * 16 ≤ a ∧ a < (s.page + s.pages) * 16)
def segIn : List Sg → Int → Option Sg
  | [], _ => none
  | s :: r, a => if inSeg s a then some s else segIn r a
def placedB (l : List Sg) (a : Int) : Bool := (segIn l a).isSome
def wholeB (l : List Sg) (a : Int) : Bool := placedB l a && (placedB l (a + 1) && (placedB l (a + 2) && (placedB l (a + 3) && (placedB l (a + 4) && (placedB l (a + 5) && (placedB l (a + 6) && placedB l (a + 7)))))))
def relAt (i : Im) (k : Nat) : Bool := (k == 0 || decide ((rlAt i.rels (k - 1)).pos + 8 ≤ (rlAt i.rels k).pos)) && wholeB i.segs (rlAt i.rels k).pos
def relsTo (i : Im) : Nat → Bool
  | 0 => true
  | k + 1 => relsTo i k && relAt i k
def entryB (i : Im) : Bool := match segIn i.segs i.entry with
  | some s => s.ex && decide (i.entry % 8 = 0)
  | none => false
def placesB (i : Im) : Bool := i.syms.all (fun y => placedB i.segs y.pos) && (relsTo i i.rels.length && entryB i)
/-- what Check answers -/
def chkN (i : Im) : Int := if !namesB i then 4 else if !countsB i then 2 else if !rangesB i then 3 else if !thereB i then 5 else if !placesB i then 6 else 0

/-- the cells lie in block b of w, from off on -/
def LieS (w : World) (b off : Nat) (l : List ByteArray) : Prop := ∀ i, i < l.length → w.cell? ⟨b, off + i, none⟩ = some (.string (strAt l i))
def LieG (w : World) (b off : Nat) (l : List Sg) : Prop := ∀ i, i < l.length →
  w.cell? ⟨b, off + i * 5, none⟩ = some (.int .i64 (sgAt l i).page) ∧ w.cell? ⟨b, off + i * 5 + 1, none⟩ = some (.int .i64 (sgAt l i).pages) ∧
  w.cell? ⟨b, off + i * 5 + 2, none⟩ = some (.string (sgAt l i).data) ∧ w.cell? ⟨b, off + i * 5 + 3, none⟩ = some (.bool (sgAt l i).wr) ∧ w.cell? ⟨b, off + i * 5 + 4, none⟩ = some (.bool (sgAt l i).ex)
def LieY (w : World) (b off : Nat) (l : List Sy) : Prop := ∀ i, i < l.length →
  w.cell? ⟨b, off + i * 2, none⟩ = some (.string (syAt l i).name) ∧ w.cell? ⟨b, off + i * 2 + 1, none⟩ = some (.int .i64 (syAt l i).pos)
def LieR (w : World) (b off : Nat) (l : List Rl) : Prop := ∀ i, i < l.length →
  w.cell? ⟨b, off + i * 3, none⟩ = some (.int .i64 (rlAt l i).pos) ∧ w.cell? ⟨b, off + i * 3 + 1, none⟩ = some (.string (rlAt l i).name) ∧ w.cell? ⟨b, off + i * 3 + 2, none⟩ = some (.int .i64 (rlAt l i).add)

/-- numbers that an int can hold, and lengths that memory can -/
def I64 (n : Int) : Prop := -9223372036854775808 ≤ n ∧ n ≤ 9223372036854775807
def Short (n : Nat) : Prop := n ≤ 140737488351232
def FitG (s : Sg) : Prop := I64 s.page ∧ I64 s.pages ∧ Short s.data.size
def FitY (s : Sy) : Prop := Short s.name.size ∧ I64 s.pos
def FitR (s : Rl) : Prop := I64 s.pos ∧ Short s.name.size ∧ I64 s.add
structure Fit (i : Im) : Prop where
  name : Short i.name.size
  needs : Short i.needs.length
  need : ∀ k, k < i.needs.length → Short (strAt i.needs k).size
  segs : Short i.segs.length
  seg : ∀ k, k < i.segs.length → FitG (sgAt i.segs k)
  syms : Short i.syms.length
  sym : ∀ k, k < i.syms.length → FitY (syAt i.syms k)
  rels : Short i.rels.length
  rel : ∀ k, k < i.rels.length → FitR (rlAt i.rels k)
  entry : I64 i.entry

/-- a slice that holds the list -/
def HasBy {α : Type} (lie : World → Nat → Nat → List α → Prop) (w : World) (ao : Option Addr) (l : List α) : Prop := 0 < l.length → ∃ b off, ao = some ⟨b, off, none⟩ ∧ b < w.heap.size ∧ lie w b off l
/-- where an image's lists lie -/
structure At where
  an : Option Addr
  cn : Nat
  ag : Option Addr
  cg : Nat
  ay : Option Addr
  cy : Nat
  ar : Option Addr
  cr : Nat
structure HasIm (w : World) (a : At) (i : Im) : Prop where
  needs : HasBy LieS w a.an i.needs
  segs : HasBy LieG w a.ag i.segs
  syms : HasBy LieY w a.ay i.syms
  rels : HasBy LieR w a.ar i.rels
def cellsI (a : At) (i : Im) : Array Value := #[.string i.name, .slice a.an i.needs.length a.cn, .slice a.ag i.segs.length a.cg, .slice a.ay i.syms.length a.cy, .slice a.ar i.rels.length a.cr, .int .i64 i.entry]

theorem below_cell {w w' : World} (hb : Below w.heap.size w w') {b o : Nat} (h : b < w.heap.size) : w'.cell? ⟨b, o, none⟩ = w.cell? ⟨b, o, none⟩ := hb.cell (p := ⟨b, o, none⟩) h
theorem HasBy.below {α : Type} {lie : World → Nat → Nat → List α → Prop} (hlie : ∀ {w w' : World} {b off : Nat} {l : List α}, Below w.heap.size w w' → b < w.heap.size → lie w b off l → lie w' b off l)
    {w w' : World} {ao : Option Addr} {l : List α} (h : HasBy lie w ao l) (hb : Below w.heap.size w w') : HasBy lie w' ao l := fun hl => by
  obtain ⟨b, off, e, hlt, hh⟩ := h hl
  exact ⟨b, off, e, Nat.lt_of_lt_of_le hlt hb.size, hlie hb hlt hh⟩
theorem lieS {w w' : World} {b off : Nat} {l : List ByteArray} (hb : Below w.heap.size w w') (hlt : b < w.heap.size) (h : LieS w b off l) : LieS w' b off l := fun i hi => (below_cell hb hlt).trans (h i hi)
theorem lieG {w w' : World} {b off : Nat} {l : List Sg} (hb : Below w.heap.size w w') (hlt : b < w.heap.size) (h : LieG w b off l) : LieG w' b off l := fun i hi => by
  obtain ⟨c0, c1, c2, c3, c4⟩ := h i hi
  exact ⟨(below_cell hb hlt).trans c0, (below_cell hb hlt).trans c1, (below_cell hb hlt).trans c2, (below_cell hb hlt).trans c3, (below_cell hb hlt).trans c4⟩
theorem lieY {w w' : World} {b off : Nat} {l : List Sy} (hb : Below w.heap.size w w') (hlt : b < w.heap.size) (h : LieY w b off l) : LieY w' b off l := fun i hi => by
  obtain ⟨c0, c1⟩ := h i hi
  exact ⟨(below_cell hb hlt).trans c0, (below_cell hb hlt).trans c1⟩
theorem lieR {w w' : World} {b off : Nat} {l : List Rl} (hb : Below w.heap.size w w') (hlt : b < w.heap.size) (h : LieR w b off l) : LieR w' b off l := fun i hi => by
  obtain ⟨c0, c1, c2⟩ := h i hi
  exact ⟨(below_cell hb hlt).trans c0, (below_cell hb hlt).trans c1, (below_cell hb hlt).trans c2⟩
theorem HasIm.below {w w' : World} {a : At} {i : Im} (h : HasIm w a i) (hb : Below w.heap.size w w') : HasIm w' a i :=
  ⟨HasBy.below (lie := LieS) (fun hb hlt h => lieS hb hlt h) h.needs hb, HasBy.below (lie := LieG) (fun hb hlt h => lieG hb hlt h) h.segs hb, HasBy.below (lie := LieY) (fun hb hlt h => lieY hb hlt h) h.syms hb, HasBy.below (lie := LieR) (fun hb hlt h => lieR hb hlt h) h.rels hb⟩
end Go.Proofs.Ytbgnagognnklbaa.M
/- Plain notions of areas; no Go in sight. -/
namespace Go.Proofs.Ytbgnagognnklbaa.AM
open Go.RowKit
set_option linter.unusedVariables false
set_option maxRecDepth 100000

/-- an area -/
structure Ar where
  page : Int
  pages : Int
  prot : Int
  zero : Bool

def Ar.last0 (a : Ar) : Int := a.page + a.pages
def nil : Ar := ⟨0, 0, 0, false⟩
/-- element i of a list of areas -/
def at_ (l : List Ar) (i : Nat) : Ar := l.getD i nil

def pagesB (p n : Int) : Bool := decide (1 ≤ p ∧ 1 ≤ n ∧ n ≤ 256 - p)
def protB (p : Int) : Bool := decide (0 ≤ p ∧ p ≤ 3)
/-- may b follow a? (their numbers are as pagesB says) -/
def followB (a b : Ar) : Bool := if b.page = a.last0 then (b.prot != a.prot || b.zero != a.zero) else decide (a.last0 < b.page)

/-- the cells of the areas l lie in block b of w, from off on -/
def Lie (w : World) (b off : Nat) (l : List Ar) : Prop := ∀ i, i < l.length →
  w.cell? ⟨b, off + i * 4, none⟩ = some (.int .i64 (at_ l i).page) ∧ w.cell? ⟨b, off + i * 4 + 1, none⟩ = some (.int .i64 (at_ l i).pages) ∧
  w.cell? ⟨b, off + i * 4 + 2, none⟩ = some (.int .i64 (at_ l i).prot) ∧ w.cell? ⟨b, off + i * 4 + 3, none⟩ = some (.bool (at_ l i).zero)

/-- numbers that an int can hold -/
def Fits (a : Ar) : Prop := (-9223372036854775808 ≤ a.page ∧ a.page ≤ 9223372036854775807) ∧ (-9223372036854775808 ≤ a.pages ∧ a.pages ≤ 9223372036854775807) ∧ (-9223372036854775808 ≤ a.prot ∧ a.prot ≤ 9223372036854775807)

/-- is element i right, and does it follow the one ahead of it? -/
def okAt (l : List Ar) (i : Nat) : Bool := pagesB (at_ l i).page (at_ l i).pages && protB (at_ l i).prot && (i == 0 || followB (at_ l (i - 1)) (at_ l i))
def goodTo (l : List Ar) : Nat → Bool
  | 0 => true
  | k + 1 => goodTo l k && okAt l k
def good (l : List Ar) : Bool := goodTo l l.length
/-- what Check answers -/
def checkN (l : List Ar) : Int := if 255 < l.length then 2 else if good l then 0 else 1

theorem goodTo_false (l : List Ar) : ∀ (k n : Nat), k ≤ n → goodTo l k = false → goodTo l n = false
  | k, 0, h, hk => by obtain rfl : k = 0 := by omega
                      exact hk
  | k, n + 1, h, hk => by
    by_cases e : k = n + 1
    · subst e; exact hk
    · simp [goodTo, goodTo_false l k n (by omega) hk]
theorem goodTo_ok (l : List Ar) : ∀ (n : Nat), goodTo l n = true → ∀ i, i < n → okAt l i = true
  | 0, _, i, hi => by omega
  | n + 1, h, i, hi => by
    simp only [goodTo, Bool.and_eq_true] at h
    by_cases e : i = n
    · subst e; exact h.2
    · exact goodTo_ok l n h.1 i (by omega)
theorem Lie.lt {w : World} {b off : Nat} {l : List Ar} (h : Lie w b off l) (i : Nat) (hi : i < l.length) : b < w.heap.size :=
  World.block_lt_of_cell? w _ (h i hi).1
theorem Lie.below {w w' : World} {b off : Nat} {l : List Ar} (h : Lie w b off l) (hb : Below w.heap.size w w') : Lie w' b off l := fun i hi => by
  have hlt := h.lt i hi
  obtain ⟨h0, h1, h2, h3⟩ := h i hi
  exact ⟨(hb.cell (p := ⟨b, _, none⟩) hlt).trans h0, (hb.cell (p := ⟨b, _, none⟩) hlt).trans h1, (hb.cell (p := ⟨b, _, none⟩) hlt).trans h2, (hb.cell (p := ⟨b, _, none⟩) hlt).trans h3⟩

theorem bad_at (l : List Ar) (k : Nat) (hk : k < l.length) (h : okAt l k = false) : good l = false :=
  goodTo_false l (k + 1) l.length (by omega) (by simp [goodTo, h])
theorem ok_step (l : List Ar) (k : Nat) (h : goodTo l k = true) (h' : okAt l k = true) : goodTo l (k + 1) = true := by simp [goodTo, h, h']

/-- has the area that page? -/
def hit (a : Ar) (p : Int) : Bool := decide (a.page ≤ p ∧ p < a.last0)
def findFrom : List Ar → Int → Ar × Bool
  | [], _ => (nil, false)
  | a :: r, p => if hit a p then (a, true) else findFrom r p
/-- what Find answers -/
def findN (l : List Ar) (p : Int) : Ar × Bool := if checkN l = 0 then findFrom l p else (nil, false)
def sumTo (l : List Ar) : Nat → Int
  | 0 => 0
  | k + 1 => sumTo l k + (at_ l k).pages
/-- what Total answers -/
def totalN (l : List Ar) : Int := if checkN l = 0 then sumTo l l.length else 0

theorem findFrom_none : ∀ (l : List Ar) (p : Int), (∀ i, i < l.length → hit (at_ l i) p = false) → findFrom l p = (nil, false)
  | [], _, _ => rfl
  | a :: r, p, h => by
    have h0 : hit a p = false := h 0 (by simp)
    have hr : ∀ i, i < r.length → hit (at_ r i) p = false := fun i hi => h (i + 1) (by simpa using hi)
    simp [findFrom, h0, findFrom_none r p hr]
theorem findFrom_at : ∀ (l : List Ar) (p : Int) (k : Nat), k < l.length → (∀ i, i < k → hit (at_ l i) p = false) → hit (at_ l k) p = true → findFrom l p = (at_ l k, true)
  | [], _, k, hk, _, _ => by simp at hk
  | a :: r, p, 0, hk, _, h1 => by
    have h0 : hit a p = true := h1
    simp [findFrom, h0, at_]
  | a :: r, p, k + 1, hk, h, h1 => by
    have h0 : hit a p = false := h 0 (by omega)
    have hr := findFrom_at r p k (by simpa using hk) (fun i hi => h (i + 1) (by omega)) h1
    simp [findFrom, h0, hr, at_]

theorem good_pages (l : List Ar) (h : checkN l = 0) (i : Nat) (hi : i < l.length) : okAt l i = true := by
  unfold checkN at h
  split at h
  · simp at h
  · split at h
    · exact goodTo_ok l l.length (by assumption) i hi
    · simp at h
theorem good_len (l : List Ar) (h : checkN l = 0) : l.length ≤ 255 := by
  unfold checkN at h
  split at h
  · simp at h
  · omega
theorem okAt_pages (l : List Ar) (i : Nat) (h : okAt l i = true) : 1 ≤ (at_ l i).page ∧ 1 ≤ (at_ l i).pages ∧ (at_ l i).pages ≤ 256 - (at_ l i).page ∧ 0 ≤ (at_ l i).prot ∧ (at_ l i).prot ≤ 3 := by
  simp only [okAt, Bool.and_eq_true, pagesB, protB, decide_eq_true_eq] at h
  exact ⟨h.1.1.1, h.1.1.2.1, h.1.1.2.2, h.1.2.1, h.1.2.2⟩
theorem sumTo_bd (l : List Ar) (h : checkN l = 0) : ∀ k, k ≤ l.length → 0 ≤ sumTo l k ∧ sumTo l k ≤ 255 * k
  | 0, _ => by simp [sumTo]
  | k + 1, hk => by
    have ih := sumTo_bd l h k (by omega)
    have ho := okAt_pages l k (good_pages l h k (by omega))
    simp only [sumTo]
    omega

end Go.Proofs.Ytbgnagognnklbaa.AM
