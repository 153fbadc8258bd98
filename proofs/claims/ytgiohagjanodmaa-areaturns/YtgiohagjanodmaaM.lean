/- Plain notions of areas; no Go in sight. -/
import Derived.WalkKit
namespace Go.Proofs.Ytgiohagjanodmaa.M
open Go.RowKit
set_option linter.unusedVariables false

/-- an area -/
structure Ar where
  page : Int
  pages : Int
  prot : Int
  zero : Bool

def Ar.last0 (a : Ar) : Int := a.page + a.pages
def nil : Ar := ⟨0, 0, 0, false⟩
/-- element i of a list of areas -/
def at_ (l : List Ar) (i : Nat) : Ar := l.getD i nil

def pagesB (p n : Int) : Bool := decide (1 ≤ p ∧ 1 ≤ n ∧ n ≤ 256 - p)
def protB (p : Int) : Bool := decide (0 ≤ p ∧ p ≤ 3)
/-- may b follow a? (their numbers are as pagesB says) -/
def followB (a b : Ar) : Bool := if b.page = a.last0 then (b.prot != a.prot || b.zero != a.zero) else decide (a.last0 < b.page)

/-- the cells of the areas l lie in block b of w, from off on -/
def Lie (w : World) (b off : Nat) (l : List Ar) : Prop := ∀ i, i < l.length →
  w.cell? ⟨b, off + i * 4, none⟩ = some (.int .i64 (at_ l i).page) ∧ w.cell? ⟨b, off + i * 4 + 1, none⟩ = some (.int .i64 (at_ l i).pages) ∧
  w.cell? ⟨b, off + i * 4 + 2, none⟩ = some (.int .i64 (at_ l i).prot) ∧ w.cell? ⟨b, off + i * 4 + 3, none⟩ = some (.bool (at_ l i).zero)

/-- numbers that an int can hold -/
def Fits (a : Ar) : Prop := (-9223372036854775808 ≤ a.page ∧ a.page ≤ 9223372036854775807) ∧ (-9223372036854775808 ≤ a.pages ∧ a.pages ≤ 9223372036854775807) ∧ (-9223372036854775808 ≤ a.prot ∧ a.prot ≤ 9223372036854775807)

/-- is element i right, and does it follow the one ahead of it? -/
def okAt (l : List Ar) (i : Nat) : Bool := pagesB (at_ l i).page (at_ l i).pages && protB (at_ l i).prot && (i == 0 || followB (at_ l (i - 1)) (at_ l i))
def goodTo (l : List Ar) : Nat → Bool
  | 0 => true
  | k + 1 => goodTo l k && okAt l k
def good (l : List Ar) : Bool := goodTo l l.length
/-- what Check answers -/
def checkN (l : List Ar) : Int := if 255 < l.length then 2 else if good l then 0 else 1

theorem goodTo_false (l : List Ar) : ∀ (k n : Nat), k ≤ n → goodTo l k = false → goodTo l n = false
  | k, 0, h, hk => by obtain rfl : k = 0 := by omega
                      exact hk
  | k, n + 1, h, hk => by
    by_cases e : k = n + 1
    · subst e; exact hk
    · simp [goodTo, goodTo_false l k n (by omega) hk]
theorem goodTo_ok (l : List Ar) : ∀ (n : Nat), goodTo l n = true → ∀ i, i < n → okAt l i = true
  | 0, _, i, hi => by omega
  | n + 1, h, i, hi => by
    simp only [goodTo, Bool.and_eq_true] at h
    by_cases e : i = n
    · subst e; exact h.2
    · exact goodTo_ok l n h.1 i (by omega)
theorem Lie.lt {w : World} {b off : Nat} {l : List Ar} (h : Lie w b off l) (i : Nat) (hi : i < l.length) : b < w.heap.size :=
  World.block_lt_of_cell? w _ (h i hi).1
theorem Lie.below {w w' : World} {b off : Nat} {l : List Ar} (h : Lie w b off l) (hb : Below w.heap.size w w') : Lie w' b off l := fun i hi => by
  have hlt := h.lt i hi
  obtain ⟨h0, h1, h2, h3⟩ := h i hi
  exact ⟨(hb.cell (p := ⟨b, _, none⟩) hlt).trans h0, (hb.cell (p := ⟨b, _, none⟩) hlt).trans h1, (hb.cell (p := ⟨b, _, none⟩) hlt).trans h2, (hb.cell (p := ⟨b, _, none⟩) hlt).trans h3⟩

theorem bad_at (l : List Ar) (k : Nat) (hk : k < l.length) (h : okAt l k = false) : good l = false :=
  goodTo_false l (k + 1) l.length (by omega) (by simp [goodTo, h])
theorem ok_step (l : List Ar) (k : Nat) (h : goodTo l k = true) (h' : okAt l k = true) : goodTo l (k + 1) = true := by simp [goodTo, h, h']

/-- has the area that page? -/
def hit (a : Ar) (p : Int) : Bool := decide (a.page ≤ p ∧ p < a.last0)
def findFrom : List Ar → Int → Ar × Bool
  | [], _ => (nil, false)
  | a :: r, p => if hit a p then (a, true) else findFrom r p
/-- what Find answers -/
def findN (l : List Ar) (p : Int) : Ar × Bool := if checkN l = 0 then findFrom l p else (nil, false)
def sumTo (l : List Ar) : Nat → Int
  | 0 => 0
  | k + 1 => sumTo l k + (at_ l k).pages
/-- what Total answers -/
def totalN (l : List Ar) : Int := if checkN l = 0 then sumTo l l.length else 0

theorem findFrom_none : ∀ (l : List Ar) (p : Int), (∀ i, i < l.length → hit (at_ l i) p = false) → findFrom l p = (nil, false)
  | [], _, _ => rfl
  | a :: r, p, h => by
    have h0 : hit a p = false := h 0 (by simp)
    have hr : ∀ i, i < r.length → hit (at_ r i) p = false := fun i hi => h (i + 1) (by simpa using hi)
    simp [findFrom, h0, findFrom_none r p hr]
theorem findFrom_at : ∀ (l : List Ar) (p : Int) (k : Nat), k < l.length → (∀ i, i < k → hit (at_ l i) p = false) → hit (at_ l k) p = true → findFrom l p = (at_ l k, true)
  | [], _, k, hk, _, _ => by simp at hk
  | a :: r, p, 0, hk, _, h1 => by
    have h0 : hit a p = true := h1
    simp [findFrom, h0, at_]
  | a :: r, p, k + 1, hk, h, h1 => by
    have h0 : hit a p = false := h 0 (by omega)
    have hr := findFrom_at r p k (by simpa using hk) (fun i hi => h (i + 1) (by omega)) h1
    simp [findFrom, h0, hr, at_]

theorem good_pages (l : List Ar) (h : checkN l = 0) (i : Nat) (hi : i < l.length) : okAt l i = true := by
  unfold checkN at h
  split at h
  · simp at h
  · split at h
    · exact goodTo_ok l l.length (by assumption) i hi
    · simp at h
theorem good_len (l : List Ar) (h : checkN l = 0) : l.length ≤ 255 := by
  unfold checkN at h
  split at h
  · simp at h
  · omega
theorem okAt_pages (l : List Ar) (i : Nat) (h : okAt l i = true) : 1 ≤ (at_ l i).page ∧ 1 ≤ (at_ l i).pages ∧ (at_ l i).pages ≤ 256 - (at_ l i).page ∧ 0 ≤ (at_ l i).prot ∧ (at_ l i).prot ≤ 3 := by
  simp only [okAt, Bool.and_eq_true, pagesB, protB, decide_eq_true_eq] at h
  exact ⟨h.1.1.1, h.1.1.2.1, h.1.1.2.2, h.1.2.1, h.1.2.2⟩
theorem sumTo_bd (l : List Ar) (h : checkN l = 0) : ∀ k, k ≤ l.length → 0 ≤ sumTo l k ∧ sumTo l k ≤ 255 * k
  | 0, _ => by simp [sumTo]
  | k + 1, hk => by
    have ih := sumTo_bd l h k (by omega)
    have ho := okAt_pages l k (good_pages l h k (by omega))
    simp only [sumTo]
    omega

end Go.Proofs.Ytgiohagjanodmaa.M
