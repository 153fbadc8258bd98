/- Plain notions: pages that are turned; no Go in sight. -/
import Derived.Test.YtgiohagjanodmaaM3
namespace Go.Proofs.Ytgiohagjanodmaa.M
open Go.RowKit
set_option linter.unusedVariables false

/-- the pages from 'page' on, up to t (t itself not), have been turned -/
def turned (F : Nat → St) (how : St → St × Int) (page t : Int) : Nat → St := fun k => if page ≤ (k : Int) ∧ (k : Int) < t then (how (F k)).1 else F k
def errFrom (F : Nat → St) (how : St → St × Int) : Nat → Nat → Int
  | _, 0 => 0
  | n, c + 1 => if (how (F n)).2 = 0 then errFrom F how (n + 1) c else (how (F n)).2
/-- what turn answers -/
def turnN (l : List Ar) (page pages prot : Int) (how : St → St × Int) : List Ar × Int :=
  if checkN l = 0 then
    if pagesB page pages && protB prot then
      if errFrom (spreadN l) how page.toNat pages.toNat = 0 then (gatherN (turned (spreadN l) how page (page + pages)), 0)
      else ([], errFrom (spreadN l) how page.toNat pages.toNat)
    else ([], 3)
  else ([], checkN l)

theorem turned_begin (F : Nat → St) (how : St → St × Int) (page : Int) : turned F how page page = F := by
  funext k; simp only [turned]; rw [if_neg (by omega)]
theorem turned_at (F : Nat → St) (how : St → St × Int) (page : Int) (n : Nat) : turned F how page n n = F n := by
  simp only [turned]; rw [if_neg (by omega)]
theorem turned_step (F : Nat → St) (how : St → St × Int) (page : Int) (n : Nat) (h : page ≤ (n : Int)) : upd (turned F how page n) n (how (F n)).1 = turned F how page ((n : Int) + 1) := by
  funext k
  simp only [upd, turned]
  by_cases e : k = n
  · subst e; rw [if_pos rfl, if_pos ⟨h, by omega⟩]
  · rw [if_neg e]
    by_cases c : page ≤ (k : Int) ∧ (k : Int) < n
    · rw [if_pos c, if_pos ⟨c.1, by omega⟩]
    · rw [if_neg c, if_neg (by omega)]
theorem errFrom_zero (F : Nat → St) (how : St → St × Int) : ∀ (c n : Nat), (∀ k, n ≤ k → k < n + c → (how (F k)).2 = 0) → errFrom F how n c = 0
  | 0, _, _ => rfl
  | c + 1, n, h => by
    simp only [errFrom]
    rw [if_pos (h n (by omega) (by omega))]
    exact errFrom_zero F how c (n + 1) (fun k h1 h2 => h k (by omega) (by omega))
theorem errFrom_at (F : Nat → St) (how : St → St × Int) : ∀ (c n m : Nat), n ≤ m → m < n + c → (∀ k, n ≤ k → k < m → (how (F k)).2 = 0) → (how (F m)).2 ≠ 0 → errFrom F how n c = (how (F m)).2
  | 0, n, m, h1, h2, _, _ => by omega
  | c + 1, n, m, h1, h2, h, hm => by
    simp only [errFrom]
    by_cases e : n = m
    · subst e; rw [if_neg hm]
    · rw [if_pos (h n (by omega) (by omega))]
      exact errFrom_at F how c (n + 1) m (by omega) (by omega) (fun k h1 h2 => h k (by omega) h2) hm
theorem pagesB_iff (p n : Int) : pagesB p n = true ↔ 1 ≤ p ∧ 1 ≤ n ∧ n ≤ 256 - p := by simp [pagesB]
end Go.Proofs.Ytgiohagjanodmaa.M
