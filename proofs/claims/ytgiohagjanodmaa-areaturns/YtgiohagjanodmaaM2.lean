/- Plain notions: what one page has of its area; the cells of all pages; no Go in sight. -/
import Derived.Test.YtgiohagjanodmaaM
namespace Go.Proofs.Ytgiohagjanodmaa.M
open Go.RowKit
set_option linter.unusedVariables false

structure St where
  m : Bool
  p : Int
  z : Bool
def off : St := ⟨false, 0, false⟩
def three (s : St) : List Value := [.bool s.m, .int .i64 s.p, .bool s.z]
def rows (F : Nat → St) : Nat → List Value
  | 0 => []
  | m + 1 => rows F m ++ three (F m)
/-- the cells of all 256 pages -/
def cellsL (F : Nat → St) : Array Value := (rows F 256).toArray
def upd (F : Nat → St) (n : Nat) (s : St) : Nat → St := fun k => if k = n then s else F k

theorem rows_length (F : Nat → St) : ∀ m, (rows F m).length = m * 3
  | 0 => rfl
  | m + 1 => by simp [rows, rows_length F m, three]; omega
theorem cellsL_size (F : Nat → St) : (cellsL F).size = 768 := by simp [cellsL, rows_length]
theorem rows_get (F : Nat → St) (n j : Nat) (hj : j < 3) : ∀ m, n < m → (rows F m)[n * 3 + j]? = (three (F n))[j]?
  | 0, h => by omega
  | m + 1, h => by
    simp only [rows]
    by_cases e : n = m
    · subst e
      rw [List.getElem?_append_right (by rw [rows_length]; omega), rows_length, show n * 3 + j - n * 3 = j from by omega]
    · rw [List.getElem?_append_left (by rw [rows_length]; omega)]
      exact rows_get F n j hj m (by omega)
theorem cellsL_get (F : Nat → St) (n j : Nat) (hn : n < 256) (hj : j < 3) : (cellsL F)[n * 3 + j]? = (three (F n))[j]? := by
  unfold cellsL
  rw [List.getElem?_toArray]
  exact rows_get F n j hj 256 hn
theorem cellsL_get0 (F : Nat → St) (n : Nat) (hn : n < 256) : (cellsL F)[n * 3]? = some (.bool (F n).m) := cellsL_get F n 0 hn (by omega)
theorem cellsL_get1 (F : Nat → St) (n : Nat) (hn : n < 256) : (cellsL F)[n * 3 + 1]? = some (.int .i64 (F n).p) := cellsL_get F n 1 hn (by omega)
theorem cellsL_get2 (F : Nat → St) (n : Nat) (hn : n < 256) : (cellsL F)[n * 3 + 2]? = some (.bool (F n).z) := cellsL_get F n 2 hn (by omega)

theorem rows_congr (F G : Nat → St) : ∀ m, (∀ k, k < m → F k = G k) → rows F m = rows G m
  | 0, _ => rfl
  | m + 1, h => by simp only [rows]; rw [rows_congr F G m (fun k hk => h k (by omega)), h m (by omega)]
theorem rows_set (F : Nat → St) (n : Nat) (s : St) : ∀ m, n < m → (((rows F m).set (n * 3) (.bool s.m)).set (n * 3 + 1) (.int .i64 s.p)).set (n * 3 + 2) (.bool s.z) = rows (upd F n s) m
  | 0, h => by omega
  | m + 1, h => by
    simp only [rows]
    by_cases e : n = m
    · subst e
      rw [List.set_append_right _ _ (by rw [rows_length]; omega), List.set_append_right _ _ (by rw [rows_length]; omega), List.set_append_right _ _ (by rw [rows_length]; omega), rows_length,
        show n * 3 - n * 3 = 0 from by omega, show n * 3 + 1 - n * 3 = 1 from by omega, show n * 3 + 2 - n * 3 = 2 from by omega]
      rw [rows_congr (upd F n s) F n (fun k hk => by simp [upd]; omega)]
      simp [three, upd]
    · rw [List.set_append_left _ _ (by rw [rows_length]; omega), List.set_append_left _ _ (by rw [List.length_set, rows_length]; omega), List.set_append_left _ _ (by rw [List.length_set, List.length_set, rows_length]; omega), rows_set F n s m (by omega)]
      congr 2
      simp [upd]; intro h'; exact absurd h'.symm e
theorem cellsL_set (F : Nat → St) (n : Nat) (s : St) (hn : n < 256) :
    (((cellsL F).setIfInBounds (n * 3) (.bool s.m)).setIfInBounds (n * 3 + 1) (.int .i64 s.p)).setIfInBounds (n * 3 + 2) (.bool s.z) = cellsL (upd F n s) := by
  unfold cellsL
  rw [← rows_set F n s 256 hn]
  simp only [List.setIfInBounds_toArray]
theorem rows_one (F : Nat → St) : ∀ m, ∀ v ∈ rows F m, v.oneCell' = true
  | 0, v, h => by simp [rows] at h
  | m + 1, v, h => by
    simp only [rows, List.mem_append] at h
    rcases h with h | h
    · exact rows_one F m v h
    · simp only [three, List.mem_cons, List.not_mem_nil, or_false] at h
      rcases h with rfl | rfl | rfl <;> rfl
theorem cellsL_one (F : Nat → St) : (cellsL F).all (·.oneCell') = true := by
  rw [Array.all_eq_true_iff_forall_mem]
  intro v hv
  exact rows_one F 256 v (by simpa [cellsL] using hv)
theorem cellsL_congr (F G : Nat → St) (h : ∀ k, k < 256 → F k = G k) : cellsL F = cellsL G := by
  unfold cellsL; rw [rows_congr F G 256 h]

/-- what page n has, the area a having been laid over F up to page t (t itself not) -/
def layTo (F : Nat → St) (a : Ar) (t : Int) : Nat → St := fun n => if a.page ≤ (n : Int) ∧ (n : Int) < t then ⟨true, a.prot, a.zero⟩ else F n
def spreadTo (l : List Ar) : Nat → Nat → St
  | 0 => fun _ => off
  | k + 1 => layTo (spreadTo l k) (at_ l k) (at_ l k).last0
/-- what pages have of the areas l -/
def spreadN (l : List Ar) : Nat → St := spreadTo l l.length

theorem layTo_begin (F : Nat → St) (a : Ar) : layTo F a a.page = F := by
  funext n; simp only [layTo]; rw [if_neg (by omega)]
theorem layTo_step (F : Nat → St) (a : Ar) (n : Nat) (h : a.page ≤ (n : Int)) : upd (layTo F a n) n ⟨true, a.prot, a.zero⟩ = layTo F a ((n : Int) + 1) := by
  funext k
  simp only [upd, layTo]
  by_cases e : k = n
  · subst e; rw [if_pos rfl, if_pos ⟨h, by omega⟩]
  · rw [if_neg e]
    by_cases c : a.page ≤ (k : Int) ∧ (k : Int) < n
    · rw [if_pos c, if_pos ⟨c.1, by omega⟩]
    · rw [if_neg c, if_neg (by omega)]
end Go.Proofs.Ytgiohagjanodmaa.M
