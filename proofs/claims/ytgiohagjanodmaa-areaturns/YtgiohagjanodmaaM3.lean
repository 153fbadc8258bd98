/- Plain notions: pages that are gathered to areas; the cells of a list of areas; no Go in sight. -/
import Derived.Test.YtgiohagjanodmaaM2
import Derived.OwnWalk
namespace Go.Proofs.Ytgiohagjanodmaa.M
open Go.RowKit
set_option linter.unusedVariables false

theorem cellsL_part (F : Nat → St) (k : Nat) (hk : k < 256) : (cellsL F).extract (k * 3) (k * 3 + 3) = #[.bool (F k).m, .int .i64 (F k).p, .bool (F k).z] := by
  apply Array.ext_getElem?
  intro j
  have hs := cellsL_size F
  rw [Array.getElem?_extract, hs]
  match j with
  | 0 => rw [if_pos (by omega)]; exact cellsL_get0 F k hk
  | 1 => rw [if_pos (by omega)]; exact cellsL_get1 F k hk
  | 2 => rw [if_pos (by omega)]; exact cellsL_get2 F k hk
  | j + 3 => rw [if_neg (by omega)]; simp

def lastTo (F : Nat → St) : Nat → St
  | 0 => off
  | k + 1 => F k
def stEq (a b : St) : Bool := a.m == b.m && (a.p == b.p && a.z == b.z)
/-- the last area has one page more -/
def bump (G : List Ar) : List Ar := G.set (G.length - 1) ⟨(at_ G (G.length - 1)).page, (at_ G (G.length - 1)).pages + 1, (at_ G (G.length - 1)).prot, (at_ G (G.length - 1)).zero⟩
def gatherTo (F : Nat → St) : Nat → List Ar
  | 0 => []
  | k + 1 => if (F k).m = false then gatherTo F k else if stEq (F k) (lastTo F k) then bump (gatherTo F k) else gatherTo F k ++ [⟨(k : Int), 1, (F k).p, (F k).z⟩]
/-- the areas of all pages -/
def gatherN (F : Nat → St) : List Ar := gatherTo F 256

def four (a : Ar) : List Value := [.int .i64 a.page, .int .i64 a.pages, .int .i64 a.prot, .bool a.zero]
def areaCells : List Ar → List Value
  | [] => []
  | a :: r => four a ++ areaCells r
theorem areaCells_length : ∀ G : List Ar, (areaCells G).length = G.length * 4
  | [] => rfl
  | a :: r => by simp [areaCells, four, areaCells_length r]; omega
theorem areaCells_append : ∀ G H : List Ar, areaCells (G ++ H) = areaCells G ++ areaCells H
  | [], H => rfl
  | a :: r, H => by simp [areaCells, areaCells_append r H]
theorem areaCells_get : ∀ (G : List Ar) (i j : Nat), i < G.length → j < 4 → (areaCells G)[i * 4 + j]? = (four (at_ G i))[j]?
  | [], i, j, h, _ => by simp at h
  | a :: r, 0, j, h, hj => by
    simp only [areaCells]
    rw [List.getElem?_append_left (by simp [four]; omega)]
    simp [at_]
  | a :: r, i + 1, j, h, hj => by
    simp only [areaCells]
    rw [List.getElem?_append_right (by simp [four]; omega), show (i + 1) * 4 + j - (four a).length = i * 4 + j from by simp [four]; omega, areaCells_get r i j (by simpa using h) hj]
    simp [at_]
theorem areaCells_set : ∀ (G : List Ar) (i : Nat) (n : Int), i < G.length → areaCells (G.set i ⟨(at_ G i).page, n, (at_ G i).prot, (at_ G i).zero⟩) = (areaCells G).set (i * 4 + 1) (.int .i64 n)
  | [], i, n, h => by simp at h
  | a :: r, 0, n, h => by simp [areaCells, four, at_]
  | a :: r, i + 1, n, h => by
    simp only [areaCells, List.set_cons_succ]
    rw [List.set_append_right _ _ (by simp [four]; omega), show (i + 1) * 4 + 1 - (four a).length = i * 4 + 1 from by simp [four]; omega]
    have e := areaCells_set r i n (by simpa using h)
    rw [← e]
    simp [at_]
theorem bump_length (G : List Ar) : (bump G).length = G.length := by simp [bump]
theorem areaCells_one : ∀ (G : List Ar), ∀ v ∈ areaCells G, v.oneCell' = true
  | [], v, h => by simp [areaCells] at h
  | a :: r, v, h => by
    simp only [areaCells, four, List.cons_append, List.nil_append, List.mem_cons] at h
    rcases h with rfl | rfl | rfl | rfl | h
    · rfl
    · rfl
    · rfl
    · rfl
    · exact areaCells_one r v h

theorem at_append_left (G H : List Ar) (i : Nat) (h : i < G.length) : at_ (G ++ H) i = at_ G i := by simp [at_, List.getElem?_append_left h]
theorem at_append_last (G : List Ar) (a : Ar) : at_ (G ++ [a]) G.length = a := by simp [at_]
theorem at_set_same (G : List Ar) (i : Nat) (a : Ar) (h : i < G.length) : at_ (G.set i a) i = a := by simp [at_, h]
theorem at_set_other (G : List Ar) (i j : Nat) (a : Ar) (h : j ≠ i) : at_ (G.set i a) j = at_ G j := by simp [at_, List.getElem?_set_ne (Ne.symm h)]

theorem gather_len (F : Nat → St) : ∀ k, (gatherTo F k).length ≤ k
  | 0 => by simp [gatherTo]
  | k + 1 => by
    have ih := gather_len F k
    simp only [gatherTo]
    split
    · omega
    · split
      · rw [bump_length]; omega
      · simp; omega
/-- behind a mapped page there is an area -/
theorem gather_some (F : Nat → St) : ∀ k, (lastTo F k).m = true → 0 < (gatherTo F k).length
  | 0, h => by simp [lastTo, off] at h
  | k + 1, h => by
    have h' : (F k).m = true := h
    simp only [gatherTo, h']
    rw [if_neg (by simp)]
    split
    · rename_i he
      have hm : (lastTo F k).m = true := by
        simp only [stEq, Bool.and_eq_true, beq_iff_eq] at he
        rw [← he.1]; exact h'
      rw [bump_length]
      exact gather_some F k hm
    · simp
theorem gather_pages (F : Nat → St) : ∀ k, ∀ i, i < (gatherTo F k).length → 1 ≤ (at_ (gatherTo F k) i).pages ∧ (at_ (gatherTo F k) i).pages ≤ k
  | 0, i, h => by simp [gatherTo] at h
  | k + 1, i, h => by
    have ih := gather_pages F k
    simp only [gatherTo] at h ⊢
    split
    · rename_i hm
      rw [if_pos hm] at h
      have := ih i h
      omega
    · rename_i hm
      rw [if_neg hm] at h
      split
      · rename_i he
        rw [if_pos he, bump_length] at h
        by_cases e : i = (gatherTo F k).length - 1
        · rw [e, bump, at_set_same _ _ _ (by omega)]
          have := ih ((gatherTo F k).length - 1) (by omega)
          simp only
          omega
        · rw [bump, at_set_other _ _ _ _ e]
          have := ih i h
          omega
      · rename_i he
        rw [if_neg he] at h
        by_cases e : i < (gatherTo F k).length
        · rw [at_append_left _ _ _ e]
          have := ih i e
          omega
        · obtain rfl : i = (gatherTo F k).length := by simp at h; omega
          rw [at_append_last]
          simp only
          omega
theorem stEq_eq (a b : St) (h : stEq a b = true) : a = b := by
  cases a; cases b
  simp only [stEq, Bool.and_eq_true, beq_iff_eq] at h
  obtain ⟨h1, h2, h3⟩ := h
  subst h1; subst h2; subst h3; rfl
theorem stEq_ne (a b : St) (h : stEq a b = false) : (a.m == b.m) = false ∨ ((a.m == b.m) = true ∧ (a.p == b.p) = false) ∨ ((a.m == b.m) = true ∧ (a.p == b.p) = true ∧ (a.z == b.z) = false) := by
  unfold stEq at h
  cases h1 : (a.m == b.m)
  · exact .inl rfl
  · cases h2 : (a.p == b.p)
    · exact .inr (.inl ⟨rfl, rfl⟩)
    · cases h3 : (a.z == b.z)
      · exact .inr (.inr ⟨rfl, rfl, rfl⟩)
      · rw [h1, h2, h3] at h; simp at h
end Go.Proofs.Ytgiohagjanodmaa.M
