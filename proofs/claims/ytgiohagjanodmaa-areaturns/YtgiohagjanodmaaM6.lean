/- Plain laws: what Find tells of gathered and of spread areas; no Go in sight. -/
import Derived.Test.YtgiohagjanodmaaM5
namespace Go.Proofs.Ytgiohagjanodmaa.M
open Go.RowKit
set_option linter.unusedVariables false

theorem good_of_check (l : List Ar) (h : checkN l = 0) : good l = true := by
  unfold checkN at h
  split at h
  · simp at h
  · split at h
    · assumption
    · simp at h
theorem spreadTo_fine (l : List Ar) (hc : checkN l = 0) : ∀ k, k ≤ l.length → (spreadTo l k 0).m = false ∧ (∀ n, (spreadTo l k n).m = false → spreadTo l k n = off) ∧ (∀ n, 0 ≤ (spreadTo l k n).p ∧ (spreadTo l k n).p ≤ 3)
  | 0, _ => ⟨rfl, fun n _ => rfl, fun n => by simp [spreadTo, off]⟩
  | k + 1, hk => by
    have ih := spreadTo_fine l hc k (by omega)
    have ho := okAt_pages l k (good_pages l hc k (by omega))
    refine ⟨?_, fun n => ?_, fun n => ?_⟩
    · simp only [spreadTo, layTo]; rw [if_neg (by omega)]; exact ih.1
    · simp only [spreadTo, layTo]
      split
      · intro h; simp at h
      · exact ih.2.1 n
    · simp only [spreadTo, layTo]
      split
      · exact ⟨ho.2.2.2.1, ho.2.2.2.2⟩
      · exact ih.2.2 n
theorem fine_spread (l : List Ar) (hc : checkN l = 0) : Fine (spreadN l) := by
  have h := spreadTo_fine l hc l.length (Nat.le_refl _)
  exact ⟨h.1, h.2.1, h.2.2⟩
theorem fine_turned (F : Nat → St) (hF : Fine F) (how : St → St × Int) (page t : Int) (hp : 1 ≤ page)
    (hn : ∀ s, (s.m = false → s = off) → ((how s).1.m = false → (how s).1 = off)) (hq : ∀ s, 0 ≤ s.p ∧ s.p ≤ 3 → 0 ≤ (how s).1.p ∧ (how s).1.p ≤ 3) : Fine (turned F how page t) := by
  refine ⟨?_, fun n => ?_, fun n => ?_⟩
  · simp only [turned]; rw [if_neg (by omega)]; exact hF.zero
  · simp only [turned]
    split
    · exact hn (F n) (hF.none n)
    · exact hF.none n
  · simp only [turned]
    split
    · exact hq (F n) (hF.prot n)
    · exact hF.prot n
theorem gather_len' (F : Nat → St) (h0 : (F 0).m = false) : ∀ k, (gatherTo F (k + 1)).length ≤ k
  | 0 => by simp [gatherTo, h0]
  | k + 1 => by
    have ih := gather_len' F h0 k
    rw [gatherTo]
    split
    · omega
    · split
      · rw [bump_length]; omega
      · simp; omega
theorem check_gather (F : Nat → St) (hF : Fine F) : checkN (gatherN F) = 0 := by
  have hl : (gatherN F).length ≤ 255 := gather_len' F hF.zero 255
  have hg := gather_good F hF
  unfold checkN
  rw [if_neg (by omega), if_pos hg]
theorem find_of_look (l : List Ar) (hc : checkN l = 0) (F : Nat → St) (p : Nat) (h : look l p = F p) : (findN l p).2 = (F p).m ∧ (findN l p).1.prot = (F p).p ∧ (findN l p).1.zero = (F p).z := by
  have e : findN l p = findFrom l p := by simp [findN, hc]
  rw [e, ← h]
  unfold look
  by_cases c : (findFrom l p).2 = true
  · simp [c]
  · have c' : (findFrom l p).2 = false := by simpa using c
    rw [findFrom_miss l p c']
    simp [nil, off]
theorem find_gather (F : Nat → St) (hF : Fine F) (p : Nat) (hp : p < 256) : (findN (gatherN F) p).2 = (F p).m ∧ (findN (gatherN F) p).1.prot = (F p).p ∧ (findN (gatherN F) p).1.zero = (F p).z :=
  find_of_look _ (check_gather F hF) F p (gather_look F hF p hp)
theorem find_spread (l : List Ar) (hc : checkN l = 0) (p : Nat) : (findN l p).2 = (spreadN l p).m ∧ (findN l p).1.prot = (spreadN l p).p ∧ (findN l p).1.zero = (spreadN l p).z :=
  find_of_look l hc (spreadN l) p (spread_look l _ l rfl (good_of_check l hc) p)
/-- areas that are right hold small numbers alone -/
theorem fits_of_check (l : List Ar) (hc : checkN l = 0) : (∀ i, i < l.length → Fits (at_ l i)) ∧ l.length ≤ 140737488351232 := by
  refine ⟨fun i hi => ?_, by have := good_len l hc; omega⟩
  have ho := okAt_pages l i (good_pages l hc i hi)
  unfold Fits
  omega
theorem err_zero (F : Nat → St) (how : St → St × Int) : ∀ (c n : Nat), errFrom F how n c = 0 → ∀ k, n ≤ k → k < n + c → (how (F k)).2 = 0
  | 0, n, _, k, h1, h2 => by omega
  | c + 1, n, h, k, h1, h2 => by
    simp only [errFrom] at h
    split at h
    · rename_i h0
      by_cases e : k = n
      · rw [e]; exact h0
      · exact err_zero F how c (n + 1) h k (by omega) (by omega)
    · rename_i h0; exact absurd h h0
end Go.Proofs.Ytgiohagjanodmaa.M
