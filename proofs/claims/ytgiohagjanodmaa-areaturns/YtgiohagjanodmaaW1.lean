import Derived.Test.YtgiohagjanodmaaProg
import Derived.Test.YtgiohagjanodmaaM
import Derived.WalkLawsBesides
import Derived.WalkSpells
import Derived.Deep.QuietTactic
import Derived.BigQuiet
namespace Go.Proofs.Ytgiohagjanodmaa.W
open Go.RowKit
set_option linter.unusedVariables false

set_option maxHeartbeats 400000 in
theorem end_any (p n t : Int) (z : Bool) (w : World) (h1 : -9223372036854775808 ≤ p + n) (h2 : p + n ≤ 9223372036854775807) :
    Calls Try.prog 21 #[.agg #[.int .i64 p, .int .i64 n, .int .i64 t, .bool z]] w fun e w' => e = .returned (.int .i64 (p + n)) ∧ Below w.heap.size w w' := by
  go_enter Try.func21, Try.ntmps21
  go_wp2
  go_ret
  exact ⟨rfl, (Below.refl _ _).alloc (Nat.le_refl _) _⟩

theorem rightPages_any (p n : Int) (w : World) (hp : -9223372036854775808 ≤ p ∧ p ≤ 9223372036854775807) (hn : -9223372036854775808 ≤ n ∧ n ≤ 9223372036854775807) :
    Calls Try.prog 25 #[.int .i64 p, .int .i64 n] w fun e w' => e = .returned (.bool (M.pagesB p n)) ∧ w = w' := by
  by_cases h1 : 1 ≤ p
  · by_cases h2 : 1 ≤ n
    · by_cases h3 : n ≤ 256 - p
      · have e : M.pagesB p n = true := by simp [M.pagesB, h1, h2, h3]
        have h4 : n ≤ 255 - p + 1 := by omega
        rw [e]
        go_enter Try.func25, Try.ntmps25
        go_wp2
        go_ret
        exact ⟨rfl, rfl⟩
      · have e : M.pagesB p n = false := by simp [M.pagesB]; omega
        have h4 : decide (n ≤ 255 - p + 1) = false := by simp; omega
        rw [e]
        go_enter Try.func25, Try.ntmps25
        go_wp2
        go_ret
        exact ⟨rfl, rfl⟩
    · have e : M.pagesB p n = false := by simp [M.pagesB]; omega
      have h4 : decide (1 ≤ n) = false := by simp; omega
      rw [e]
      go_enter Try.func25, Try.ntmps25
      go_wp2
      go_ret
      exact ⟨rfl, rfl⟩
  · have e : M.pagesB p n = false := by simp [M.pagesB]; omega
    have h4 : decide (1 ≤ p) = false := by simp; omega
    rw [e]
    go_enter Try.func25, Try.ntmps25
    go_wp2
    go_ret
    exact ⟨rfl, rfl⟩

theorem rightProt_any (p : Int) (w : World) :
    Calls Try.prog 26 #[.int .i64 p] w fun e w' => e = .returned (.bool (M.protB p)) ∧ w = w' := by
  by_cases h1 : 0 ≤ p
  · by_cases h2 : p ≤ 3
    · have e : M.protB p = true := by simp [M.protB, h1, h2]
      rw [e]
      go_enter Try.func26, Try.ntmps26
      go_wp2
      go_ret
      exact ⟨rfl, rfl⟩
    · have e : M.protB p = false := by simp [M.protB]; omega
      have h4 : decide (p ≤ 3) = false := by simp; omega
      rw [e]
      go_enter Try.func26, Try.ntmps26
      go_wp2
      go_ret
      exact ⟨rfl, rfl⟩
  · have e : M.protB p = false := by simp [M.protB]; omega
    have h4 : decide (0 ≤ p) = false := by simp; omega
    rw [e]
    go_enter Try.func26, Try.ntmps26
    go_wp2
    go_ret
    exact ⟨rfl, rfl⟩
end Go.Proofs.Ytgiohagjanodmaa.W
