import Derived.Test.YtamocjifffbhpaaPW1
namespace Go.Proofs.Ytamocjifffbhpaa.PW
open Go.RowKit
set_option linter.unusedVariables false
set_option maxRecDepth 100000

theorem within_yes (n lo hi : Int) (w : World) (h1 : lo ≤ n) (h2 : n ≤ hi) :
    Calls Try.prog 19 #[.int .i64 n, .int .i64 lo, .int .i64 hi] w fun e w' => e = .returned (.bool true) ∧ w = w' := by
  go_enter Try.func19, Try.ntmps19
  go_wp2
  go_ret
  exact ⟨rfl, rfl⟩
theorem within_no (n lo hi : Int) (w : World) (h : n < lo ∨ hi < n) :
    Calls Try.prog 19 #[.int .i64 n, .int .i64 lo, .int .i64 hi] w fun e w' => e = .returned (.bool false) ∧ w = w' := by
  by_cases h1 : lo ≤ n
  · have h2 : decide (n ≤ hi) = false := by simp; omega
    clear h
    go_enter Try.func19, Try.ntmps19
    go_wp2
    go_ret
    exact ⟨rfl, rfl⟩
  · clear h
    go_enter Try.func19, Try.ntmps19
    go_wp2
    go_ret
    exact ⟨rfl, rfl⟩

set_option maxHeartbeats 400000 in
theorem error_any (i : PM.Ins) (w : World) :
    Calls Try.prog 8 #[.agg i.cells] w fun e w' => e = .returned (.int .i64 (if i.fits then 0 else 3)) ∧ Below w.heap.size w w' := by
  obtain ⟨op, a, b, c, m⟩ := i
  unfold PM.Ins.cells
  simp only
  by_cases h0 : PM.Byt op
  · by_cases h1 : PM.Byt a
    · by_cases h2 : PM.Byt b
      · by_cases h3 : PM.Byt c
        · by_cases h4 : -2147483648 ≤ m ∧ m ≤ 2147483647
          · rw [if_pos (show PM.Ins.fits ⟨op, a, b, c, m⟩ from ⟨h0, h1, h2, h3, h4⟩)]
            unfold PM.Byt at h0 h1 h2 h3
            go_enter Try.func8, Try.ntmps8
            go_wp2_with (go_at_call 19; (first | refine (within_yes _ _ _ _ (by omega) (by omega)).mono ?_ | refine (within_no _ _ _ _ (by omega)).mono ?_); rintro e w' ⟨rfl, rfl⟩)
            go_ret
            exact ⟨rfl, (Below.refl _ _).alloc (Nat.le_refl _) _⟩
          · rw [if_neg (show ¬ PM.Ins.fits ⟨op, a, b, c, m⟩ from fun h => h4 h.2.2.2.2)]
            unfold PM.Byt at h0 h1 h2 h3
            go_enter Try.func8, Try.ntmps8
            go_wp2_with (go_at_call 19; (first | refine (within_yes _ _ _ _ (by omega) (by omega)).mono ?_ | refine (within_no _ _ _ _ (by omega)).mono ?_); rintro e w' ⟨rfl, rfl⟩)
            go_ret
            exact ⟨rfl, (Below.refl _ _).alloc (Nat.le_refl _) _⟩
        · rw [if_neg (show ¬ PM.Ins.fits ⟨op, a, b, c, m⟩ from fun h => h3 h.2.2.2.1)]
          unfold PM.Byt at h0 h1 h2 h3
          go_enter Try.func8, Try.ntmps8
          go_wp2_with (go_at_call 19; (first | refine (within_yes _ _ _ _ (by omega) (by omega)).mono ?_ | refine (within_no _ _ _ _ (by omega)).mono ?_); rintro e w' ⟨rfl, rfl⟩)
          go_ret
          exact ⟨rfl, (Below.refl _ _).alloc (Nat.le_refl _) _⟩
      · rw [if_neg (show ¬ PM.Ins.fits ⟨op, a, b, c, m⟩ from fun h => h2 h.2.2.1)]
        unfold PM.Byt at h0 h1 h2
        go_enter Try.func8, Try.ntmps8
        go_wp2_with (go_at_call 19; (first | refine (within_yes _ _ _ _ (by omega) (by omega)).mono ?_ | refine (within_no _ _ _ _ (by omega)).mono ?_); rintro e w' ⟨rfl, rfl⟩)
        go_ret
        exact ⟨rfl, (Below.refl _ _).alloc (Nat.le_refl _) _⟩
    · rw [if_neg (show ¬ PM.Ins.fits ⟨op, a, b, c, m⟩ from fun h => h1 h.2.1)]
      unfold PM.Byt at h0 h1
      go_enter Try.func8, Try.ntmps8
      go_wp2_with (go_at_call 19; (first | refine (within_yes _ _ _ _ (by omega) (by omega)).mono ?_ | refine (within_no _ _ _ _ (by omega)).mono ?_); rintro e w' ⟨rfl, rfl⟩)
      go_ret
      exact ⟨rfl, (Below.refl _ _).alloc (Nat.le_refl _) _⟩
  · rw [if_neg (show ¬ PM.Ins.fits ⟨op, a, b, c, m⟩ from fun h => h0 h.1)]
    unfold PM.Byt at h0
    go_enter Try.func8, Try.ntmps8
    go_wp2_with (go_at_call 19; (first | refine (within_yes _ _ _ _ (by omega) (by omega)).mono ?_ | refine (within_no _ _ _ _ (by omega)).mono ?_); rintro e w' ⟨rfl, rfl⟩)
    go_ret
    exact ⟨rfl, (Below.refl _ _).alloc (Nat.le_refl _) _⟩
end Go.Proofs.Ytamocjifffbhpaa.PW
