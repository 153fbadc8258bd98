import Derived.Test.YtklobjfhjlkgfaaDoorGA02
namespace Go.Proofs.YtklobjfhjlkgfaaDoor.PW
open Go.RowKit
set_option linter.unusedVariables false
set_option maxRecDepth 100000
theorem uses1 (w : World) : Calls Tryd.prog 43 #[.int .i64 1] w fun e w' => e = .returned (.tuple #[.bool true, .bool false, .bool false]) ∧ w = w' := by
  go_enter Tryd.func43, Tryd.ntmps43
  go_wp2
  go_ret3
  exact ⟨rfl, rfl⟩
theorem uses2 (w : World) : Calls Tryd.prog 43 #[.int .i64 2] w fun e w' => e = .returned (.tuple #[.bool true, .bool true, .bool true]) ∧ w = w' := by
  go_enter Tryd.func43, Tryd.ntmps43
  go_wp2
  go_ret3
  exact ⟨rfl, rfl⟩
theorem uses3 (w : World) : Calls Tryd.prog 43 #[.int .i64 3] w fun e w' => e = .returned (.tuple #[.bool true, .bool true, .bool true]) ∧ w = w' := by
  go_enter Tryd.func43, Tryd.ntmps43
  go_wp2
  go_ret3
  exact ⟨rfl, rfl⟩
theorem uses4 (w : World) : Calls Tryd.prog 43 #[.int .i64 4] w fun e w' => e = .returned (.tuple #[.bool true, .bool true, .bool true]) ∧ w = w' := by
  go_enter Tryd.func43, Tryd.ntmps43
  go_wp2
  go_ret3
  exact ⟨rfl, rfl⟩
theorem uses5 (w : World) : Calls Tryd.prog 43 #[.int .i64 5] w fun e w' => e = .returned (.tuple #[.bool true, .bool true, .bool true]) ∧ w = w' := by
  go_enter Tryd.func43, Tryd.ntmps43
  go_wp2
  go_ret3
  exact ⟨rfl, rfl⟩
theorem uses6 (w : World) : Calls Tryd.prog 43 #[.int .i64 6] w fun e w' => e = .returned (.tuple #[.bool true, .bool true, .bool true]) ∧ w = w' := by
  go_enter Tryd.func43, Tryd.ntmps43
  go_wp2
  go_ret3
  exact ⟨rfl, rfl⟩
theorem uses7 (w : World) : Calls Tryd.prog 43 #[.int .i64 7] w fun e w' => e = .returned (.tuple #[.bool true, .bool true, .bool true]) ∧ w = w' := by
  go_enter Tryd.func43, Tryd.ntmps43
  go_wp2
  go_ret3
  exact ⟨rfl, rfl⟩
theorem uses8 (w : World) : Calls Tryd.prog 43 #[.int .i64 8] w fun e w' => e = .returned (.tuple #[.bool true, .bool true, .bool false]) ∧ w = w' := by
  go_enter Tryd.func43, Tryd.ntmps43
  go_wp2
  go_ret3
  exact ⟨rfl, rfl⟩
theorem uses9 (w : World) : Calls Tryd.prog 43 #[.int .i64 9] w fun e w' => e = .returned (.tuple #[.bool true, .bool true, .bool false]) ∧ w = w' := by
  go_enter Tryd.func43, Tryd.ntmps43
  go_wp2
  go_ret3
  exact ⟨rfl, rfl⟩
theorem uses10 (w : World) : Calls Tryd.prog 43 #[.int .i64 10] w fun e w' => e = .returned (.tuple #[.bool true, .bool true, .bool false]) ∧ w = w' := by
  go_enter Tryd.func43, Tryd.ntmps43
  go_wp2
  go_ret3
  exact ⟨rfl, rfl⟩
theorem uses11 (w : World) : Calls Tryd.prog 43 #[.int .i64 11] w fun e w' => e = .returned (.tuple #[.bool true, .bool false, .bool false]) ∧ w = w' := by
  go_enter Tryd.func43, Tryd.ntmps43
  go_wp2
  go_ret3
  exact ⟨rfl, rfl⟩
theorem uses12 (w : World) : Calls Tryd.prog 43 #[.int .i64 12] w fun e w' => e = .returned (.tuple #[.bool false, .bool false, .bool false]) ∧ w = w' := by
  go_enter Tryd.func43, Tryd.ntmps43
  go_wp2
  go_ret3
  exact ⟨rfl, rfl⟩
theorem uses13 (w : World) : Calls Tryd.prog 43 #[.int .i64 13] w fun e w' => e = .returned (.tuple #[.bool true, .bool true, .bool false]) ∧ w = w' := by
  go_enter Tryd.func43, Tryd.ntmps43
  go_wp2
  go_ret3
  exact ⟨rfl, rfl⟩
theorem uses14 (w : World) : Calls Tryd.prog 43 #[.int .i64 14] w fun e w' => e = .returned (.tuple #[.bool true, .bool true, .bool false]) ∧ w = w' := by
  go_enter Tryd.func43, Tryd.ntmps43
  go_wp2
  go_ret3
  exact ⟨rfl, rfl⟩
theorem uses15 (w : World) : Calls Tryd.prog 43 #[.int .i64 15] w fun e w' => e = .returned (.tuple #[.bool true, .bool false, .bool false]) ∧ w = w' := by
  go_enter Tryd.func43, Tryd.ntmps43
  go_wp2
  go_ret3
  exact ⟨rfl, rfl⟩
theorem uses16 (w : World) : Calls Tryd.prog 43 #[.int .i64 16] w fun e w' => e = .returned (.tuple #[.bool false, .bool false, .bool false]) ∧ w = w' := by
  go_enter Tryd.func43, Tryd.ntmps43
  go_wp2
  go_ret3
  exact ⟨rfl, rfl⟩
set_option maxHeartbeats 1000000 in
theorem isBadR1 (a b c m : Int) (w : World) : Calls Tryd.prog 23 #[.agg #[.int .i64 1, .int .i64 a, .int .i64 b, .int .i64 c, .int .i64 m]] w fun e w' => e = .returned (.bool (decide (8 ≤ a))) ∧ Below w.heap.size w w' := by
  by_cases ga : 8 ≤ a
  · have HR := hideC (show decide (8 ≤ a) = true from by simp [ga])
    rw [HR.out]
    go_enter Tryd.func23, Tryd.ntmps23
    go_wp2_with (first | (go_at_call 22; (first | refine (within_yes _ _ _ _ (by omega) (by omega)).mono ?_ | refine (within_no _ _ _ _ (by omega)).mono ?_); rintro e w' ⟨rfl, rfl⟩) | (go_at_call 43; refine (uses1 _).mono ?_; rintro e w' ⟨rfl, rfl⟩))
    go_ret
    exact ⟨by first | rfl | (simp; done) | (simp; omega), (Below.refl _ _).alloc (Nat.le_refl _) _⟩
  · have HR := hideC (show decide (8 ≤ a) = false from by simp [ga])
    rw [HR.out]
    go_enter Tryd.func23, Tryd.ntmps23
    go_wp2_with (first | (go_at_call 22; (first | refine (within_yes _ _ _ _ (by omega) (by omega)).mono ?_ | refine (within_no _ _ _ _ (by omega)).mono ?_); rintro e w' ⟨rfl, rfl⟩) | (go_at_call 43; refine (uses1 _).mono ?_; rintro e w' ⟨rfl, rfl⟩))
    go_ret
    exact ⟨by first | rfl | (simp; done) | (simp; omega), (Below.refl _ _).alloc (Nat.le_refl _) _⟩
set_option maxHeartbeats 1000000 in
theorem isBadR2 (a b c m : Int) (w : World) : Calls Tryd.prog 23 #[.agg #[.int .i64 2, .int .i64 a, .int .i64 b, .int .i64 c, .int .i64 m]] w fun e w' => e = .returned (.bool (decide (8 ≤ a ∨ 8 ≤ b ∨ 8 ≤ c))) ∧ Below w.heap.size w w' := by
  by_cases ga : 8 ≤ a
  · have HR := hideC (show decide (8 ≤ a ∨ 8 ≤ b ∨ 8 ≤ c) = true from by simp [ga])
    rw [HR.out]
    go_enter Tryd.func23, Tryd.ntmps23
    go_wp2_with (first | (go_at_call 22; (first | refine (within_yes _ _ _ _ (by omega) (by omega)).mono ?_ | refine (within_no _ _ _ _ (by omega)).mono ?_); rintro e w' ⟨rfl, rfl⟩) | (go_at_call 43; refine (uses2 _).mono ?_; rintro e w' ⟨rfl, rfl⟩))
    go_ret
    exact ⟨by first | rfl | (simp; done) | (simp; omega), (Below.refl _ _).alloc (Nat.le_refl _) _⟩
  · by_cases gb : 8 ≤ b
    · have HR := hideC (show decide (8 ≤ a ∨ 8 ≤ b ∨ 8 ≤ c) = true from by simp [ga, gb])
      rw [HR.out]
      go_enter Tryd.func23, Tryd.ntmps23
      go_wp2_with (first | (go_at_call 22; (first | refine (within_yes _ _ _ _ (by omega) (by omega)).mono ?_ | refine (within_no _ _ _ _ (by omega)).mono ?_); rintro e w' ⟨rfl, rfl⟩) | (go_at_call 43; refine (uses2 _).mono ?_; rintro e w' ⟨rfl, rfl⟩))
      go_ret
      exact ⟨by first | rfl | (simp; done) | (simp; omega), (Below.refl _ _).alloc (Nat.le_refl _) _⟩
    · by_cases gc : 8 ≤ c
      · have HR := hideC (show decide (8 ≤ a ∨ 8 ≤ b ∨ 8 ≤ c) = true from by simp [ga, gb, gc])
        rw [HR.out]
        go_enter Tryd.func23, Tryd.ntmps23
        go_wp2_with (first | (go_at_call 22; (first | refine (within_yes _ _ _ _ (by omega) (by omega)).mono ?_ | refine (within_no _ _ _ _ (by omega)).mono ?_); rintro e w' ⟨rfl, rfl⟩) | (go_at_call 43; refine (uses2 _).mono ?_; rintro e w' ⟨rfl, rfl⟩))
        go_ret
        exact ⟨by first | rfl | (simp; done) | (simp; omega), (Below.refl _ _).alloc (Nat.le_refl _) _⟩
      · have HR := hideC (show decide (8 ≤ a ∨ 8 ≤ b ∨ 8 ≤ c) = false from by simp [ga, gb, gc])
        rw [HR.out]
        go_enter Tryd.func23, Tryd.ntmps23
        go_wp2_with (first | (go_at_call 22; (first | refine (within_yes _ _ _ _ (by omega) (by omega)).mono ?_ | refine (within_no _ _ _ _ (by omega)).mono ?_); rintro e w' ⟨rfl, rfl⟩) | (go_at_call 43; refine (uses2 _).mono ?_; rintro e w' ⟨rfl, rfl⟩))
        go_ret
        exact ⟨by first | rfl | (simp; done) | (simp; omega), (Below.refl _ _).alloc (Nat.le_refl _) _⟩
set_option maxHeartbeats 1000000 in
theorem isBadR3 (a b c m : Int) (w : World) : Calls Tryd.prog 23 #[.agg #[.int .i64 3, .int .i64 a, .int .i64 b, .int .i64 c, .int .i64 m]] w fun e w' => e = .returned (.bool (decide (8 ≤ a ∨ 8 ≤ b ∨ 8 ≤ c))) ∧ Below w.heap.size w w' := by
  by_cases ga : 8 ≤ a
  · have HR := hideC (show decide (8 ≤ a ∨ 8 ≤ b ∨ 8 ≤ c) = true from by simp [ga])
    rw [HR.out]
    go_enter Tryd.func23, Tryd.ntmps23
    go_wp2_with (first | (go_at_call 22; (first | refine (within_yes _ _ _ _ (by omega) (by omega)).mono ?_ | refine (within_no _ _ _ _ (by omega)).mono ?_); rintro e w' ⟨rfl, rfl⟩) | (go_at_call 43; refine (uses3 _).mono ?_; rintro e w' ⟨rfl, rfl⟩))
    go_ret
    exact ⟨by first | rfl | (simp; done) | (simp; omega), (Below.refl _ _).alloc (Nat.le_refl _) _⟩
  · by_cases gb : 8 ≤ b
    · have HR := hideC (show decide (8 ≤ a ∨ 8 ≤ b ∨ 8 ≤ c) = true from by simp [ga, gb])
      rw [HR.out]
      go_enter Tryd.func23, Tryd.ntmps23
      go_wp2_with (first | (go_at_call 22; (first | refine (within_yes _ _ _ _ (by omega) (by omega)).mono ?_ | refine (within_no _ _ _ _ (by omega)).mono ?_); rintro e w' ⟨rfl, rfl⟩) | (go_at_call 43; refine (uses3 _).mono ?_; rintro e w' ⟨rfl, rfl⟩))
      go_ret
      exact ⟨by first | rfl | (simp; done) | (simp; omega), (Below.refl _ _).alloc (Nat.le_refl _) _⟩
    · by_cases gc : 8 ≤ c
      · have HR := hideC (show decide (8 ≤ a ∨ 8 ≤ b ∨ 8 ≤ c) = true from by simp [ga, gb, gc])
        rw [HR.out]
        go_enter Tryd.func23, Tryd.ntmps23
        go_wp2_with (first | (go_at_call 22; (first | refine (within_yes _ _ _ _ (by omega) (by omega)).mono ?_ | refine (within_no _ _ _ _ (by omega)).mono ?_); rintro e w' ⟨rfl, rfl⟩) | (go_at_call 43; refine (uses3 _).mono ?_; rintro e w' ⟨rfl, rfl⟩))
        go_ret
        exact ⟨by first | rfl | (simp; done) | (simp; omega), (Below.refl _ _).alloc (Nat.le_refl _) _⟩
      · have HR := hideC (show decide (8 ≤ a ∨ 8 ≤ b ∨ 8 ≤ c) = false from by simp [ga, gb, gc])
        rw [HR.out]
        go_enter Tryd.func23, Tryd.ntmps23
        go_wp2_with (first | (go_at_call 22; (first | refine (within_yes _ _ _ _ (by omega) (by omega)).mono ?_ | refine (within_no _ _ _ _ (by omega)).mono ?_); rintro e w' ⟨rfl, rfl⟩) | (go_at_call 43; refine (uses3 _).mono ?_; rintro e w' ⟨rfl, rfl⟩))
        go_ret
        exact ⟨by first | rfl | (simp; done) | (simp; omega), (Below.refl _ _).alloc (Nat.le_refl _) _⟩
set_option maxHeartbeats 1000000 in
theorem isBadR4 (a b c m : Int) (w : World) : Calls Tryd.prog 23 #[.agg #[.int .i64 4, .int .i64 a, .int .i64 b, .int .i64 c, .int .i64 m]] w fun e w' => e = .returned (.bool (decide (8 ≤ a ∨ 8 ≤ b ∨ 8 ≤ c))) ∧ Below w.heap.size w w' := by
  by_cases ga : 8 ≤ a
  · have HR := hideC (show decide (8 ≤ a ∨ 8 ≤ b ∨ 8 ≤ c) = true from by simp [ga])
    rw [HR.out]
    go_enter Tryd.func23, Tryd.ntmps23
    go_wp2_with (first | (go_at_call 22; (first | refine (within_yes _ _ _ _ (by omega) (by omega)).mono ?_ | refine (within_no _ _ _ _ (by omega)).mono ?_); rintro e w' ⟨rfl, rfl⟩) | (go_at_call 43; refine (uses4 _).mono ?_; rintro e w' ⟨rfl, rfl⟩))
    go_ret
    exact ⟨by first | rfl | (simp; done) | (simp; omega), (Below.refl _ _).alloc (Nat.le_refl _) _⟩
  · by_cases gb : 8 ≤ b
    · have HR := hideC (show decide (8 ≤ a ∨ 8 ≤ b ∨ 8 ≤ c) = true from by simp [ga, gb])
      rw [HR.out]
      go_enter Tryd.func23, Tryd.ntmps23
      go_wp2_with (first | (go_at_call 22; (first | refine (within_yes _ _ _ _ (by omega) (by omega)).mono ?_ | refine (within_no _ _ _ _ (by omega)).mono ?_); rintro e w' ⟨rfl, rfl⟩) | (go_at_call 43; refine (uses4 _).mono ?_; rintro e w' ⟨rfl, rfl⟩))
      go_ret
      exact ⟨by first | rfl | (simp; done) | (simp; omega), (Below.refl _ _).alloc (Nat.le_refl _) _⟩
    · by_cases gc : 8 ≤ c
      · have HR := hideC (show decide (8 ≤ a ∨ 8 ≤ b ∨ 8 ≤ c) = true from by simp [ga, gb, gc])
        rw [HR.out]
        go_enter Tryd.func23, Tryd.ntmps23
        go_wp2_with (first | (go_at_call 22; (first | refine (within_yes _ _ _ _ (by omega) (by omega)).mono ?_ | refine (within_no _ _ _ _ (by omega)).mono ?_); rintro e w' ⟨rfl, rfl⟩) | (go_at_call 43; refine (uses4 _).mono ?_; rintro e w' ⟨rfl, rfl⟩))
        go_ret
        exact ⟨by first | rfl | (simp; done) | (simp; omega), (Below.refl _ _).alloc (Nat.le_refl _) _⟩
      · have HR := hideC (show decide (8 ≤ a ∨ 8 ≤ b ∨ 8 ≤ c) = false from by simp [ga, gb, gc])
        rw [HR.out]
        go_enter Tryd.func23, Tryd.ntmps23
        go_wp2_with (first | (go_at_call 22; (first | refine (within_yes _ _ _ _ (by omega) (by omega)).mono ?_ | refine (within_no _ _ _ _ (by omega)).mono ?_); rintro e w' ⟨rfl, rfl⟩) | (go_at_call 43; refine (uses4 _).mono ?_; rintro e w' ⟨rfl, rfl⟩))
        go_ret
        exact ⟨by first | rfl | (simp; done) | (simp; omega), (Below.refl _ _).alloc (Nat.le_refl _) _⟩
set_option maxHeartbeats 1000000 in
theorem isBadR5 (a b c m : Int) (w : World) : Calls Tryd.prog 23 #[.agg #[.int .i64 5, .int .i64 a, .int .i64 b, .int .i64 c, .int .i64 m]] w fun e w' => e = .returned (.bool (decide (8 ≤ a ∨ 8 ≤ b ∨ 8 ≤ c))) ∧ Below w.heap.size w w' := by
  by_cases ga : 8 ≤ a
  · have HR := hideC (show decide (8 ≤ a ∨ 8 ≤ b ∨ 8 ≤ c) = true from by simp [ga])
    rw [HR.out]
    go_enter Tryd.func23, Tryd.ntmps23
    go_wp2_with (first | (go_at_call 22; (first | refine (within_yes _ _ _ _ (by omega) (by omega)).mono ?_ | refine (within_no _ _ _ _ (by omega)).mono ?_); rintro e w' ⟨rfl, rfl⟩) | (go_at_call 43; refine (uses5 _).mono ?_; rintro e w' ⟨rfl, rfl⟩))
    go_ret
    exact ⟨by first | rfl | (simp; done) | (simp; omega), (Below.refl _ _).alloc (Nat.le_refl _) _⟩
  · by_cases gb : 8 ≤ b
    · have HR := hideC (show decide (8 ≤ a ∨ 8 ≤ b ∨ 8 ≤ c) = true from by simp [ga, gb])
      rw [HR.out]
      go_enter Tryd.func23, Tryd.ntmps23
      go_wp2_with (first | (go_at_call 22; (first | refine (within_yes _ _ _ _ (by omega) (by omega)).mono ?_ | refine (within_no _ _ _ _ (by omega)).mono ?_); rintro e w' ⟨rfl, rfl⟩) | (go_at_call 43; refine (uses5 _).mono ?_; rintro e w' ⟨rfl, rfl⟩))
      go_ret
      exact ⟨by first | rfl | (simp; done) | (simp; omega), (Below.refl _ _).alloc (Nat.le_refl _) _⟩
    · by_cases gc : 8 ≤ c
      · have HR := hideC (show decide (8 ≤ a ∨ 8 ≤ b ∨ 8 ≤ c) = true from by simp [ga, gb, gc])
        rw [HR.out]
        go_enter Tryd.func23, Tryd.ntmps23
        go_wp2_with (first | (go_at_call 22; (first | refine (within_yes _ _ _ _ (by omega) (by omega)).mono ?_ | refine (within_no _ _ _ _ (by omega)).mono ?_); rintro e w' ⟨rfl, rfl⟩) | (go_at_call 43; refine (uses5 _).mono ?_; rintro e w' ⟨rfl, rfl⟩))
        go_ret
        exact ⟨by first | rfl | (simp; done) | (simp; omega), (Below.refl _ _).alloc (Nat.le_refl _) _⟩
      · have HR := hideC (show decide (8 ≤ a ∨ 8 ≤ b ∨ 8 ≤ c) = false from by simp [ga, gb, gc])
        rw [HR.out]
        go_enter Tryd.func23, Tryd.ntmps23
        go_wp2_with (first | (go_at_call 22; (first | refine (within_yes _ _ _ _ (by omega) (by omega)).mono ?_ | refine (within_no _ _ _ _ (by omega)).mono ?_); rintro e w' ⟨rfl, rfl⟩) | (go_at_call 43; refine (uses5 _).mono ?_; rintro e w' ⟨rfl, rfl⟩))
        go_ret
        exact ⟨by first | rfl | (simp; done) | (simp; omega), (Below.refl _ _).alloc (Nat.le_refl _) _⟩
set_option maxHeartbeats 1000000 in
theorem isBadR6 (a b c m : Int) (w : World) : Calls Tryd.prog 23 #[.agg #[.int .i64 6, .int .i64 a, .int .i64 b, .int .i64 c, .int .i64 m]] w fun e w' => e = .returned (.bool (decide (8 ≤ a ∨ 8 ≤ b ∨ 8 ≤ c))) ∧ Below w.heap.size w w' := by
  by_cases ga : 8 ≤ a
  · have HR := hideC (show decide (8 ≤ a ∨ 8 ≤ b ∨ 8 ≤ c) = true from by simp [ga])
    rw [HR.out]
    go_enter Tryd.func23, Tryd.ntmps23
    go_wp2_with (first | (go_at_call 22; (first | refine (within_yes _ _ _ _ (by omega) (by omega)).mono ?_ | refine (within_no _ _ _ _ (by omega)).mono ?_); rintro e w' ⟨rfl, rfl⟩) | (go_at_call 43; refine (uses6 _).mono ?_; rintro e w' ⟨rfl, rfl⟩))
    go_ret
    exact ⟨by first | rfl | (simp; done) | (simp; omega), (Below.refl _ _).alloc (Nat.le_refl _) _⟩
  · by_cases gb : 8 ≤ b
    · have HR := hideC (show decide (8 ≤ a ∨ 8 ≤ b ∨ 8 ≤ c) = true from by simp [ga, gb])
      rw [HR.out]
      go_enter Tryd.func23, Tryd.ntmps23
      go_wp2_with (first | (go_at_call 22; (first | refine (within_yes _ _ _ _ (by omega) (by omega)).mono ?_ | refine (within_no _ _ _ _ (by omega)).mono ?_); rintro e w' ⟨rfl, rfl⟩) | (go_at_call 43; refine (uses6 _).mono ?_; rintro e w' ⟨rfl, rfl⟩))
      go_ret
      exact ⟨by first | rfl | (simp; done) | (simp; omega), (Below.refl _ _).alloc (Nat.le_refl _) _⟩
    · by_cases gc : 8 ≤ c
      · have HR := hideC (show decide (8 ≤ a ∨ 8 ≤ b ∨ 8 ≤ c) = true from by simp [ga, gb, gc])
        rw [HR.out]
        go_enter Tryd.func23, Tryd.ntmps23
        go_wp2_with (first | (go_at_call 22; (first | refine (within_yes _ _ _ _ (by omega) (by omega)).mono ?_ | refine (within_no _ _ _ _ (by omega)).mono ?_); rintro e w' ⟨rfl, rfl⟩) | (go_at_call 43; refine (uses6 _).mono ?_; rintro e w' ⟨rfl, rfl⟩))
        go_ret
        exact ⟨by first | rfl | (simp; done) | (simp; omega), (Below.refl _ _).alloc (Nat.le_refl _) _⟩
      · have HR := hideC (show decide (8 ≤ a ∨ 8 ≤ b ∨ 8 ≤ c) = false from by simp [ga, gb, gc])
        rw [HR.out]
        go_enter Tryd.func23, Tryd.ntmps23
        go_wp2_with (first | (go_at_call 22; (first | refine (within_yes _ _ _ _ (by omega) (by omega)).mono ?_ | refine (within_no _ _ _ _ (by omega)).mono ?_); rintro e w' ⟨rfl, rfl⟩) | (go_at_call 43; refine (uses6 _).mono ?_; rintro e w' ⟨rfl, rfl⟩))
        go_ret
        exact ⟨by first | rfl | (simp; done) | (simp; omega), (Below.refl _ _).alloc (Nat.le_refl _) _⟩
set_option maxHeartbeats 1000000 in
theorem isBadR7 (a b c m : Int) (w : World) : Calls Tryd.prog 23 #[.agg #[.int .i64 7, .int .i64 a, .int .i64 b, .int .i64 c, .int .i64 m]] w fun e w' => e = .returned (.bool (decide (8 ≤ a ∨ 8 ≤ b ∨ 8 ≤ c))) ∧ Below w.heap.size w w' := by
  by_cases ga : 8 ≤ a
  · have HR := hideC (show decide (8 ≤ a ∨ 8 ≤ b ∨ 8 ≤ c) = true from by simp [ga])
    rw [HR.out]
    go_enter Tryd.func23, Tryd.ntmps23
    go_wp2_with (first | (go_at_call 22; (first | refine (within_yes _ _ _ _ (by omega) (by omega)).mono ?_ | refine (within_no _ _ _ _ (by omega)).mono ?_); rintro e w' ⟨rfl, rfl⟩) | (go_at_call 43; refine (uses7 _).mono ?_; rintro e w' ⟨rfl, rfl⟩))
    go_ret
    exact ⟨by first | rfl | (simp; done) | (simp; omega), (Below.refl _ _).alloc (Nat.le_refl _) _⟩
  · by_cases gb : 8 ≤ b
    · have HR := hideC (show decide (8 ≤ a ∨ 8 ≤ b ∨ 8 ≤ c) = true from by simp [ga, gb])
      rw [HR.out]
      go_enter Tryd.func23, Tryd.ntmps23
      go_wp2_with (first | (go_at_call 22; (first | refine (within_yes _ _ _ _ (by omega) (by omega)).mono ?_ | refine (within_no _ _ _ _ (by omega)).mono ?_); rintro e w' ⟨rfl, rfl⟩) | (go_at_call 43; refine (uses7 _).mono ?_; rintro e w' ⟨rfl, rfl⟩))
      go_ret
      exact ⟨by first | rfl | (simp; done) | (simp; omega), (Below.refl _ _).alloc (Nat.le_refl _) _⟩
    · by_cases gc : 8 ≤ c
      · have HR := hideC (show decide (8 ≤ a ∨ 8 ≤ b ∨ 8 ≤ c) = true from by simp [ga, gb, gc])
        rw [HR.out]
        go_enter Tryd.func23, Tryd.ntmps23
        go_wp2_with (first | (go_at_call 22; (first | refine (within_yes _ _ _ _ (by omega) (by omega)).mono ?_ | refine (within_no _ _ _ _ (by omega)).mono ?_); rintro e w' ⟨rfl, rfl⟩) | (go_at_call 43; refine (uses7 _).mono ?_; rintro e w' ⟨rfl, rfl⟩))
        go_ret
        exact ⟨by first | rfl | (simp; done) | (simp; omega), (Below.refl _ _).alloc (Nat.le_refl _) _⟩
      · have HR := hideC (show decide (8 ≤ a ∨ 8 ≤ b ∨ 8 ≤ c) = false from by simp [ga, gb, gc])
        rw [HR.out]
        go_enter Tryd.func23, Tryd.ntmps23
        go_wp2_with (first | (go_at_call 22; (first | refine (within_yes _ _ _ _ (by omega) (by omega)).mono ?_ | refine (within_no _ _ _ _ (by omega)).mono ?_); rintro e w' ⟨rfl, rfl⟩) | (go_at_call 43; refine (uses7 _).mono ?_; rintro e w' ⟨rfl, rfl⟩))
        go_ret
        exact ⟨by first | rfl | (simp; done) | (simp; omega), (Below.refl _ _).alloc (Nat.le_refl _) _⟩
set_option maxHeartbeats 1000000 in
theorem isBadR8 (a b c m : Int) (w : World) : Calls Tryd.prog 23 #[.agg #[.int .i64 8, .int .i64 a, .int .i64 b, .int .i64 c, .int .i64 m]] w fun e w' => e = .returned (.bool (decide (8 ≤ a ∨ 8 ≤ b))) ∧ Below w.heap.size w w' := by
  by_cases ga : 8 ≤ a
  · have HR := hideC (show decide (8 ≤ a ∨ 8 ≤ b) = true from by simp [ga])
    rw [HR.out]
    go_enter Tryd.func23, Tryd.ntmps23
    go_wp2_with (first | (go_at_call 22; (first | refine (within_yes _ _ _ _ (by omega) (by omega)).mono ?_ | refine (within_no _ _ _ _ (by omega)).mono ?_); rintro e w' ⟨rfl, rfl⟩) | (go_at_call 43; refine (uses8 _).mono ?_; rintro e w' ⟨rfl, rfl⟩))
    go_ret
    exact ⟨by first | rfl | (simp; done) | (simp; omega), (Below.refl _ _).alloc (Nat.le_refl _) _⟩
  · by_cases gb : 8 ≤ b
    · have HR := hideC (show decide (8 ≤ a ∨ 8 ≤ b) = true from by simp [ga, gb])
      rw [HR.out]
      go_enter Tryd.func23, Tryd.ntmps23
      go_wp2_with (first | (go_at_call 22; (first | refine (within_yes _ _ _ _ (by omega) (by omega)).mono ?_ | refine (within_no _ _ _ _ (by omega)).mono ?_); rintro e w' ⟨rfl, rfl⟩) | (go_at_call 43; refine (uses8 _).mono ?_; rintro e w' ⟨rfl, rfl⟩))
      go_ret
      exact ⟨by first | rfl | (simp; done) | (simp; omega), (Below.refl _ _).alloc (Nat.le_refl _) _⟩
    · have HR := hideC (show decide (8 ≤ a ∨ 8 ≤ b) = false from by simp [ga, gb])
      rw [HR.out]
      go_enter Tryd.func23, Tryd.ntmps23
      go_wp2_with (first | (go_at_call 22; (first | refine (within_yes _ _ _ _ (by omega) (by omega)).mono ?_ | refine (within_no _ _ _ _ (by omega)).mono ?_); rintro e w' ⟨rfl, rfl⟩) | (go_at_call 43; refine (uses8 _).mono ?_; rintro e w' ⟨rfl, rfl⟩))
      go_ret
      exact ⟨by first | rfl | (simp; done) | (simp; omega), (Below.refl _ _).alloc (Nat.le_refl _) _⟩
set_option maxHeartbeats 1000000 in
theorem isBadR9 (a b c m : Int) (w : World) : Calls Tryd.prog 23 #[.agg #[.int .i64 9, .int .i64 a, .int .i64 b, .int .i64 c, .int .i64 m]] w fun e w' => e = .returned (.bool ((decide (8 ≤ a ∨ 8 ≤ b) || !PM.isSize c))) ∧ Below w.heap.size w w' := by
  by_cases ga : 8 ≤ a
  · have HR := hideC (show (decide (8 ≤ a ∨ 8 ≤ b) || !PM.isSize c) = true from by simp [ga])
    rw [HR.out]
    go_enter Tryd.func23, Tryd.ntmps23
    go_wp2_with (first | (go_at_call 22; (first | refine (within_yes _ _ _ _ (by omega) (by omega)).mono ?_ | refine (within_no _ _ _ _ (by omega)).mono ?_); rintro e w' ⟨rfl, rfl⟩) | (go_at_call 43; refine (uses9 _).mono ?_; rintro e w' ⟨rfl, rfl⟩))
    go_ret
    exact ⟨by first | rfl | (simp; done) | (simp; omega), (Below.refl _ _).alloc (Nat.le_refl _) _⟩
  · by_cases gb : 8 ≤ b
    · have HR := hideC (show (decide (8 ≤ a ∨ 8 ≤ b) || !PM.isSize c) = true from by simp [ga, gb])
      rw [HR.out]
      go_enter Tryd.func23, Tryd.ntmps23
      go_wp2_with (first | (go_at_call 22; (first | refine (within_yes _ _ _ _ (by omega) (by omega)).mono ?_ | refine (within_no _ _ _ _ (by omega)).mono ?_); rintro e w' ⟨rfl, rfl⟩) | (go_at_call 43; refine (uses9 _).mono ?_; rintro e w' ⟨rfl, rfl⟩))
      go_ret
      exact ⟨by first | rfl | (simp; done) | (simp; omega), (Below.refl _ _).alloc (Nat.le_refl _) _⟩
    · by_cases z1 : c = 1
      · subst z1
        have HR := hideC (show (decide (8 ≤ a ∨ 8 ≤ b) || !PM.isSize 1) = false from by simp [PM.isSize, ga, gb])
        rw [HR.out]
        go_enter Tryd.func23, Tryd.ntmps23
        go_wp2_with (first | (go_at_call 22; (first | refine (within_yes _ _ _ _ (by omega) (by omega)).mono ?_ | refine (within_no _ _ _ _ (by omega)).mono ?_); rintro e w' ⟨rfl, rfl⟩) | (go_at_call 43; refine (uses9 _).mono ?_; rintro e w' ⟨rfl, rfl⟩))
        go_ret
        exact ⟨by first | rfl | (simp; done) | (simp; omega), (Below.refl _ _).alloc (Nat.le_refl _) _⟩
      · by_cases z2 : c = 2
        · subst z2
          have HR := hideC (show (decide (8 ≤ a ∨ 8 ≤ b) || !PM.isSize 2) = false from by simp [PM.isSize, ga, gb])
          rw [HR.out]
          go_enter Tryd.func23, Tryd.ntmps23
          go_wp2_with (first | (go_at_call 22; (first | refine (within_yes _ _ _ _ (by omega) (by omega)).mono ?_ | refine (within_no _ _ _ _ (by omega)).mono ?_); rintro e w' ⟨rfl, rfl⟩) | (go_at_call 43; refine (uses9 _).mono ?_; rintro e w' ⟨rfl, rfl⟩))
          go_ret
          exact ⟨by first | rfl | (simp; done) | (simp; omega), (Below.refl _ _).alloc (Nat.le_refl _) _⟩
        · by_cases z4 : c = 4
          · subst z4
            have HR := hideC (show (decide (8 ≤ a ∨ 8 ≤ b) || !PM.isSize 4) = false from by simp [PM.isSize, ga, gb])
            rw [HR.out]
            go_enter Tryd.func23, Tryd.ntmps23
            go_wp2_with (first | (go_at_call 22; (first | refine (within_yes _ _ _ _ (by omega) (by omega)).mono ?_ | refine (within_no _ _ _ _ (by omega)).mono ?_); rintro e w' ⟨rfl, rfl⟩) | (go_at_call 43; refine (uses9 _).mono ?_; rintro e w' ⟨rfl, rfl⟩))
            go_ret
            exact ⟨by first | rfl | (simp; done) | (simp; omega), (Below.refl _ _).alloc (Nat.le_refl _) _⟩
          · by_cases z8 : c = 8
            · subst z8
              have HR := hideC (show (decide (8 ≤ a ∨ 8 ≤ b) || !PM.isSize 8) = false from by simp [PM.isSize, ga, gb])
              rw [HR.out]
              go_enter Tryd.func23, Tryd.ntmps23
              go_wp2_with (first | (go_at_call 22; (first | refine (within_yes _ _ _ _ (by omega) (by omega)).mono ?_ | refine (within_no _ _ _ _ (by omega)).mono ?_); rintro e w' ⟨rfl, rfl⟩) | (go_at_call 43; refine (uses9 _).mono ?_; rintro e w' ⟨rfl, rfl⟩))
              go_ret
              exact ⟨by first | rfl | (simp; done) | (simp; omega), (Below.refl _ _).alloc (Nat.le_refl _) _⟩
            · have HR := hideC (show (decide (8 ≤ a ∨ 8 ≤ b) || !PM.isSize c) = true from by simp [PM.isSize, z1, z2, z4, z8])
              have y1 : (c != 1) = true := by simpa using z1
              have y2 : (c != 2) = true := by simpa using z2
              have y4 : (c != 4) = true := by simpa using z4
              have y8 : (c != 8) = true := by simpa using z8
              rw [HR.out]
              go_enter Tryd.func23, Tryd.ntmps23
              go_wp2_with (first | (go_at_call 22; (first | refine (within_yes _ _ _ _ (by omega) (by omega)).mono ?_ | refine (within_no _ _ _ _ (by omega)).mono ?_); rintro e w' ⟨rfl, rfl⟩) | (go_at_call 43; refine (uses9 _).mono ?_; rintro e w' ⟨rfl, rfl⟩))
              go_ret
              exact ⟨by first | rfl | (simp; done) | (simp; omega), (Below.refl _ _).alloc (Nat.le_refl _) _⟩
set_option maxHeartbeats 1000000 in
theorem isBadR10 (a b c m : Int) (w : World) : Calls Tryd.prog 23 #[.agg #[.int .i64 10, .int .i64 a, .int .i64 b, .int .i64 c, .int .i64 m]] w fun e w' => e = .returned (.bool ((decide (8 ≤ a ∨ 8 ≤ b) || !PM.isSize c))) ∧ Below w.heap.size w w' := by
  by_cases ga : 8 ≤ a
  · have HR := hideC (show (decide (8 ≤ a ∨ 8 ≤ b) || !PM.isSize c) = true from by simp [ga])
    rw [HR.out]
    go_enter Tryd.func23, Tryd.ntmps23
    go_wp2_with (first | (go_at_call 22; (first | refine (within_yes _ _ _ _ (by omega) (by omega)).mono ?_ | refine (within_no _ _ _ _ (by omega)).mono ?_); rintro e w' ⟨rfl, rfl⟩) | (go_at_call 43; refine (uses10 _).mono ?_; rintro e w' ⟨rfl, rfl⟩))
    go_ret
    exact ⟨by first | rfl | (simp; done) | (simp; omega), (Below.refl _ _).alloc (Nat.le_refl _) _⟩
  · by_cases gb : 8 ≤ b
    · have HR := hideC (show (decide (8 ≤ a ∨ 8 ≤ b) || !PM.isSize c) = true from by simp [ga, gb])
      rw [HR.out]
      go_enter Tryd.func23, Tryd.ntmps23
      go_wp2_with (first | (go_at_call 22; (first | refine (within_yes _ _ _ _ (by omega) (by omega)).mono ?_ | refine (within_no _ _ _ _ (by omega)).mono ?_); rintro e w' ⟨rfl, rfl⟩) | (go_at_call 43; refine (uses10 _).mono ?_; rintro e w' ⟨rfl, rfl⟩))
      go_ret
      exact ⟨by first | rfl | (simp; done) | (simp; omega), (Below.refl _ _).alloc (Nat.le_refl _) _⟩
    · by_cases z1 : c = 1
      · subst z1
        have HR := hideC (show (decide (8 ≤ a ∨ 8 ≤ b) || !PM.isSize 1) = false from by simp [PM.isSize, ga, gb])
        rw [HR.out]
        go_enter Tryd.func23, Tryd.ntmps23
        go_wp2_with (first | (go_at_call 22; (first | refine (within_yes _ _ _ _ (by omega) (by omega)).mono ?_ | refine (within_no _ _ _ _ (by omega)).mono ?_); rintro e w' ⟨rfl, rfl⟩) | (go_at_call 43; refine (uses10 _).mono ?_; rintro e w' ⟨rfl, rfl⟩))
        go_ret
        exact ⟨by first | rfl | (simp; done) | (simp; omega), (Below.refl _ _).alloc (Nat.le_refl _) _⟩
      · by_cases z2 : c = 2
        · subst z2
          have HR := hideC (show (decide (8 ≤ a ∨ 8 ≤ b) || !PM.isSize 2) = false from by simp [PM.isSize, ga, gb])
          rw [HR.out]
          go_enter Tryd.func23, Tryd.ntmps23
          go_wp2_with (first | (go_at_call 22; (first | refine (within_yes _ _ _ _ (by omega) (by omega)).mono ?_ | refine (within_no _ _ _ _ (by omega)).mono ?_); rintro e w' ⟨rfl, rfl⟩) | (go_at_call 43; refine (uses10 _).mono ?_; rintro e w' ⟨rfl, rfl⟩))
          go_ret
          exact ⟨by first | rfl | (simp; done) | (simp; omega), (Below.refl _ _).alloc (Nat.le_refl _) _⟩
        · by_cases z4 : c = 4
          · subst z4
            have HR := hideC (show (decide (8 ≤ a ∨ 8 ≤ b) || !PM.isSize 4) = false from by simp [PM.isSize, ga, gb])
            rw [HR.out]
            go_enter Tryd.func23, Tryd.ntmps23
            go_wp2_with (first | (go_at_call 22; (first | refine (within_yes _ _ _ _ (by omega) (by omega)).mono ?_ | refine (within_no _ _ _ _ (by omega)).mono ?_); rintro e w' ⟨rfl, rfl⟩) | (go_at_call 43; refine (uses10 _).mono ?_; rintro e w' ⟨rfl, rfl⟩))
            go_ret
            exact ⟨by first | rfl | (simp; done) | (simp; omega), (Below.refl _ _).alloc (Nat.le_refl _) _⟩
          · by_cases z8 : c = 8
            · subst z8
              have HR := hideC (show (decide (8 ≤ a ∨ 8 ≤ b) || !PM.isSize 8) = false from by simp [PM.isSize, ga, gb])
              rw [HR.out]
              go_enter Tryd.func23, Tryd.ntmps23
              go_wp2_with (first | (go_at_call 22; (first | refine (within_yes _ _ _ _ (by omega) (by omega)).mono ?_ | refine (within_no _ _ _ _ (by omega)).mono ?_); rintro e w' ⟨rfl, rfl⟩) | (go_at_call 43; refine (uses10 _).mono ?_; rintro e w' ⟨rfl, rfl⟩))
              go_ret
              exact ⟨by first | rfl | (simp; done) | (simp; omega), (Below.refl _ _).alloc (Nat.le_refl _) _⟩
            · have HR := hideC (show (decide (8 ≤ a ∨ 8 ≤ b) || !PM.isSize c) = true from by simp [PM.isSize, z1, z2, z4, z8])
              have y1 : (c != 1) = true := by simpa using z1
              have y2 : (c != 2) = true := by simpa using z2
              have y4 : (c != 4) = true := by simpa using z4
              have y8 : (c != 8) = true := by simpa using z8
              rw [HR.out]
              go_enter Tryd.func23, Tryd.ntmps23
              go_wp2_with (first | (go_at_call 22; (first | refine (within_yes _ _ _ _ (by omega) (by omega)).mono ?_ | refine (within_no _ _ _ _ (by omega)).mono ?_); rintro e w' ⟨rfl, rfl⟩) | (go_at_call 43; refine (uses10 _).mono ?_; rintro e w' ⟨rfl, rfl⟩))
              go_ret
              exact ⟨by first | rfl | (simp; done) | (simp; omega), (Below.refl _ _).alloc (Nat.le_refl _) _⟩
set_option maxHeartbeats 1000000 in
theorem isBadR11 (a b c m : Int) (w : World) : Calls Tryd.prog 23 #[.agg #[.int .i64 11, .int .i64 a, .int .i64 b, .int .i64 c, .int .i64 m]] w fun e w' => e = .returned (.bool (decide (8 ≤ a))) ∧ Below w.heap.size w w' := by
  by_cases ga : 8 ≤ a
  · have HR := hideC (show decide (8 ≤ a) = true from by simp [ga])
    rw [HR.out]
    go_enter Tryd.func23, Tryd.ntmps23
    go_wp2_with (first | (go_at_call 22; (first | refine (within_yes _ _ _ _ (by omega) (by omega)).mono ?_ | refine (within_no _ _ _ _ (by omega)).mono ?_); rintro e w' ⟨rfl, rfl⟩) | (go_at_call 43; refine (uses11 _).mono ?_; rintro e w' ⟨rfl, rfl⟩))
    go_ret
    exact ⟨by first | rfl | (simp; done) | (simp; omega), (Below.refl _ _).alloc (Nat.le_refl _) _⟩
  · have HR := hideC (show decide (8 ≤ a) = false from by simp [ga])
    rw [HR.out]
    go_enter Tryd.func23, Tryd.ntmps23
    go_wp2_with (first | (go_at_call 22; (first | refine (within_yes _ _ _ _ (by omega) (by omega)).mono ?_ | refine (within_no _ _ _ _ (by omega)).mono ?_); rintro e w' ⟨rfl, rfl⟩) | (go_at_call 43; refine (uses11 _).mono ?_; rintro e w' ⟨rfl, rfl⟩))
    go_ret
    exact ⟨by first | rfl | (simp; done) | (simp; omega), (Below.refl _ _).alloc (Nat.le_refl _) _⟩
set_option maxHeartbeats 1000000 in
theorem isBadR12 (a b c m : Int) (w : World) : Calls Tryd.prog 23 #[.agg #[.int .i64 12, .int .i64 a, .int .i64 b, .int .i64 c, .int .i64 m]] w fun e w' => e = .returned (.bool (false)) ∧ Below w.heap.size w w' := by
  go_enter Tryd.func23, Tryd.ntmps23
  go_wp2_with (first | (go_at_call 22; (first | refine (within_yes _ _ _ _ (by omega) (by omega)).mono ?_ | refine (within_no _ _ _ _ (by omega)).mono ?_); rintro e w' ⟨rfl, rfl⟩) | (go_at_call 43; refine (uses12 _).mono ?_; rintro e w' ⟨rfl, rfl⟩))
  go_ret
  exact ⟨by first | rfl | (simp; done) | (simp; omega), (Below.refl _ _).alloc (Nat.le_refl _) _⟩
set_option maxHeartbeats 1000000 in
theorem isBadR13 (a b c m : Int) (w : World) : Calls Tryd.prog 23 #[.agg #[.int .i64 13, .int .i64 a, .int .i64 b, .int .i64 c, .int .i64 m]] w fun e w' => e = .returned (.bool (decide (8 ≤ a ∨ 8 ≤ b))) ∧ Below w.heap.size w w' := by
  by_cases ga : 8 ≤ a
  · have HR := hideC (show decide (8 ≤ a ∨ 8 ≤ b) = true from by simp [ga])
    rw [HR.out]
    go_enter Tryd.func23, Tryd.ntmps23
    go_wp2_with (first | (go_at_call 22; (first | refine (within_yes _ _ _ _ (by omega) (by omega)).mono ?_ | refine (within_no _ _ _ _ (by omega)).mono ?_); rintro e w' ⟨rfl, rfl⟩) | (go_at_call 43; refine (uses13 _).mono ?_; rintro e w' ⟨rfl, rfl⟩))
    go_ret
    exact ⟨by first | rfl | (simp; done) | (simp; omega), (Below.refl _ _).alloc (Nat.le_refl _) _⟩
  · by_cases gb : 8 ≤ b
    · have HR := hideC (show decide (8 ≤ a ∨ 8 ≤ b) = true from by simp [ga, gb])
      rw [HR.out]
      go_enter Tryd.func23, Tryd.ntmps23
      go_wp2_with (first | (go_at_call 22; (first | refine (within_yes _ _ _ _ (by omega) (by omega)).mono ?_ | refine (within_no _ _ _ _ (by omega)).mono ?_); rintro e w' ⟨rfl, rfl⟩) | (go_at_call 43; refine (uses13 _).mono ?_; rintro e w' ⟨rfl, rfl⟩))
      go_ret
      exact ⟨by first | rfl | (simp; done) | (simp; omega), (Below.refl _ _).alloc (Nat.le_refl _) _⟩
    · have HR := hideC (show decide (8 ≤ a ∨ 8 ≤ b) = false from by simp [ga, gb])
      rw [HR.out]
      go_enter Tryd.func23, Tryd.ntmps23
      go_wp2_with (first | (go_at_call 22; (first | refine (within_yes _ _ _ _ (by omega) (by omega)).mono ?_ | refine (within_no _ _ _ _ (by omega)).mono ?_); rintro e w' ⟨rfl, rfl⟩) | (go_at_call 43; refine (uses13 _).mono ?_; rintro e w' ⟨rfl, rfl⟩))
      go_ret
      exact ⟨by first | rfl | (simp; done) | (simp; omega), (Below.refl _ _).alloc (Nat.le_refl _) _⟩
set_option maxHeartbeats 1000000 in
theorem isBadR14 (a b c m : Int) (w : World) : Calls Tryd.prog 23 #[.agg #[.int .i64 14, .int .i64 a, .int .i64 b, .int .i64 c, .int .i64 m]] w fun e w' => e = .returned (.bool (decide (8 ≤ a ∨ 8 ≤ b))) ∧ Below w.heap.size w w' := by
  by_cases ga : 8 ≤ a
  · have HR := hideC (show decide (8 ≤ a ∨ 8 ≤ b) = true from by simp [ga])
    rw [HR.out]
    go_enter Tryd.func23, Tryd.ntmps23
    go_wp2_with (first | (go_at_call 22; (first | refine (within_yes _ _ _ _ (by omega) (by omega)).mono ?_ | refine (within_no _ _ _ _ (by omega)).mono ?_); rintro e w' ⟨rfl, rfl⟩) | (go_at_call 43; refine (uses14 _).mono ?_; rintro e w' ⟨rfl, rfl⟩))
    go_ret
    exact ⟨by first | rfl | (simp; done) | (simp; omega), (Below.refl _ _).alloc (Nat.le_refl _) _⟩
  · by_cases gb : 8 ≤ b
    · have HR := hideC (show decide (8 ≤ a ∨ 8 ≤ b) = true from by simp [ga, gb])
      rw [HR.out]
      go_enter Tryd.func23, Tryd.ntmps23
      go_wp2_with (first | (go_at_call 22; (first | refine (within_yes _ _ _ _ (by omega) (by omega)).mono ?_ | refine (within_no _ _ _ _ (by omega)).mono ?_); rintro e w' ⟨rfl, rfl⟩) | (go_at_call 43; refine (uses14 _).mono ?_; rintro e w' ⟨rfl, rfl⟩))
      go_ret
      exact ⟨by first | rfl | (simp; done) | (simp; omega), (Below.refl _ _).alloc (Nat.le_refl _) _⟩
    · have HR := hideC (show decide (8 ≤ a ∨ 8 ≤ b) = false from by simp [ga, gb])
      rw [HR.out]
      go_enter Tryd.func23, Tryd.ntmps23
      go_wp2_with (first | (go_at_call 22; (first | refine (within_yes _ _ _ _ (by omega) (by omega)).mono ?_ | refine (within_no _ _ _ _ (by omega)).mono ?_); rintro e w' ⟨rfl, rfl⟩) | (go_at_call 43; refine (uses14 _).mono ?_; rintro e w' ⟨rfl, rfl⟩))
      go_ret
      exact ⟨by first | rfl | (simp; done) | (simp; omega), (Below.refl _ _).alloc (Nat.le_refl _) _⟩
set_option maxHeartbeats 1000000 in
theorem isBadR15 (a b c m : Int) (w : World) : Calls Tryd.prog 23 #[.agg #[.int .i64 15, .int .i64 a, .int .i64 b, .int .i64 c, .int .i64 m]] w fun e w' => e = .returned (.bool (decide (8 ≤ a))) ∧ Below w.heap.size w w' := by
  by_cases ga : 8 ≤ a
  · have HR := hideC (show decide (8 ≤ a) = true from by simp [ga])
    rw [HR.out]
    go_enter Tryd.func23, Tryd.ntmps23
    go_wp2_with (first | (go_at_call 22; (first | refine (within_yes _ _ _ _ (by omega) (by omega)).mono ?_ | refine (within_no _ _ _ _ (by omega)).mono ?_); rintro e w' ⟨rfl, rfl⟩) | (go_at_call 43; refine (uses15 _).mono ?_; rintro e w' ⟨rfl, rfl⟩))
    go_ret
    exact ⟨by first | rfl | (simp; done) | (simp; omega), (Below.refl _ _).alloc (Nat.le_refl _) _⟩
  · have HR := hideC (show decide (8 ≤ a) = false from by simp [ga])
    rw [HR.out]
    go_enter Tryd.func23, Tryd.ntmps23
    go_wp2_with (first | (go_at_call 22; (first | refine (within_yes _ _ _ _ (by omega) (by omega)).mono ?_ | refine (within_no _ _ _ _ (by omega)).mono ?_); rintro e w' ⟨rfl, rfl⟩) | (go_at_call 43; refine (uses15 _).mono ?_; rintro e w' ⟨rfl, rfl⟩))
    go_ret
    exact ⟨by first | rfl | (simp; done) | (simp; omega), (Below.refl _ _).alloc (Nat.le_refl _) _⟩
set_option maxHeartbeats 1000000 in
theorem isBadR16 (a b c m : Int) (w : World) : Calls Tryd.prog 23 #[.agg #[.int .i64 16, .int .i64 a, .int .i64 b, .int .i64 c, .int .i64 m]] w fun e w' => e = .returned (.bool ((!decide (1 ≤ m ∧ m ≤ 6)))) ∧ Below w.heap.size w w' := by
  by_cases h1 : 1 ≤ m
  · by_cases h2 : m ≤ 6
    · have HR := hideC (show (!decide (1 ≤ m ∧ m ≤ 6)) = false from by simp [h1, h2])
      rw [HR.out]
      go_enter Tryd.func23, Tryd.ntmps23
      go_wp2_with (first | (go_at_call 22; (first | refine (within_yes _ _ _ _ (by omega) (by omega)).mono ?_ | refine (within_no _ _ _ _ (by omega)).mono ?_); rintro e w' ⟨rfl, rfl⟩) | (go_at_call 43; refine (uses16 _).mono ?_; rintro e w' ⟨rfl, rfl⟩))
      go_ret
      exact ⟨by first | rfl | (simp; done) | (simp; omega), (Below.refl _ _).alloc (Nat.le_refl _) _⟩
    · have HR := hideC (show (!decide (1 ≤ m ∧ m ≤ 6)) = true from by simp [h1, h2])
      rw [HR.out]
      go_enter Tryd.func23, Tryd.ntmps23
      go_wp2_with (first | (go_at_call 22; (first | refine (within_yes _ _ _ _ (by omega) (by omega)).mono ?_ | refine (within_no _ _ _ _ (by omega)).mono ?_); rintro e w' ⟨rfl, rfl⟩) | (go_at_call 43; refine (uses16 _).mono ?_; rintro e w' ⟨rfl, rfl⟩))
      go_ret
      exact ⟨by first | rfl | (simp; done) | (simp; omega), (Below.refl _ _).alloc (Nat.le_refl _) _⟩
  · have HR := hideC (show (!decide (1 ≤ m ∧ m ≤ 6)) = true from by simp [h1])
    rw [HR.out]
    go_enter Tryd.func23, Tryd.ntmps23
    go_wp2_with (first | (go_at_call 22; (first | refine (within_yes _ _ _ _ (by omega) (by omega)).mono ?_ | refine (within_no _ _ _ _ (by omega)).mono ?_); rintro e w' ⟨rfl, rfl⟩) | (go_at_call 43; refine (uses16 _).mono ?_; rintro e w' ⟨rfl, rfl⟩))
    go_ret
    exact ⟨by first | rfl | (simp; done) | (simp; omega), (Below.refl _ _).alloc (Nat.le_refl _) _⟩
set_option maxHeartbeats 1000000 in
theorem isBadRX (op a b c m : Int) (w : World) (h : op < 1 ∨ 16 < op) : Calls Tryd.prog 23 #[.agg #[.int .i64 op, .int .i64 a, .int .i64 b, .int .i64 c, .int .i64 m]] w fun e w' => e = .returned (.bool true) ∧ Below w.heap.size w w' := by
  go_enter Tryd.func23, Tryd.ntmps23
  go_wp2_with (go_at_call 22; refine (within_no _ _ _ _ (by omega)).mono ?_; rintro e w' ⟨rfl, rfl⟩)
  go_ret
  exact ⟨rfl, (Below.refl _ _).alloc (Nat.le_refl _) _⟩
theorem isBadR_any (i : PM.Ins) (w : World) : Calls Tryd.prog 23 #[.agg i.cells] w fun e w' => e = .returned (.bool i.bad) ∧ Below w.heap.size w w' := by
  obtain ⟨op, a, b, c, m⟩ := i
  rcases op_cases op with h | h | h | h | h | h | h | h | h | h | h | h | h | h | h | h | h
  · rw [bad_else _ h]; exact isBadRX op a b c m w h
  · subst h; exact isBadR1 a b c m w
  · subst h; exact isBadR2 a b c m w
  · subst h; exact isBadR3 a b c m w
  · subst h; exact isBadR4 a b c m w
  · subst h; exact isBadR5 a b c m w
  · subst h; exact isBadR6 a b c m w
  · subst h; exact isBadR7 a b c m w
  · subst h; exact isBadR8 a b c m w
  · subst h; exact isBadR9 a b c m w
  · subst h; exact isBadR10 a b c m w
  · subst h; exact isBadR11 a b c m w
  · subst h; exact isBadR12 a b c m w
  · subst h; exact isBadR13 a b c m w
  · subst h; exact isBadR14 a b c m w
  · subst h; exact isBadR15 a b c m w
  · subst h; exact isBadR16 a b c m w
end Go.Proofs.YtklobjfhjlkgfaaDoor.PW
