import Derived.Test.YtamocjifffbhpaaProg
import Derived.Test.YtamocjifffbhpaaCM
import Derived.WalkLawsBesides
namespace Go.Proofs.Ytamocjifffbhpaa.CW
open Go.RowKit
set_option linter.unusedVariables false
set_option maxRecDepth 100000

theorem ret_int {k : IntKind} {a b : Int} (h : a = b) : Value.int k a = .int k b := by rw [h]

theorem rightSize_yes (n : Int) (w : World) (h1 : 1 ≤ n) (h2 : n ≤ 8) :
    Calls Try.prog 27 #[.int .i64 n] w fun e w' => e = .returned (.bool true) ∧ w = w' := by
  go_enter Try.func27, Try.ntmps27
  go_wp2
  go_ret
  exact ⟨rfl, rfl⟩
theorem rightSize_no (n : Int) (w : World) (h1 : n < 1 ∨ 8 < n) :
    Calls Try.prog 27 #[.int .i64 n] w fun e w' => e = .returned (.bool false) ∧ w = w' := by
  rcases h1 with h | h
  · go_enter Try.func27, Try.ntmps27
    go_wp2
    go_ret
    exact ⟨rfl, rfl⟩
  · have h' : 1 ≤ n := by omega
    have h'' : decide (n ≤ 8) = false := by simp; omega
    go_enter Try.func27, Try.ntmps27
    go_wp2
    go_ret
    exact ⟨rfl, rfl⟩

theorem get_no (s : ByteArray) (w : World) (hs : s.size ≤ maxLen) (h1 : (s.size : Int) < 1 ∨ 8 < (s.size : Int)) :
    Calls Try.prog 18 #[.string s] w fun e w' => e = .returned (.tuple #[.int .i64 0, .int .i64 3]) ∧ w = w' := by
  unfold maxLen at hs
  go_enter Try.func18, Try.ntmps18
  go_wp2_with (go_at_call 27; refine (rightSize_no _ _ h1).mono ?_; rintro e w' ⟨rfl, rfl⟩)
  go_ret2
  exact ⟨rfl, rfl⟩

set_option maxHeartbeats 400000 in
theorem get_yes (s : ByteArray) (w : World) (h1 : 1 ≤ s.size) (h2 : s.size ≤ 8) :
    Calls Try.prog 18 #[.string s] w fun e w' => e = .returned (.tuple #[.int .i64 (wrap64 (Lib.leNat s.data.toList)), .int .i64 0]) ∧ w = w' := by
  go_enter Try.func18, Try.ntmps18
  go_wp2_with (go_at_call 27; refine (rightSize_yes _ _ (by omega) (by omega)).mono ?_; rintro e w' ⟨rfl, rfl⟩)
  go_loop [4, 5] (fun n i => ∃ k : Nat, k ≤ s.size ∧ i = .int .i64 ((k : Int) - 1) ∧ n = .int .u64 (Lib.leNat (s.data.toList.drop k))) (fun _ i => (intOf i + 1).toNat)
  case atStart => exact ⟨s.size, Nat.le_refl _, rfl, by rw [List.drop_of_length_le (by rw [← Lib.size_eq]; exact Nat.le_refl _)]; rfl⟩
  case round =>
    obtain ⟨k, hk, rfl, rfl⟩ := hrel
    by_cases hlt : 0 < k
    · go_wp2
      go_round
      case rel =>
        refine ⟨k - 1, by omega, ret_int (by omega), ret_int ?_⟩
        have hb : s[k - 1].toNat < 256 := s[k - 1].toNat_lt
        rw [CM.leNat_step s k hlt hk, CM.or_u64 _ _ (by omega) (by have := CM.leNat_lt7 (s.data.toList.drop k) (by rw [List.length_drop, ← Lib.size_eq]; omega); omega) (by omega) (by omega)]
      case measure => simp [intOf]; omega
    · obtain rfl : k = 0 := by omega
      go_wp2
      go_ret2
      exact ⟨rfl, rfl⟩

set_option maxHeartbeats 400000 in
theorem number_any (s : ByteArray) (w : World) (h1 : 1 ≤ s.size) (h2 : s.size ≤ 8) :
    Calls Try.prog 21 #[.string s] w fun e w' => e = .returned (.int .i64 (wrap64 (Lib.leNat s.data.toList))) ∧ w = w' := by
  go_enter Try.func21, Try.ntmps21
  go_wp2
  go_loop [3, 4] (fun n i => ∃ k : Nat, k ≤ s.size ∧ i = .int .i64 ((k : Int) - 1) ∧ n = .int .i64 (wrap64 (Lib.leNat (s.data.toList.drop k)))) (fun _ i => (intOf i + 1).toNat)
  case atStart => exact ⟨s.size, Nat.le_refl _, rfl, by rw [List.drop_of_length_le (by rw [← Lib.size_eq]; exact Nat.le_refl _)]; exact ret_int (by simp [Lib.leNat, wrap64])⟩
  case round =>
    obtain ⟨k, hk, rfl, rfl⟩ := hrel
    by_cases hlt : 0 < k
    · go_wp2
      go_round
      case rel =>
        refine ⟨k - 1, by omega, ret_int (by omega), ret_int ?_⟩
        have hb : s[k - 1].toNat < 256 := s[k - 1].toNat_lt
        rw [CM.leNat_step s k hlt hk, CM.or_i64' _ _ (by omega) (by omega)]
      case measure => simp [intOf]; omega
    · obtain rfl : k = 0 := by omega
      go_wp2
      go_ret
      exact ⟨rfl, rfl⟩
end Go.Proofs.Ytamocjifffbhpaa.CW
