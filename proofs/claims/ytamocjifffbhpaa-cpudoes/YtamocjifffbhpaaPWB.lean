import Derived.Test.YtamocjifffbhpaaPW2
import Derived.Test.YtamocjifffbhpaaPM2
namespace Go.Proofs.Ytamocjifffbhpaa.PW
open Go.RowKit
set_option linter.unusedVariables false
set_option maxRecDepth 100000
theorem reckon2 (b c : Int) (w : World) : Calls Try.prog 30 #[.int .i64 2, .int .i64 b, .int .i64 c] w fun e w' => e = .returned (.int .i64 (PM.rk 2 b c)) ∧ w = w' := by
  go_enter Try.func30, Try.ntmps30
  go_wp2
  go_ret
  exact ⟨rfl, rfl⟩
theorem reckon3 (b c : Int) (w : World) : Calls Try.prog 30 #[.int .i64 3, .int .i64 b, .int .i64 c] w fun e w' => e = .returned (.int .i64 (PM.rk 3 b c)) ∧ w = w' := by
  go_enter Try.func30, Try.ntmps30
  go_wp2
  go_ret
  exact ⟨rfl, rfl⟩
theorem reckon4 (b c : Int) (w : World) : Calls Try.prog 30 #[.int .i64 4, .int .i64 b, .int .i64 c] w fun e w' => e = .returned (.int .i64 (PM.rk 4 b c)) ∧ w = w' := by
  go_enter Try.func30, Try.ntmps30
  go_wp2
  go_ret
  exact ⟨rfl, rfl⟩
theorem reckon5 (b c : Int) (w : World) : Calls Try.prog 30 #[.int .i64 5, .int .i64 b, .int .i64 c] w fun e w' => e = .returned (.int .i64 (PM.rk 5 b c)) ∧ w = w' := by
  go_enter Try.func30, Try.ntmps30
  go_wp2
  go_ret
  exact ⟨rfl, rfl⟩
theorem reckon6 (b c : Int) (w : World) : Calls Try.prog 30 #[.int .i64 6, .int .i64 b, .int .i64 c] w fun e w' => e = .returned (.int .i64 (PM.rk 6 b c)) ∧ w = w' := by
  go_enter Try.func30, Try.ntmps30
  go_wp2
  go_ret
  exact ⟨rfl, rfl⟩
theorem reckon7 (b c : Int) (w : World) : Calls Try.prog 30 #[.int .i64 7, .int .i64 b, .int .i64 c] w fun e w' => e = .returned (.int .i64 (PM.rk 7 b c)) ∧ w = w' := by
  have h1 := PM.u64_and63 c
  have h2 := PM.i64_and63 c
  have h3 : IntKind.u64.wrap (c % 64) = c % 64 := by rw [IntKind.wrap_u64]; omega
  have HR := hideC (show PM.rk 7 b c = wrap64 (IntKind.u64.wrap b / 2 ^ min (c % 64).toNat 64) from rfl)
  rw [HR.out]
  have h4 : 0 ≤ c % 64 := by omega
  obtain ⟨E, hE⟩ : ∃ E, E = c % 64 := ⟨_, rfl⟩
  rw [← hE] at h1 h2 h3 h4 ⊢
  clear hE
  go_enter Try.func30, Try.ntmps30
  go_wp2
  go_ret
  exact ⟨rfl, rfl⟩
theorem reckonR2 (b c : Int) (w : World) : Calls Try.prog 26 #[.int .i64 2, .int .i64 b, .int .i64 c] w fun e w' => e = .returned (.int .i64 (PM.rk 2 b c)) ∧ w = w' := by
  go_enter Try.func26, Try.ntmps26
  go_wp2
  go_ret
  exact ⟨rfl, rfl⟩
theorem reckonR3 (b c : Int) (w : World) : Calls Try.prog 26 #[.int .i64 3, .int .i64 b, .int .i64 c] w fun e w' => e = .returned (.int .i64 (PM.rk 3 b c)) ∧ w = w' := by
  go_enter Try.func26, Try.ntmps26
  go_wp2
  go_ret
  exact ⟨rfl, rfl⟩
theorem reckonR4 (b c : Int) (w : World) : Calls Try.prog 26 #[.int .i64 4, .int .i64 b, .int .i64 c] w fun e w' => e = .returned (.int .i64 (PM.rk 4 b c)) ∧ w = w' := by
  go_enter Try.func26, Try.ntmps26
  go_wp2
  go_ret
  exact ⟨rfl, rfl⟩
theorem reckonR5 (b c : Int) (w : World) : Calls Try.prog 26 #[.int .i64 5, .int .i64 b, .int .i64 c] w fun e w' => e = .returned (.int .i64 (PM.rk 5 b c)) ∧ w = w' := by
  go_enter Try.func26, Try.ntmps26
  go_wp2
  go_ret
  exact ⟨rfl, rfl⟩
theorem reckonR6 (b c : Int) (w : World) : Calls Try.prog 26 #[.int .i64 6, .int .i64 b, .int .i64 c] w fun e w' => e = .returned (.int .i64 (PM.rk 6 b c)) ∧ w = w' := by
  go_enter Try.func26, Try.ntmps26
  go_wp2
  go_ret
  exact ⟨rfl, rfl⟩
theorem reckonR7 (b c : Int) (w : World) : Calls Try.prog 26 #[.int .i64 7, .int .i64 b, .int .i64 c] w fun e w' => e = .returned (.int .i64 (PM.rk 7 b c)) ∧ w = w' := by
  have h1 := PM.u64_and63 c
  have h2 := PM.i64_and63 c
  have h3 : IntKind.u64.wrap (c % 64) = c % 64 := by rw [IntKind.wrap_u64]; omega
  have HR := hideC (show PM.rk 7 b c = wrap64 (IntKind.u64.wrap b / 2 ^ min (c % 64).toNat 64) from rfl)
  rw [HR.out]
  have h4 : 0 ≤ c % 64 := by omega
  obtain ⟨E, hE⟩ : ∃ E, E = c % 64 := ⟨_, rfl⟩
  rw [← hE] at h1 h2 h3 h4 ⊢
  clear hE
  go_enter Try.func26, Try.ntmps26
  go_wp2
  go_ret
  exact ⟨rfl, rfl⟩
theorem holds13 (a b : Int) (w : World) : Calls Try.prog 31 #[.int .i64 13, .int .i64 a, .int .i64 b] w fun e w' => e = .returned (.bool (decide (a = b))) ∧ w = w' := by
  go_enter Try.func31, Try.ntmps31
  go_wp2
  go_ret
  exact ⟨by first | rfl | simp [beq_eq_decide], rfl⟩
theorem holds14 (a b : Int) (w : World) : Calls Try.prog 31 #[.int .i64 14, .int .i64 a, .int .i64 b] w fun e w' => e = .returned (.bool (decide (a < b))) ∧ w = w' := by
  go_enter Try.func31, Try.ntmps31
  go_wp2
  go_ret
  exact ⟨by first | rfl | simp [beq_eq_decide], rfl⟩
theorem _root_.Go.Proofs.Ytamocjifffbhpaa.PM.row_at (p : PM.Pr) (j : Nat) (h : j < 8) (hs : j < p.row.size) : p.row[j] = .int .i64 (p.r j) := by
  have e := PM.row_get p j h
  rw [Array.getElem?_eq_getElem hs] at e
  exact Option.some.inj e
end Go.Proofs.Ytamocjifffbhpaa.PW
