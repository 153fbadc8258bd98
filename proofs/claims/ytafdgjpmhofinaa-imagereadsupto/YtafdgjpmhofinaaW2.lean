import Derived.Test.YtafdgjpmhofinaaW1
namespace Go.Proofs.Ytafdgjpmhofinaa.W
open Go.RowKit
set_option linter.unusedVariables false

theorem within_any (n a b : Int) (w : World) : Calls Try.prog 16 #[.int .i64 n, .int .i64 a, .int .i64 b] w fun e w' => e = .returned (.bool (decide (a ≤ n ∧ n ≤ b))) ∧ w = w' := by
  by_cases h1 : a ≤ n
  · by_cases h2 : n ≤ b
    · rw [show decide (a ≤ n ∧ n ≤ b) = true from decide_eq_true ⟨h1, h2⟩]
      go_enter Try.func16, Try.ntmps16
      go_wp2
      go_ret
      exact ⟨rfl, rfl⟩
    · have d : decide (n ≤ b) = false := decide_eq_false h2
      rw [show decide (a ≤ n ∧ n ≤ b) = false from decide_eq_false (by omega)]
      go_enter Try.func16, Try.ntmps16
      go_wp2
      go_ret
      exact ⟨rfl, rfl⟩
  · have d : decide (a ≤ n) = false := decide_eq_false h1
    rw [show decide (a ≤ n ∧ n ≤ b) = false from decide_eq_false (by omega)]
    go_enter Try.func16, Try.ntmps16
    go_wp2
    go_ret
    exact ⟨rfl, rfl⟩
/-- is n from a to b -/
def inB (n a b : Int) : Bool := decide (a ≤ n ∧ n ≤ b)
theorem inB_yes {n a b : Int} (h : a ≤ n ∧ n ≤ b) : inB n a b = true := decide_eq_true h
theorem inB_no {n a b : Int} (h : ¬ (a ≤ n ∧ n ≤ b)) : inB n a b = false := decide_eq_false h
theorem inB_any (n a b : Int) (w : World) : Calls Try.prog 16 #[.int .i64 n, .int .i64 a, .int .i64 b] w fun e w' => e = .returned (.bool (inB n a b)) ∧ w = w' := within_any n a b w

theorem sign_cases (n : Int) : (M.signB n = true ∧ ((97 ≤ n ∧ n ≤ 122) ∨ (decide (97 ≤ n) = false ∧ 48 ≤ n ∧ n ≤ 57) ∨ n = 95)) ∨
    (M.signB n = false ∧ (n == 95) = false ∧ ((97 ≤ n ∧ decide (n ≤ 122) = false ∧ 48 ≤ n ∧ decide (n ≤ 57) = false) ∨ (decide (97 ≤ n) = false ∧ 48 ≤ n ∧ decide (n ≤ 57) = false) ∨ (decide (97 ≤ n) = false ∧ decide (48 ≤ n) = false))) := by
  unfold M.signB
  by_cases h1 : 97 ≤ n ∧ n ≤ 122
  · exact .inl ⟨by rw [decide_eq_true h1]; rfl, .inl h1⟩
  · by_cases h2 : 48 ≤ n ∧ n ≤ 57
    · exact .inl ⟨by rw [decide_eq_true h2]; simp, .inr (.inl ⟨by simp; omega, h2.1, h2.2⟩)⟩
    · by_cases h3 : n = 95
      · exact .inl ⟨by rw [decide_eq_true h3]; simp, .inr (.inr h3)⟩
      · refine .inr ⟨by rw [decide_eq_false h1, decide_eq_false h2, decide_eq_false h3]; rfl, by simpa using h3, ?_⟩
        by_cases a : 97 ≤ n
        · exact .inl ⟨a, by simp; omega, by omega, by simp; omega⟩
        · by_cases c : 48 ≤ n
          · exact .inr (.inl ⟨by simpa using a, c, by simp; omega⟩)
          · exact .inr (.inr ⟨by simpa using a, by simpa using c⟩)

set_option maxHeartbeats 2000000 in
theorem named_any (s : ByteArray) (w : World) (hs : M.Short s.size) : Calls Try.prog 43 #[.string s] w fun e w' => e = .returned (.bool (M.nameB s)) ∧ w = w' := by
  unfold M.Short at hs
  have hml : s.size ≤ maxLen := by unfold maxLen; omega
  by_cases h1 : 1 ≤ s.size ∧ s.size ≤ 12
  · have d1 : inB (s.size : Int) 1 12 = true := inB_yes (by omega)
    go_enter Try.func43, Try.ntmps43
    go_wp2_with (go_at_call 16; refine (inB_any _ _ _ _).mono ?_; rintro e w' ⟨rfl, rfl⟩; rw [d1])
    go_loop [3] (fun i => ∃ k : Nat, k ≤ s.size ∧ i = .int .i64 k ∧ ∀ j (hj : j < s.size), j < k → M.signB s[j].toNat = true) (fun i => s.size - (intOf i).toNat)
    case atStart => exact ⟨0, by omega, rfl, fun j _ h => by omega⟩
    case round =>
      obtain ⟨k, hk, rfl, hall⟩ := hrel
      have HA := hideC hall
      clear hall
      by_cases hlt : k < s.size
      · have hcs := sign_cases (s[k].toNat : Int)
        have hget := hideC (rfl : s[k] = s[k])
        obtain ⟨c, hcc⟩ : ∃ c : Int, c = (s[k].toNat : Int) := ⟨_, rfl⟩
        rw [← hcc] at hcs
        have HC := hideC hcc
        rcases hcs with ⟨hy, hh⟩ | ⟨hy, h95, hh⟩
        · rcases hh with ⟨g1, g2⟩ | ⟨g1, g2, g3⟩ | g1
          · rw [hcc] at *
            go_wp2
            go_round
            case rel => exact ⟨k + 1, by omega, by go_num, fun j hj h => if e : j = k then by subst e; exact hy else HA.out j hj (by omega)⟩
            case measure => simp [intOf]; omega
          · rw [hcc] at *
            go_wp2
            go_round
            case rel => exact ⟨k + 1, by omega, by go_num, fun j hj h => if e : j = k then by subst e; exact hy else HA.out j hj (by omega)⟩
            case measure => simp [intOf]; omega
          · rw [hcc] at *
            go_wp2
            go_round
            case rel => exact ⟨k + 1, by omega, by go_num, fun j hj h => if e : j = k then by subst e; exact hy else HA.out j hj (by omega)⟩
            case measure => simp [intOf]; omega
        · have HR := hideC (M.name_no s k hlt (by rw [← hcc]; exact hy))
          rcases hh with ⟨g1, g2, g3, g4⟩ | ⟨g1, g2, g3⟩ | ⟨g1, g2⟩
          · rw [hcc] at *
            go_wp2
            go_ret
            exact ⟨ret_bool HR.out.symm, rfl⟩
          · rw [hcc] at *
            go_wp2
            go_ret
            exact ⟨ret_bool HR.out.symm, rfl⟩
          · rw [hcc] at *
            go_wp2
            go_ret
            exact ⟨ret_bool HR.out.symm, rfl⟩
      · obtain rfl : k = s.size := by omega
        have HR := hideC (M.name_yes s h1.1 h1.2 (fun k hk => HA.out k hk hk))
        go_wp2
        go_ret
        exact ⟨ret_bool HR.out.symm, rfl⟩
  · have HR := hideC (M.name_len s h1)
    have d1 : inB (s.size : Int) 1 12 = false := inB_no (by omega)
    go_enter Try.func43, Try.ntmps43
    go_wp2_with (go_at_call 16; refine (inB_any _ _ _ _).mono ?_; rintro e w' ⟨rfl, rfl⟩; rw [d1])
    go_ret
    exact ⟨ret_bool HR.out.symm, rfl⟩
end Go.Proofs.Ytafdgjpmhofinaa.W
