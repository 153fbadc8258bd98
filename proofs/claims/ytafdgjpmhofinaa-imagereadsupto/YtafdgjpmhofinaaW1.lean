import Derived.Test.YtafdgjpmhofinaaProg
import Derived.Test.YtafdgjpmhofinaaM
import Derived.Test.YtafdgjpmhofinaaB
import Derived.WalkLawsBesides
import Derived.WalkSpells
namespace Go.Proofs.Ytafdgjpmhofinaa.W
open Go.RowKit
set_option linter.unusedVariables false

theorem hideC {p : Prop} (h : p) : Hid p := h
theorem ret_bool {a b : Bool} (h : a = b) : Ending.returned (.bool a) = .returned (.bool b) := by rw [h]

set_option maxHeartbeats 1000000 in
theorem inName_any (n : Int) (w : World) : Calls Try.prog 60 #[.int .u8 n] w fun e w' => e = .returned (.bool (M.signB n)) ∧ w = w' := by
  by_cases h1 : 97 ≤ n ∧ n ≤ 122
  · have e : M.signB n = true := by unfold M.signB; rw [decide_eq_true h1]; rfl
    rw [e]
    obtain ⟨a, b⟩ := h1
    go_enter Try.func60, Try.ntmps60
    go_wp2
    go_ret
    exact ⟨rfl, rfl⟩
  · by_cases h2 : 48 ≤ n ∧ n ≤ 57
    · have e : M.signB n = true := by unfold M.signB; rw [decide_eq_true h2]; simp
      rw [e]
      obtain ⟨a, b⟩ := h2
      have c : decide (97 ≤ n) = false := by simp; omega
      clear h1
      go_enter Try.func60, Try.ntmps60
      go_wp2
      go_ret
      exact ⟨rfl, rfl⟩
    · by_cases h3 : n = 95
      · subst h3
        go_enter Try.func60, Try.ntmps60
        go_wp2
        go_ret
        exact ⟨rfl, rfl⟩
      · have e : M.signB n = false := by unfold M.signB; rw [decide_eq_false h1, decide_eq_false h2, decide_eq_false h3]; rfl
        rw [e]
        have h3' : (n == 95) = false := by simpa using h3
        by_cases a : 97 ≤ n
        · have b : decide (n ≤ 122) = false := by simp; omega
          have c : 48 ≤ n := by omega
          have d : decide (n ≤ 57) = false := by simp; omega
          clear h1 h2
          go_enter Try.func60, Try.ntmps60
          go_wp2
          go_ret
          exact ⟨rfl, rfl⟩
        · have a' : decide (97 ≤ n) = false := by simpa using a
          by_cases c : 48 ≤ n
          · have d : decide (n ≤ 57) = false := by simp; omega
            clear h1 h2
            go_enter Try.func60, Try.ntmps60
            go_wp2
            go_ret
            exact ⟨rfl, rfl⟩
          · have c' : decide (48 ≤ n) = false := by simpa using c
            clear h1 h2
            go_enter Try.func60, Try.ntmps60
            go_wp2
            go_ret
            exact ⟨rfl, rfl⟩

set_option maxHeartbeats 1000000 in
theorem isName_any (s : ByteArray) (w : World) (hs : M.Short s.size) : Calls Try.prog 47 #[.string s] w fun e w' => e = .returned (.bool (M.nameB s)) ∧ w = w' := by
  unfold M.Short at hs
  have hml : s.size ≤ maxLen := by unfold maxLen; omega
  by_cases h1 : 1 ≤ s.size
  · by_cases h2 : s.size ≤ 12
    · have d1 : ¬ (s.size : Int) < 1 := by omega
      have d2 : ¬ 12 < (s.size : Int) := by omega
      go_enter Try.func47, Try.ntmps47
      go_wp2
      go_loop [14] (fun i => ∃ k : Nat, k ≤ s.size ∧ i = .int .i64 k ∧ ∀ j (hj : j < s.size), j < k → M.signB s[j].toNat = true) (fun i => s.size - (intOf i).toNat)
      case atStart => exact ⟨0, by omega, rfl, fun j _ h => by omega⟩
      case round =>
        obtain ⟨k, hk, rfl, hall⟩ := hrel
        have HA := hideC hall
        clear hall
        by_cases hlt : k < s.size
        · cases hc : M.signB s[k].toNat
          · have HR := hideC (M.name_no s k hlt hc)
            go_wp2_with (go_at_call 60; refine (inName_any _ _).mono ?_; rintro e w' ⟨rfl, rfl⟩; rw [hc])
            go_ret
            exact ⟨ret_bool HR.out.symm, rfl⟩
          · have HC := hideC hc
            go_wp2_with (go_at_call 60; refine (inName_any _ _).mono ?_; rintro e w' ⟨rfl, rfl⟩; rw [hc])
            go_round
            case rel => exact ⟨k + 1, by omega, by go_num, fun j hj h => if e : j = k then by subst e; exact HC.out else HA.out j hj (by omega)⟩
            case measure => simp [intOf]; omega
        · obtain rfl : k = s.size := by omega
          have HR := hideC (M.name_yes s h1 h2 (fun k hk => HA.out k hk hk))
          go_wp2
          go_ret
          exact ⟨ret_bool HR.out.symm, rfl⟩
    · have HR := hideC (M.name_len s (fun h => h2 h.2))
      have d1 : ¬ (s.size : Int) < 1 := by omega
      have d2 : 12 < (s.size : Int) := by omega
      go_enter Try.func47, Try.ntmps47
      go_wp2
      go_ret
      exact ⟨ret_bool HR.out.symm, rfl⟩
  · have HR := hideC (M.name_len s (fun h => h1 h.1))
    have d1 : (s.size : Int) < 1 := by omega
    go_enter Try.func47, Try.ntmps47
    go_wp2
    go_ret
    exact ⟨ret_bool HR.out.symm, rfl⟩
end Go.Proofs.Ytafdgjpmhofinaa.W
