import Derived.Test.YtmgifpmajmojoaaW5
namespace Go.Proofs.Ytmgifpmajmojoaa.W
open Go.RowKit
set_option linter.unusedVariables false

set_option maxHeartbeats 400000 in
theorem puts_yy (n : Int) (k : Nat) (s : ByteArray) (w : World) (h1 : 1 ≤ k) (h2 : k ≤ 8) (s1 : 1 ≤ s.size) (s2 : s.size ≤ 8) :
    Calls Try.prog 3 #[.int .i64 n, .int .i64 k, .string s] w fun e w' => e = .returned (.bool true) ∧ Below w.heap.size w w' := by
  go_enter Try.func3, Try.ntmps3
  go_wp2_with fail
  refine (put_yes n k _ h1 h2).mono ?_
  rintro e w1 ⟨rfl, hb1⟩
  go_wp2_with fail
  refine (get_yes s _ s1 s2).mono ?_
  rintro e w2 ⟨rfl, rfl⟩
  go_wp2_with fail
  refine (bytes_any n k _ h2).mono ?_
  rintro e w2 ⟨rfl, hb2⟩
  go_wp2_with fail
  refine (number_any s _ s1 s2).mono ?_
  rintro e w3 ⟨rfl, rfl⟩
  go_wp2_with fail
  refine (begun _).mono ?_
  rintro e w3 ⟨rfl, hb3⟩
  go_wp2
  go_ret
  exact ⟨rfl, (hb1.trans (hb2.mono hb1.size)).trans (hb3.mono (Nat.le_trans hb1.size hb2.size))⟩

set_option maxHeartbeats 400000 in
theorem puts_yn (n : Int) (k : Nat) (s : ByteArray) (w : World) (h1 : 1 ≤ k) (h2 : k ≤ 8) (hs : s.size ≤ maxLen) (s1 : (s.size : Int) < 1 ∨ 8 < (s.size : Int)) :
    Calls Try.prog 3 #[.int .i64 n, .int .i64 k, .string s] w fun e w' => e = .returned (.bool true) ∧ Below w.heap.size w w' := by
  have hs' := hs
  unfold maxLen at hs'
  have hd : ((1 : Int) ≤ (s.size : Int) ∧ decide ((s.size : Int) ≤ 8) = false) ∨ (s.size : Int) < 1 := by
    rcases s1 with h | h
    · exact .inr h
    · exact .inl ⟨by omega, by simp; omega⟩
  rcases hd with ⟨d1, d2⟩ | d
  all_goals
    go_enter Try.func3, Try.ntmps3
    go_wp2_with fail
    refine (put_yes n k _ h1 h2).mono ?_
    rintro e w1 ⟨rfl, hb1⟩
    go_wp2_with fail
    refine (get_no s _ hs s1).mono ?_
    rintro e w2 ⟨rfl, rfl⟩
    go_wp2_with fail
    refine (bytes_any n k _ h2).mono ?_
    rintro e w2 ⟨rfl, hb2⟩
    go_wp2_with fail
    refine (begun _).mono ?_
    rintro e w3 ⟨rfl, hb3⟩
    go_wp2
    go_ret
    exact ⟨rfl, (hb1.trans (hb2.mono hb1.size)).trans (hb3.mono (Nat.le_trans hb1.size hb2.size))⟩

set_option maxHeartbeats 400000 in
theorem puts_ny (n size : Int) (s : ByteArray) (w : World) (h1 : size < 1 ∨ 8 < size) (s1 : 1 ≤ s.size) (s2 : s.size ≤ 8) :
    Calls Try.prog 3 #[.int .i64 n, .int .i64 size, .string s] w fun e w' => e = .returned (.bool true) ∧ Below w.heap.size w w' := by
  have hd : ((1 : Int) ≤ size ∧ decide (size ≤ 8) = false) ∨ size < 1 := by
    rcases h1 with h | h
    · exact .inr h
    · exact .inl ⟨by omega, by simp; omega⟩
  rcases hd with ⟨d1, d2⟩ | d
  all_goals
    go_enter Try.func3, Try.ntmps3
    go_wp2_with fail
    refine (put_no n size _ h1).mono ?_
    rintro e w1 ⟨rfl, rfl⟩
    go_wp2_with fail
    refine (get_yes s _ s1 s2).mono ?_
    rintro e w2 ⟨rfl, rfl⟩
    go_wp2_with fail
    refine (number_any s _ s1 s2).mono ?_
    rintro e w3 ⟨rfl, rfl⟩
    go_wp2_with fail
    refine (begun _).mono ?_
    rintro e w3 ⟨rfl, hb3⟩
    go_wp2
    go_ret
    exact ⟨rfl, hb3⟩

set_option maxHeartbeats 400000 in
theorem puts_nn (n size : Int) (s : ByteArray) (w : World) (h1 : size < 1 ∨ 8 < size) (hs : s.size ≤ maxLen) (s1 : (s.size : Int) < 1 ∨ 8 < (s.size : Int)) :
    Calls Try.prog 3 #[.int .i64 n, .int .i64 size, .string s] w fun e w' => e = .returned (.bool true) ∧ Below w.heap.size w w' := by
  have hs' := hs
  unfold maxLen at hs'
  have hd : ((1 : Int) ≤ size ∧ decide (size ≤ 8) = false) ∨ size < 1 := by
    rcases h1 with h | h
    · exact .inr h
    · exact .inl ⟨by omega, by simp; omega⟩
  have he : ((1 : Int) ≤ (s.size : Int) ∧ decide ((s.size : Int) ≤ 8) = false) ∨ (s.size : Int) < 1 := by
    rcases s1 with h | h
    · exact .inr h
    · exact .inl ⟨by omega, by simp; omega⟩
  rcases hd with ⟨d1, d2⟩ | d <;> rcases he with ⟨e1, e2⟩ | e
  all_goals
    go_enter Try.func3, Try.ntmps3
    go_wp2_with fail
    refine (put_no n size _ h1).mono ?_
    rintro e w1 ⟨rfl, rfl⟩
    go_wp2_with fail
    refine (get_no s _ hs s1).mono ?_
    rintro e w2 ⟨rfl, rfl⟩
    go_wp2_with fail
    refine (begun _).mono ?_
    rintro e w3 ⟨rfl, hb3⟩
    go_wp2
    go_ret
    exact ⟨rfl, hb3⟩

theorem puts_any (n size : Int) (s : ByteArray) (w : World) (hs : s.size ≤ maxLen) :
    Calls Try.prog 3 #[.int .i64 n, .int .i64 size, .string s] w fun e w' => e = .returned (.bool true) ∧ Below w.heap.size w w' := by
  by_cases h : 1 ≤ size ∧ size ≤ 8
  · obtain ⟨k, rfl⟩ := Int.eq_ofNat_of_zero_le (show 0 ≤ size by omega)
    by_cases h' : 1 ≤ s.size ∧ s.size ≤ 8
    · exact puts_yy n k s w (by omega) (by omega) h'.1 h'.2
    · exact puts_yn n k s w (by omega) (by omega) hs (by omega)
  · by_cases h' : 1 ≤ s.size ∧ s.size ≤ 8
    · exact puts_ny n size s w (by omega) h'.1 h'.2
    · exact puts_nn n size s w (by omega) hs (by omega)

theorem puts_all (n size : Int) (s : ByteArray) (_ : (Lit.int .i64 n).wf = true) (_ : (Lit.int .i64 size).wf = true) (hs : s.size ≤ 140737488351232) (w : World) :
    Calls Try.prog 3 #[.int .i64 n, .int .i64 size, .string s] w fun e w' => e = .returned (.bool true) ∧ Below w.heap.size w w' :=
  puts_any n size s w (by unfold maxLen; omega)
end Go.Proofs.Ytmgifpmajmojoaa.W
