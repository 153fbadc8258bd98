import Derived.Test.YtmgifpmajmojoaaW5
namespace Go.Proofs.Ytmgifpmajmojoaa.W
open Go.RowKit
set_option linter.unusedVariables false

set_option maxHeartbeats 400000 in
theorem parts_yy (s t : ByteArray) (o n : Nat) (w : World) (hs : s.size ≤ 140737488351232) (h : o + n ≤ s.size) (h' : o + t.size ≤ s.size) :
    Calls Try.prog 4 #[.string s, .int .i64 o, .int .i64 n, .string t] w fun e w' => e = .returned (.bool true) ∧ Below w.heap.size w w' := by
  go_enter Try.func4, Try.ntmps4
  go_wp2_with fail
  refine (part_yes s o n _ hs h).mono ?_
  rintro e w1 ⟨rfl, hb1⟩
  go_wp2_with fail
  refine (lay_yes s t o _ hs h').mono ?_
  rintro e w2 ⟨rfl, hb2⟩
  go_wp2_with fail
  refine (over_any s t o _ hs h').mono ?_
  rintro e w3 ⟨rfl, hb3⟩
  go_wp2_with fail
  refine (begun _).mono ?_
  rintro e w4 ⟨rfl, hb4⟩
  go_wp2
  go_ret
  exact ⟨rfl, ((hb1.trans (hb2.mono hb1.size)).trans (hb3.mono (Nat.le_trans hb1.size hb2.size))).trans (hb4.mono (Nat.le_trans hb1.size (Nat.le_trans hb2.size hb3.size)))⟩

set_option maxHeartbeats 400000 in
theorem parts_yn (s t : ByteArray) (o n : Nat) (w : World) (hs : s.size ≤ 140737488351232) (ht : t.size ≤ 140737488351232) (h : o + n ≤ s.size) (h' : s.size < o + t.size) :
    Calls Try.prog 4 #[.string s, .int .i64 o, .int .i64 n, .string t] w fun e w' => e = .returned (.bool true) ∧ Below w.heap.size w w' := by
  have d : decide ((t.size : Int) ≤ (s.size : Int) - (o : Int)) = false := by simp; omega
  have h1 : (o : Int) ≤ (s.size : Int) := by omega
  go_enter Try.func4, Try.ntmps4
  go_wp2_with fail
  refine (part_yes s o n _ hs h).mono ?_
  rintro e w1 ⟨rfl, hb1⟩
  go_wp2_with fail
  refine (lay_no s t o _ (by unfold maxLen; omega) (by unfold maxLen; omega) (by omega)).mono ?_
  rintro e w2 ⟨rfl, rfl⟩
  go_wp2_with fail
  refine (begun _).mono ?_
  rintro e w4 ⟨rfl, hb4⟩
  go_wp2
  go_ret
  exact ⟨rfl, hb1.trans (hb4.mono hb1.size)⟩

set_option maxHeartbeats 400000 in
theorem parts_ny (s t : ByteArray) (o : Nat) (n : Int) (w : World) (hs : s.size ≤ 140737488351232) (h' : o + t.size ≤ s.size) (h : n < 0 ∨ (s.size : Int) - o < n) :
    Calls Try.prog 4 #[.string s, .int .i64 o, .int .i64 n, .string t] w fun e w' => e = .returned (.bool true) ∧ Below w.heap.size w w' := by
  have hd : decide (0 ≤ n) = false ∨ (0 ≤ n ∧ decide (n ≤ (s.size : Int) - (o : Int)) = false) := by
    by_cases h2 : 0 ≤ n
    · exact .inr ⟨h2, by simp; omega⟩
    · exact .inl (by simp; omega)
  have h1 : (o : Int) ≤ (s.size : Int) := by omega
  have hno : Hid (¬ (0 ≤ (o : Int) ∧ 0 ≤ n ∧ (o : Int) ≤ (s.size : Int) ∧ n ≤ (s.size : Int) - o)) := by show ¬ _; omega
  clear h
  rcases hd with d | ⟨d1, d2⟩
  all_goals
    go_enter Try.func4, Try.ntmps4
    go_wp2_with fail
    refine (part_no s o n _ (by unfold maxLen; omega) hno.out).mono ?_
    rintro e w1 ⟨rfl, rfl⟩
    go_wp2_with fail
    refine (lay_yes s t o _ hs h').mono ?_
    rintro e w2 ⟨rfl, hb2⟩
    go_wp2_with fail
    refine (over_any s t o _ hs h').mono ?_
    rintro e w3 ⟨rfl, hb3⟩
    go_wp2_with fail
    refine (begun _).mono ?_
    rintro e w4 ⟨rfl, hb4⟩
    go_wp2
    go_ret
    exact ⟨rfl, (hb2.trans (hb3.mono hb2.size)).trans (hb4.mono (Nat.le_trans hb2.size hb3.size))⟩

set_option maxHeartbeats 1000000 in
theorem parts_nn (s t : ByteArray) (o n : Int) (w : World) (hs : s.size ≤ 140737488351232) (ht : t.size ≤ 140737488351232) (h : ¬ (0 ≤ o ∧ 0 ≤ n ∧ o ≤ (s.size : Int) ∧ n ≤ (s.size : Int) - o)) (h' : ¬ (0 ≤ o ∧ 0 ≤ (t.size : Int) ∧ o ≤ (s.size : Int) ∧ (t.size : Int) ≤ (s.size : Int) - o)) :
    Calls Try.prog 4 #[.string s, .int .i64 o, .int .i64 n, .string t] w fun e w' => e = .returned (.bool true) ∧ Below w.heap.size w w' := by
  have hd : decide (0 ≤ o) = false ∨ (0 ≤ o ∧ decide (o ≤ (s.size : Int)) = false ∧ decide (0 ≤ n) = false) ∨ (0 ≤ o ∧ decide (o ≤ (s.size : Int)) = false ∧ 0 ≤ n) ∨
      (0 ≤ o ∧ o ≤ (s.size : Int) ∧ decide ((t.size : Int) ≤ (s.size : Int) - o) = false ∧ decide (0 ≤ n) = false) ∨ (0 ≤ o ∧ o ≤ (s.size : Int) ∧ decide ((t.size : Int) ≤ (s.size : Int) - o) = false ∧ 0 ≤ n ∧ decide (n ≤ (s.size : Int) - o) = false) := by
    simp only [decide_eq_false_iff_not]
    omega
  have hno : Hid (¬ (0 ≤ o ∧ 0 ≤ n ∧ o ≤ (s.size : Int) ∧ n ≤ (s.size : Int) - o)) := h
  have hno' : Hid (¬ (0 ≤ o ∧ 0 ≤ (t.size : Int) ∧ o ≤ (s.size : Int) ∧ (t.size : Int) ≤ (s.size : Int) - o)) := h'
  clear h h'
  rcases hd with d | ⟨d1, d2, d3⟩ | ⟨d1, d2, d3⟩ | ⟨d1, d2, d3, d4⟩ | ⟨d1, d2, d3, d4, d5⟩
  all_goals
    go_enter Try.func4, Try.ntmps4
    go_wp2_with fail
    refine (part_no s o n _ (by unfold maxLen; omega) hno.out).mono ?_
    rintro e w1 ⟨rfl, rfl⟩
    go_wp2_with fail
    refine (lay_no s t o _ (by unfold maxLen; omega) (by unfold maxLen; omega) hno'.out).mono ?_
    rintro e w2 ⟨rfl, rfl⟩
    go_wp2_with fail
    refine (begun _).mono ?_
    rintro e w4 ⟨rfl, hb4⟩
    go_wp2
    go_ret
    exact ⟨rfl, hb4⟩

theorem parts_all (s : ByteArray) (o n : Int) (t : ByteArray) (hs : s.size ≤ 140737488351232) (_ : (Lit.int .i64 o).wf = true) (_ : (Lit.int .i64 n).wf = true) (ht : t.size ≤ 140737488351232) (w : World) :
    Calls Try.prog 4 #[.string s, .int .i64 o, .int .i64 n, .string t] w fun e w' => e = .returned (.bool true) ∧ Below w.heap.size w w' := by
  by_cases h' : 0 ≤ o ∧ 0 ≤ (t.size : Int) ∧ o ≤ (s.size : Int) ∧ (t.size : Int) ≤ (s.size : Int) - o
  · obtain ⟨k, rfl⟩ := Int.eq_ofNat_of_zero_le h'.1
    by_cases h : 0 ≤ n ∧ n ≤ (s.size : Int) - k
    · obtain ⟨m, rfl⟩ := Int.eq_ofNat_of_zero_le h.1
      exact parts_yy s t k m w hs (by omega) (by omega)
    · exact parts_ny s t k n w hs (by omega) (by omega)
  · by_cases h : 0 ≤ o ∧ 0 ≤ n ∧ o ≤ (s.size : Int) ∧ n ≤ (s.size : Int) - o
    · obtain ⟨k, rfl⟩ := Int.eq_ofNat_of_zero_le h.1
      obtain ⟨m, rfl⟩ := Int.eq_ofNat_of_zero_le h.2.1
      exact parts_yn s t k m w hs ht (by omega) (by omega)
    · exact parts_nn s t o n w hs ht h h'
end Go.Proofs.Ytmgifpmajmojoaa.W
