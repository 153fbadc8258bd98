import Derived.Test.YtmgifpmajmojoaaW5
import Derived.Test.YtmgifpmajmojoaaQ
namespace Go.Proofs.Ytmgifpmajmojoaa.W
open Go.RowKit
set_option linter.unusedVariables false

theorem get_put (n : Int) (w : World) (h1 : -9223372036854775808 ≤ n) (h2 : n ≤ 9223372036854775807) :
    Calls Try.prog 7 #[.string ⟨(Lib.leBytes 8 (M.low n)).toArray⟩] w fun e w' => e = .returned (.tuple #[.int .i64 n, .int .i64 0]) ∧ w = w' := by
  have hsz : (⟨(Lib.leBytes 8 (M.low n)).toArray⟩ : ByteArray).size = 8 := by rw [Lib.size_eq]; exact Lib.leBytes_length _ _
  have h := get_yes ⟨(Lib.leBytes 8 (M.low n)).toArray⟩ w (by omega) (by omega)
  have e : wrap64 ((Lib.leNat (⟨(Lib.leBytes 8 (M.low n)).toArray⟩ : ByteArray).data.toList : Nat) : Int) = n := M.back_num n h1 h2
  rw [e] at h
  exact h

theorem put_get (s : ByteArray) (w : World) (h1 : 1 ≤ s.size) (h2 : s.size ≤ 8) :
    Calls Try.prog 6 #[.int .i64 (wrap64 (Lib.leNat s.data.toList)), .int .i64 s.size] w fun e w' => e = .returned (.tuple #[.string s, .int .i64 0]) ∧ Below w.heap.size w w' := by
  have h := put_yes (wrap64 (Lib.leNat s.data.toList)) s.size w h1 h2
  rw [M.back_bytes s h2, Lib.mk_data] at h
  exact h

theorem part_over (s : ByteArray) (o : Nat) (t : ByteArray) (w : World) (hs : s.size ≤ 140737488351232) (h : o + t.size ≤ s.size) :
    Calls Try.prog 11 #[.string (L.over s o t), .int .i64 o, .int .i64 t.size] w fun e w' => e = .returned (.tuple #[.string t, .int .i64 0]) ∧ Below w.heap.size w w' := by
  have h' := part_yes (L.over s o t) o t.size w (by rw [L.over_size' s o t h]; exact hs) (by rw [L.over_size' s o t h]; exact h)
  rw [L.over_part s o t h] at h'
  exact h'

set_option maxHeartbeats 1000000 in
theorem back_yy (n : Int) (s : ByteArray) (o : Nat) (t : ByteArray) (c : Int) (w : World) (h1 : -9223372036854775808 ≤ n) (h2 : n ≤ 9223372036854775807) (hc0 : -9223372036854775808 ≤ c) (hc1 : c ≤ 9223372036854775807) (s1 : 1 ≤ s.size) (s2 : s.size ≤ 8) (h : o + t.size ≤ s.size) :
    Calls Try.prog 5 #[.int .i64 n, .string s, .int .i64 o, .string t, .int .i64 c] w fun e w' => e = .returned (.bool true) ∧ Below w.heap.size w w' := by
  have hs0 : ((s.size : Int) == 0) = false := beq_eq_false_iff_ne.2 (by omega)
  have hov : (L.over s o t).size = s.size := L.over_size' s o t h
  go_enter Try.func5, Try.ntmps5
  go_wp2_with fail
  refine (put_yes n 8 _ (by omega) (by omega)).mono ?_
  rintro e w1 ⟨rfl, hb1⟩
  go_wp2_with fail
  refine (get_put n _ h1 h2).mono ?_
  rintro e w2 ⟨rfl, rfl⟩
  go_wp2_with fail
  refine (get_yes s _ s1 s2).mono ?_
  rintro e w2 ⟨rfl, rfl⟩
  go_wp2_with fail
  refine (put_get s _ s1 s2).mono ?_
  rintro e w2 ⟨rfl, hb2⟩
  have hb12 : Hid (Below w.heap.size w w2) := hb1.trans (hb2.mono hb1.size)
  clear hb1 hb2
  go_wp2_with fail
  refine (lay_yes s t o _ (by omega) h).mono ?_
  rintro e w3 ⟨rfl, hb3⟩
  go_wp2_with fail
  refine (part_over s o t _ (by omega) h).mono ?_
  rintro e w4 ⟨rfl, hb4⟩
  have hbe : Hid (Below w.heap.size w w4) := (hb12.out.trans (hb3.mono hb12.out.size)).trans (hb4.mono (Nat.le_trans hb12.out.size hb3.size))
  clear hb12 hb3 hb4
  go_wp2_with fail
  refine (choose_any c _ _ hc0 hc1 (by omega) (by omega)).mono ?_
  rintro e w5 ⟨x, hx0, hx1, rfl, rfl⟩
  obtain ⟨k, rfl⟩ := Int.eq_ofNat_of_zero_le hx0
  have hk : k < s.size := by omega
  have hkin := Q.kin_some w4
  have hq : (k < o ∧ decide ((o : Int) ≤ (k : Int)) = false ∧ decide (o ≤ k) = false) ∨ (o ≤ k ∧ (o : Int) ≤ (k : Int) ∧ (k : Int) < (o : Int) + (t.size : Int)) ∨ (o + t.size ≤ k ∧ (o : Int) ≤ (k : Int) ∧ decide ((k : Int) < (o : Int) + (t.size : Int)) = false ∧ decide (k < o + t.size) = false) := by
    simp only [decide_eq_false_iff_not]
    omega
  rcases hq with ⟨c1, d1, d2⟩ | ⟨c1, d1, d2⟩ | ⟨c1, d1, d2, d3⟩
  · have hg := L.over_other s o t h k hk (by rw [hov]; exact hk) (.inl c1)
    go_wp2_with fail
    refine Q.region_kin (by kernel_rfl) (by kernel_rfl) ?_
    repeat (first | go_big_quiet_step ((go_at_call 10; exact Q.calls_kin begun _)) | quiet_step ((go_at_call 10; exact Q.calls_kin begun _)))
    refine wpQuiet_nil ?_
    intro _ hw'
    obtain ⟨x, hw''⟩ := hw'
    subst hw''
    go_wp2
    go_ret
    exact ⟨rfl, hbe.out.trans (x.keeps.mono hbe.out.size)⟩
  · go_wp2_with fail
    refine Q.region_kin (by kernel_rfl) (by kernel_rfl) ?_
    repeat (first | go_big_quiet_step ((go_at_call 10; exact Q.calls_kin begun _)) | quiet_step ((go_at_call 10; exact Q.calls_kin begun _)))
    refine wpQuiet_nil ?_
    intro _ hw'
    obtain ⟨x, hw''⟩ := hw'
    subst hw''
    go_wp2
    go_ret
    exact ⟨rfl, hbe.out.trans (x.keeps.mono hbe.out.size)⟩
  · have hg := L.over_other s o t h k hk (by rw [hov]; exact hk) (.inr c1)
    go_wp2_with fail
    refine Q.region_kin (by kernel_rfl) (by kernel_rfl) ?_
    repeat (first | go_big_quiet_step ((go_at_call 10; exact Q.calls_kin begun _)) | quiet_step ((go_at_call 10; exact Q.calls_kin begun _)))
    refine wpQuiet_nil ?_
    intro _ hw'
    obtain ⟨x, hw''⟩ := hw'
    subst hw''
    go_wp2
    go_ret
    exact ⟨rfl, hbe.out.trans (x.keeps.mono hbe.out.size)⟩

set_option maxHeartbeats 1000000 in
theorem back_yn (n : Int) (s : ByteArray) (o : Int) (t : ByteArray) (c : Int) (w : World) (h1 : -9223372036854775808 ≤ n) (h2 : n ≤ 9223372036854775807) (hc0 : -9223372036854775808 ≤ c) (hc1 : c ≤ 9223372036854775807) (s1 : 1 ≤ s.size) (s2 : s.size ≤ 8) (ht : t.size ≤ 140737488351232) (h : ¬ (0 ≤ o ∧ 0 ≤ (t.size : Int) ∧ o ≤ (s.size : Int) ∧ (t.size : Int) ≤ (s.size : Int) - o)) :
    Calls Try.prog 5 #[.int .i64 n, .string s, .int .i64 o, .string t, .int .i64 c] w fun e w' => e = .returned (.bool true) ∧ Below w.heap.size w w' := by
  have hno : Hid (¬ (0 ≤ o ∧ 0 ≤ (t.size : Int) ∧ o ≤ (s.size : Int) ∧ (t.size : Int) ≤ (s.size : Int) - o)) := h
  clear h
  go_enter Try.func5, Try.ntmps5
  go_wp2_with fail
  refine (put_yes n 8 _ (by omega) (by omega)).mono ?_
  rintro e w1 ⟨rfl, hb1⟩
  go_wp2_with fail
  refine (get_put n _ h1 h2).mono ?_
  rintro e w2 ⟨rfl, rfl⟩
  go_wp2_with fail
  refine (get_yes s _ s1 s2).mono ?_
  rintro e w2 ⟨rfl, rfl⟩
  go_wp2_with fail
  refine (put_get s _ s1 s2).mono ?_
  rintro e w2 ⟨rfl, hb2⟩
  have hb12 : Hid (Below w.heap.size w w2) := hb1.trans (hb2.mono hb1.size)
  clear hb1 hb2
  go_wp2_with fail
  refine (lay_no s t o _ (by unfold maxLen; omega) (by unfold maxLen; omega) hno.out).mono ?_
  rintro e w3 ⟨rfl, rfl⟩
  go_wp2_with fail
  refine (begun _).mono ?_
  rintro e w4 ⟨rfl, hb4⟩
  go_wp2
  go_ret
  exact ⟨rfl, hb12.out.trans (hb4.mono hb12.out.size)⟩

set_option maxHeartbeats 1000000 in
theorem back_nn (n : Int) (s : ByteArray) (o : Int) (t : ByteArray) (c : Int) (w : World) (h1 : -9223372036854775808 ≤ n) (h2 : n ≤ 9223372036854775807) (hc0 : -9223372036854775808 ≤ c) (hc1 : c ≤ 9223372036854775807) (hs : s.size ≤ 140737488351232) (sn : (s.size : Int) < 1 ∨ 8 < (s.size : Int)) (ht : t.size ≤ 140737488351232) (h : ¬ (0 ≤ o ∧ 0 ≤ (t.size : Int) ∧ o ≤ (s.size : Int) ∧ (t.size : Int) ≤ (s.size : Int) - o)) :
    Calls Try.prog 5 #[.int .i64 n, .string s, .int .i64 o, .string t, .int .i64 c] w fun e w' => e = .returned (.bool true) ∧ Below w.heap.size w w' := by
  have hno : Hid (¬ (0 ≤ o ∧ 0 ≤ (t.size : Int) ∧ o ≤ (s.size : Int) ∧ (t.size : Int) ≤ (s.size : Int) - o)) := h
  clear h
  go_enter Try.func5, Try.ntmps5
  go_wp2_with fail
  refine (put_yes n 8 _ (by omega) (by omega)).mono ?_
  rintro e w1 ⟨rfl, hb1⟩
  go_wp2_with fail
  refine (get_put n _ h1 h2).mono ?_
  rintro e w2 ⟨rfl, rfl⟩
  go_wp2_with fail
  refine (get_no s _ (by unfold maxLen; omega) sn).mono ?_
  rintro e w2 ⟨rfl, rfl⟩
  have hb12 : Hid (Below w.heap.size w w1) := hb1
  clear hb1
  go_wp2_with fail
  refine (lay_no s t o _ (by unfold maxLen; omega) (by unfold maxLen; omega) hno.out).mono ?_
  rintro e w3 ⟨rfl, rfl⟩
  go_wp2_with fail
  refine (begun _).mono ?_
  rintro e w4 ⟨rfl, hb4⟩
  go_wp2
  go_ret
  exact ⟨rfl, hb12.out.trans (hb4.mono hb12.out.size)⟩

set_option maxHeartbeats 1000000 in
theorem back_n0 (n : Int) (s : ByteArray) (o : Nat) (t : ByteArray) (c : Int) (w : World) (h1 : -9223372036854775808 ≤ n) (h2 : n ≤ 9223372036854775807) (hc0 : -9223372036854775808 ≤ c) (hc1 : c ≤ 9223372036854775807) (hs : s.size ≤ 140737488351232) (sn : (s.size : Int) < 1 ∨ 8 < (s.size : Int)) (h : o + t.size ≤ s.size) (s0 : s.size = 0) :
    Calls Try.prog 5 #[.int .i64 n, .string s, .int .i64 o, .string t, .int .i64 c] w fun e w' => e = .returned (.bool true) ∧ Below w.heap.size w w' := by
  have hov : (L.over s o t).size = s.size := L.over_size' s o t h
  go_enter Try.func5, Try.ntmps5
  go_wp2_with fail
  refine (put_yes n 8 _ (by omega) (by omega)).mono ?_
  rintro e w1 ⟨rfl, hb1⟩
  go_wp2_with fail
  refine (get_put n _ h1 h2).mono ?_
  rintro e w2 ⟨rfl, rfl⟩
  go_wp2_with fail
  refine (get_no s _ (by unfold maxLen; omega) sn).mono ?_
  rintro e w2 ⟨rfl, rfl⟩
  have hb12 : Hid (Below w.heap.size w w1) := hb1
  clear hb1
  go_wp2_with fail
  refine (lay_yes s t o _ (by omega) h).mono ?_
  rintro e w3 ⟨rfl, hb3⟩
  go_wp2_with fail
  refine (part_over s o t _ (by omega) h).mono ?_
  rintro e w4 ⟨rfl, hb4⟩
  have hbe : Hid (Below w.heap.size w w4) := (hb12.out.trans (hb3.mono hb12.out.size)).trans (hb4.mono (Nat.le_trans hb12.out.size hb3.size))
  clear hb12 hb3 hb4
  go_wp2_with fail
  refine (begun _).mono ?_
  rintro e w5 ⟨rfl, hb5⟩
  go_wp2
  go_ret
  exact ⟨rfl, hbe.out.trans (hb5.mono hbe.out.size)⟩

set_option maxHeartbeats 1000000 in
theorem back_ny (n : Int) (s : ByteArray) (o : Nat) (t : ByteArray) (c : Int) (w : World) (h1 : -9223372036854775808 ≤ n) (h2 : n ≤ 9223372036854775807) (hc0 : -9223372036854775808 ≤ c) (hc1 : c ≤ 9223372036854775807) (hs : s.size ≤ 140737488351232) (sn : (s.size : Int) < 1 ∨ 8 < (s.size : Int)) (h : o + t.size ≤ s.size) (s0 : 1 ≤ s.size) :
    Calls Try.prog 5 #[.int .i64 n, .string s, .int .i64 o, .string t, .int .i64 c] w fun e w' => e = .returned (.bool true) ∧ Below w.heap.size w w' := by
  have hs0 : ((s.size : Int) == 0) = false := beq_eq_false_iff_ne.2 (by omega)
  have hov : (L.over s o t).size = s.size := L.over_size' s o t h
  go_enter Try.func5, Try.ntmps5
  go_wp2_with fail
  refine (put_yes n 8 _ (by omega) (by omega)).mono ?_
  rintro e w1 ⟨rfl, hb1⟩
  go_wp2_with fail
  refine (get_put n _ h1 h2).mono ?_
  rintro e w2 ⟨rfl, rfl⟩
  go_wp2_with fail
  refine (get_no s _ (by unfold maxLen; omega) sn).mono ?_
  rintro e w2 ⟨rfl, rfl⟩
  have hb12 : Hid (Below w.heap.size w w1) := hb1
  clear hb1
  go_wp2_with fail
  refine (lay_yes s t o _ (by omega) h).mono ?_
  rintro e w3 ⟨rfl, hb3⟩
  go_wp2_with fail
  refine (part_over s o t _ (by omega) h).mono ?_
  rintro e w4 ⟨rfl, hb4⟩
  have hbe : Hid (Below w.heap.size w w4) := (hb12.out.trans (hb3.mono hb12.out.size)).trans (hb4.mono (Nat.le_trans hb12.out.size hb3.size))
  clear hb12 hb3 hb4
  go_wp2_with fail
  refine (choose_any c _ _ hc0 hc1 (by omega) (by omega)).mono ?_
  rintro e w5 ⟨x, hx0, hx1, rfl, rfl⟩
  obtain ⟨k, rfl⟩ := Int.eq_ofNat_of_zero_le hx0
  have hk : k < s.size := by omega
  have hkin := Q.kin_some w4
  have hq : (k < o ∧ decide ((o : Int) ≤ (k : Int)) = false ∧ decide (o ≤ k) = false) ∨ (o ≤ k ∧ (o : Int) ≤ (k : Int) ∧ (k : Int) < (o : Int) + (t.size : Int)) ∨ (o + t.size ≤ k ∧ (o : Int) ≤ (k : Int) ∧ decide ((k : Int) < (o : Int) + (t.size : Int)) = false ∧ decide (k < o + t.size) = false) := by
    simp only [decide_eq_false_iff_not]
    omega
  rcases hq with ⟨c1, d1, d2⟩ | ⟨c1, d1, d2⟩ | ⟨c1, d1, d2, d3⟩
  · have hg := L.over_other s o t h k hk (by rw [hov]; exact hk) (.inl c1)
    go_wp2_with fail
    refine Q.region_kin (by kernel_rfl) (by kernel_rfl) ?_
    repeat (first | go_big_quiet_step ((go_at_call 10; exact Q.calls_kin begun _)) | quiet_step ((go_at_call 10; exact Q.calls_kin begun _)))
    refine wpQuiet_nil ?_
    intro _ hw'
    obtain ⟨x, hw''⟩ := hw'
    subst hw''
    go_wp2
    go_ret
    exact ⟨rfl, hbe.out.trans (x.keeps.mono hbe.out.size)⟩
  · go_wp2_with fail
    refine Q.region_kin (by kernel_rfl) (by kernel_rfl) ?_
    repeat (first | go_big_quiet_step ((go_at_call 10; exact Q.calls_kin begun _)) | quiet_step ((go_at_call 10; exact Q.calls_kin begun _)))
    refine wpQuiet_nil ?_
    intro _ hw'
    obtain ⟨x, hw''⟩ := hw'
    subst hw''
    go_wp2
    go_ret
    exact ⟨rfl, hbe.out.trans (x.keeps.mono hbe.out.size)⟩
  · have hg := L.over_other s o t h k hk (by rw [hov]; exact hk) (.inr c1)
    go_wp2_with fail
    refine Q.region_kin (by kernel_rfl) (by kernel_rfl) ?_
    repeat (first | go_big_quiet_step ((go_at_call 10; exact Q.calls_kin begun _)) | quiet_step ((go_at_call 10; exact Q.calls_kin begun _)))
    refine wpQuiet_nil ?_
    intro _ hw'
    obtain ⟨x, hw''⟩ := hw'
    subst hw''
    go_wp2
    go_ret
    exact ⟨rfl, hbe.out.trans (x.keeps.mono hbe.out.size)⟩

theorem back_all (n : Int) (s : ByteArray) (o : Int) (t : ByteArray) (c : Int) (wn : (Lit.int .i64 n).wf = true) (hs : s.size ≤ 140737488351232) (_ : (Lit.int .i64 o).wf = true) (ht : t.size ≤ 140737488351232) (wc : (Lit.int .i64 c).wf = true) (w : World) :
    Calls Try.prog 5 #[.int .i64 n, .string s, .int .i64 o, .string t, .int .i64 c] w fun e w' => e = .returned (.bool true) ∧ Below w.heap.size w w' := by
  have bn := M.bounds n wn
  have bc := M.bounds c wc
  by_cases h' : 0 ≤ o ∧ 0 ≤ (t.size : Int) ∧ o ≤ (s.size : Int) ∧ (t.size : Int) ≤ (s.size : Int) - o
  · obtain ⟨k, rfl⟩ := Int.eq_ofNat_of_zero_le h'.1
    by_cases h : 1 ≤ s.size ∧ s.size ≤ 8
    · exact back_yy n s k t c w bn.1 bn.2 bc.1 bc.2 h.1 h.2 (by omega)
    · by_cases h0 : s.size = 0
      · exact back_n0 n s k t c w bn.1 bn.2 bc.1 bc.2 hs (by omega) (by omega) h0
      · exact back_ny n s k t c w bn.1 bn.2 bc.1 bc.2 hs (by omega) (by omega) (by omega)
  · by_cases h : 1 ≤ s.size ∧ s.size ≤ 8
    · exact back_yn n s o t c w bn.1 bn.2 bc.1 bc.2 h.1 h.2 ht h'
    · exact back_nn n s o t c w bn.1 bn.2 bc.1 bc.2 hs (by omega) ht h'
end Go.Proofs.Ytmgifpmajmojoaa.W
