import Derived.Test.YtamocjifffbhpaaPW4
namespace Go.Proofs.Ytamocjifffbhpaa.PW
open Go.RowKit
set_option linter.unusedVariables false
set_option maxRecDepth 100000
set_option maxHeartbeats 400000 in
theorem isBad1 (a b c m : Int) (w : World) : Calls Try.prog 23 #[.agg #[.int .i64 1, .int .i64 a, .int .i64 b, .int .i64 c, .int .i64 m]] w fun e w' => e = .returned (.bool (!PM.areRegs [a])) ∧ Below w.heap.size w w' := by
  have HA : Hid (∀ V : World, Calls Try.prog 28 #[.slice (some ⟨w.heap.size + 1, 0, none⟩) 1 1] ((w.alloc (.cells #[.int .i64 1, .int .i64 a, .int .i64 b, .int .i64 c, .int .i64 m] 23)).alloc (.cells (ints [a]) 3)) fun e w' => e = .returned (.bool (PM.areRegs [a])) ∧ ((w.alloc (.cells #[.int .i64 1, .int .i64 a, .int .i64 b, .int .i64 c, .int .i64 m] 23)).alloc (.cells (ints [a]) 3)) = w') := fun V => areRegs_any [a] (w.heap.size + 1) _ (by simp) (by have e := B.new (w.alloc (.cells #[.int .i64 1, .int .i64 a, .int .i64 b, .int .i64 c, .int .i64 m] 23)) (ints [a]) 3; rw [World.size_alloc] at e; exact e)
  obtain ⟨R, hR⟩ : ∃ R, R = PM.areRegs [a] := ⟨_, rfl⟩
  rw [← hR] at HA
  rw [← hR]
  clear hR
  go_enter Try.func23, Try.ntmps23
  go_wp2_with fail
  refine (HA.out w).mono ?_
  rintro e w' ⟨rfl, rfl⟩
  go_wp2
  go_ret
  exact ⟨by simp, ((Below.refl _ _).alloc (Nat.le_refl _) _).alloc (by simp) _⟩
set_option maxHeartbeats 400000 in
theorem isBad2 (a b c m : Int) (w : World) : Calls Try.prog 23 #[.agg #[.int .i64 2, .int .i64 a, .int .i64 b, .int .i64 c, .int .i64 m]] w fun e w' => e = .returned (.bool (!PM.areRegs [a, b, c])) ∧ Below w.heap.size w w' := by
  have HA : Hid (∀ V : World, Calls Try.prog 28 #[.slice (some ⟨w.heap.size + 1, 0, none⟩) 3 3] ((w.alloc (.cells #[.int .i64 2, .int .i64 a, .int .i64 b, .int .i64 c, .int .i64 m] 23)).alloc (.cells (ints [a, b, c]) 3)) fun e w' => e = .returned (.bool (PM.areRegs [a, b, c])) ∧ ((w.alloc (.cells #[.int .i64 2, .int .i64 a, .int .i64 b, .int .i64 c, .int .i64 m] 23)).alloc (.cells (ints [a, b, c]) 3)) = w') := fun V => areRegs_any [a, b, c] (w.heap.size + 1) _ (by simp) (by have e := B.new (w.alloc (.cells #[.int .i64 2, .int .i64 a, .int .i64 b, .int .i64 c, .int .i64 m] 23)) (ints [a, b, c]) 3; rw [World.size_alloc] at e; exact e)
  obtain ⟨R, hR⟩ : ∃ R, R = PM.areRegs [a, b, c] := ⟨_, rfl⟩
  rw [← hR] at HA
  rw [← hR]
  clear hR
  go_enter Try.func23, Try.ntmps23
  go_wp2_with fail
  refine (HA.out w).mono ?_
  rintro e w' ⟨rfl, rfl⟩
  go_wp2
  go_ret
  exact ⟨by simp, ((Below.refl _ _).alloc (Nat.le_refl _) _).alloc (by simp) _⟩
set_option maxHeartbeats 400000 in
theorem isBad3 (a b c m : Int) (w : World) : Calls Try.prog 23 #[.agg #[.int .i64 3, .int .i64 a, .int .i64 b, .int .i64 c, .int .i64 m]] w fun e w' => e = .returned (.bool (!PM.areRegs [a, b, c])) ∧ Below w.heap.size w w' := by
  have HA : Hid (∀ V : World, Calls Try.prog 28 #[.slice (some ⟨w.heap.size + 1, 0, none⟩) 3 3] ((w.alloc (.cells #[.int .i64 3, .int .i64 a, .int .i64 b, .int .i64 c, .int .i64 m] 23)).alloc (.cells (ints [a, b, c]) 3)) fun e w' => e = .returned (.bool (PM.areRegs [a, b, c])) ∧ ((w.alloc (.cells #[.int .i64 3, .int .i64 a, .int .i64 b, .int .i64 c, .int .i64 m] 23)).alloc (.cells (ints [a, b, c]) 3)) = w') := fun V => areRegs_any [a, b, c] (w.heap.size + 1) _ (by simp) (by have e := B.new (w.alloc (.cells #[.int .i64 3, .int .i64 a, .int .i64 b, .int .i64 c, .int .i64 m] 23)) (ints [a, b, c]) 3; rw [World.size_alloc] at e; exact e)
  obtain ⟨R, hR⟩ : ∃ R, R = PM.areRegs [a, b, c] := ⟨_, rfl⟩
  rw [← hR] at HA
  rw [← hR]
  clear hR
  go_enter Try.func23, Try.ntmps23
  go_wp2_with fail
  refine (HA.out w).mono ?_
  rintro e w' ⟨rfl, rfl⟩
  go_wp2
  go_ret
  exact ⟨by simp, ((Below.refl _ _).alloc (Nat.le_refl _) _).alloc (by simp) _⟩
set_option maxHeartbeats 400000 in
theorem isBad4 (a b c m : Int) (w : World) : Calls Try.prog 23 #[.agg #[.int .i64 4, .int .i64 a, .int .i64 b, .int .i64 c, .int .i64 m]] w fun e w' => e = .returned (.bool (!PM.areRegs [a, b, c])) ∧ Below w.heap.size w w' := by
  have HA : Hid (∀ V : World, Calls Try.prog 28 #[.slice (some ⟨w.heap.size + 1, 0, none⟩) 3 3] ((w.alloc (.cells #[.int .i64 4, .int .i64 a, .int .i64 b, .int .i64 c, .int .i64 m] 23)).alloc (.cells (ints [a, b, c]) 3)) fun e w' => e = .returned (.bool (PM.areRegs [a, b, c])) ∧ ((w.alloc (.cells #[.int .i64 4, .int .i64 a, .int .i64 b, .int .i64 c, .int .i64 m] 23)).alloc (.cells (ints [a, b, c]) 3)) = w') := fun V => areRegs_any [a, b, c] (w.heap.size + 1) _ (by simp) (by have e := B.new (w.alloc (.cells #[.int .i64 4, .int .i64 a, .int .i64 b, .int .i64 c, .int .i64 m] 23)) (ints [a, b, c]) 3; rw [World.size_alloc] at e; exact e)
  obtain ⟨R, hR⟩ : ∃ R, R = PM.areRegs [a, b, c] := ⟨_, rfl⟩
  rw [← hR] at HA
  rw [← hR]
  clear hR
  go_enter Try.func23, Try.ntmps23
  go_wp2_with fail
  refine (HA.out w).mono ?_
  rintro e w' ⟨rfl, rfl⟩
  go_wp2
  go_ret
  exact ⟨by simp, ((Below.refl _ _).alloc (Nat.le_refl _) _).alloc (by simp) _⟩
set_option maxHeartbeats 400000 in
theorem isBad5 (a b c m : Int) (w : World) : Calls Try.prog 23 #[.agg #[.int .i64 5, .int .i64 a, .int .i64 b, .int .i64 c, .int .i64 m]] w fun e w' => e = .returned (.bool (!PM.areRegs [a, b, c])) ∧ Below w.heap.size w w' := by
  have HA : Hid (∀ V : World, Calls Try.prog 28 #[.slice (some ⟨w.heap.size + 1, 0, none⟩) 3 3] ((w.alloc (.cells #[.int .i64 5, .int .i64 a, .int .i64 b, .int .i64 c, .int .i64 m] 23)).alloc (.cells (ints [a, b, c]) 3)) fun e w' => e = .returned (.bool (PM.areRegs [a, b, c])) ∧ ((w.alloc (.cells #[.int .i64 5, .int .i64 a, .int .i64 b, .int .i64 c, .int .i64 m] 23)).alloc (.cells (ints [a, b, c]) 3)) = w') := fun V => areRegs_any [a, b, c] (w.heap.size + 1) _ (by simp) (by have e := B.new (w.alloc (.cells #[.int .i64 5, .int .i64 a, .int .i64 b, .int .i64 c, .int .i64 m] 23)) (ints [a, b, c]) 3; rw [World.size_alloc] at e; exact e)
  obtain ⟨R, hR⟩ : ∃ R, R = PM.areRegs [a, b, c] := ⟨_, rfl⟩
  rw [← hR] at HA
  rw [← hR]
  clear hR
  go_enter Try.func23, Try.ntmps23
  go_wp2_with fail
  refine (HA.out w).mono ?_
  rintro e w' ⟨rfl, rfl⟩
  go_wp2
  go_ret
  exact ⟨by simp, ((Below.refl _ _).alloc (Nat.le_refl _) _).alloc (by simp) _⟩
set_option maxHeartbeats 400000 in
theorem isBad6 (a b c m : Int) (w : World) : Calls Try.prog 23 #[.agg #[.int .i64 6, .int .i64 a, .int .i64 b, .int .i64 c, .int .i64 m]] w fun e w' => e = .returned (.bool (!PM.areRegs [a, b, c])) ∧ Below w.heap.size w w' := by
  have HA : Hid (∀ V : World, Calls Try.prog 28 #[.slice (some ⟨w.heap.size + 1, 0, none⟩) 3 3] ((w.alloc (.cells #[.int .i64 6, .int .i64 a, .int .i64 b, .int .i64 c, .int .i64 m] 23)).alloc (.cells (ints [a, b, c]) 3)) fun e w' => e = .returned (.bool (PM.areRegs [a, b, c])) ∧ ((w.alloc (.cells #[.int .i64 6, .int .i64 a, .int .i64 b, .int .i64 c, .int .i64 m] 23)).alloc (.cells (ints [a, b, c]) 3)) = w') := fun V => areRegs_any [a, b, c] (w.heap.size + 1) _ (by simp) (by have e := B.new (w.alloc (.cells #[.int .i64 6, .int .i64 a, .int .i64 b, .int .i64 c, .int .i64 m] 23)) (ints [a, b, c]) 3; rw [World.size_alloc] at e; exact e)
  obtain ⟨R, hR⟩ : ∃ R, R = PM.areRegs [a, b, c] := ⟨_, rfl⟩
  rw [← hR] at HA
  rw [← hR]
  clear hR
  go_enter Try.func23, Try.ntmps23
  go_wp2_with fail
  refine (HA.out w).mono ?_
  rintro e w' ⟨rfl, rfl⟩
  go_wp2
  go_ret
  exact ⟨by simp, ((Below.refl _ _).alloc (Nat.le_refl _) _).alloc (by simp) _⟩
set_option maxHeartbeats 400000 in
theorem isBad7 (a b c m : Int) (w : World) : Calls Try.prog 23 #[.agg #[.int .i64 7, .int .i64 a, .int .i64 b, .int .i64 c, .int .i64 m]] w fun e w' => e = .returned (.bool (!PM.areRegs [a, b, c])) ∧ Below w.heap.size w w' := by
  have HA : Hid (∀ V : World, Calls Try.prog 28 #[.slice (some ⟨w.heap.size + 1, 0, none⟩) 3 3] ((w.alloc (.cells #[.int .i64 7, .int .i64 a, .int .i64 b, .int .i64 c, .int .i64 m] 23)).alloc (.cells (ints [a, b, c]) 3)) fun e w' => e = .returned (.bool (PM.areRegs [a, b, c])) ∧ ((w.alloc (.cells #[.int .i64 7, .int .i64 a, .int .i64 b, .int .i64 c, .int .i64 m] 23)).alloc (.cells (ints [a, b, c]) 3)) = w') := fun V => areRegs_any [a, b, c] (w.heap.size + 1) _ (by simp) (by have e := B.new (w.alloc (.cells #[.int .i64 7, .int .i64 a, .int .i64 b, .int .i64 c, .int .i64 m] 23)) (ints [a, b, c]) 3; rw [World.size_alloc] at e; exact e)
  obtain ⟨R, hR⟩ : ∃ R, R = PM.areRegs [a, b, c] := ⟨_, rfl⟩
  rw [← hR] at HA
  rw [← hR]
  clear hR
  go_enter Try.func23, Try.ntmps23
  go_wp2_with fail
  refine (HA.out w).mono ?_
  rintro e w' ⟨rfl, rfl⟩
  go_wp2
  go_ret
  exact ⟨by simp, ((Below.refl _ _).alloc (Nat.le_refl _) _).alloc (by simp) _⟩
set_option maxHeartbeats 400000 in
theorem isBad8 (a b c m : Int) (w : World) : Calls Try.prog 23 #[.agg #[.int .i64 8, .int .i64 a, .int .i64 b, .int .i64 c, .int .i64 m]] w fun e w' => e = .returned (.bool (!PM.areRegs [a, b])) ∧ Below w.heap.size w w' := by
  have HA : Hid (∀ V : World, Calls Try.prog 28 #[.slice (some ⟨w.heap.size + 1, 0, none⟩) 2 2] ((w.alloc (.cells #[.int .i64 8, .int .i64 a, .int .i64 b, .int .i64 c, .int .i64 m] 23)).alloc (.cells (ints [a, b]) 3)) fun e w' => e = .returned (.bool (PM.areRegs [a, b])) ∧ ((w.alloc (.cells #[.int .i64 8, .int .i64 a, .int .i64 b, .int .i64 c, .int .i64 m] 23)).alloc (.cells (ints [a, b]) 3)) = w') := fun V => areRegs_any [a, b] (w.heap.size + 1) _ (by simp) (by have e := B.new (w.alloc (.cells #[.int .i64 8, .int .i64 a, .int .i64 b, .int .i64 c, .int .i64 m] 23)) (ints [a, b]) 3; rw [World.size_alloc] at e; exact e)
  obtain ⟨R, hR⟩ : ∃ R, R = PM.areRegs [a, b] := ⟨_, rfl⟩
  rw [← hR] at HA
  rw [← hR]
  clear hR
  go_enter Try.func23, Try.ntmps23
  go_wp2_with fail
  refine (HA.out w).mono ?_
  rintro e w' ⟨rfl, rfl⟩
  go_wp2
  go_ret
  exact ⟨by simp, ((Below.refl _ _).alloc (Nat.le_refl _) _).alloc (by simp) _⟩
set_option maxHeartbeats 400000 in
theorem isBad11 (a b c m : Int) (w : World) : Calls Try.prog 23 #[.agg #[.int .i64 11, .int .i64 a, .int .i64 b, .int .i64 c, .int .i64 m]] w fun e w' => e = .returned (.bool (!PM.areRegs [a])) ∧ Below w.heap.size w w' := by
  have HA : Hid (∀ V : World, Calls Try.prog 28 #[.slice (some ⟨w.heap.size + 1, 0, none⟩) 1 1] ((w.alloc (.cells #[.int .i64 11, .int .i64 a, .int .i64 b, .int .i64 c, .int .i64 m] 23)).alloc (.cells (ints [a]) 3)) fun e w' => e = .returned (.bool (PM.areRegs [a])) ∧ ((w.alloc (.cells #[.int .i64 11, .int .i64 a, .int .i64 b, .int .i64 c, .int .i64 m] 23)).alloc (.cells (ints [a]) 3)) = w') := fun V => areRegs_any [a] (w.heap.size + 1) _ (by simp) (by have e := B.new (w.alloc (.cells #[.int .i64 11, .int .i64 a, .int .i64 b, .int .i64 c, .int .i64 m] 23)) (ints [a]) 3; rw [World.size_alloc] at e; exact e)
  obtain ⟨R, hR⟩ : ∃ R, R = PM.areRegs [a] := ⟨_, rfl⟩
  rw [← hR] at HA
  rw [← hR]
  clear hR
  go_enter Try.func23, Try.ntmps23
  go_wp2_with fail
  refine (HA.out w).mono ?_
  rintro e w' ⟨rfl, rfl⟩
  go_wp2
  go_ret
  exact ⟨by simp, ((Below.refl _ _).alloc (Nat.le_refl _) _).alloc (by simp) _⟩
set_option maxHeartbeats 400000 in
theorem isBad13 (a b c m : Int) (w : World) : Calls Try.prog 23 #[.agg #[.int .i64 13, .int .i64 a, .int .i64 b, .int .i64 c, .int .i64 m]] w fun e w' => e = .returned (.bool (!PM.areRegs [a, b])) ∧ Below w.heap.size w w' := by
  have HA : Hid (∀ V : World, Calls Try.prog 28 #[.slice (some ⟨w.heap.size + 1, 0, none⟩) 2 2] ((w.alloc (.cells #[.int .i64 13, .int .i64 a, .int .i64 b, .int .i64 c, .int .i64 m] 23)).alloc (.cells (ints [a, b]) 3)) fun e w' => e = .returned (.bool (PM.areRegs [a, b])) ∧ ((w.alloc (.cells #[.int .i64 13, .int .i64 a, .int .i64 b, .int .i64 c, .int .i64 m] 23)).alloc (.cells (ints [a, b]) 3)) = w') := fun V => areRegs_any [a, b] (w.heap.size + 1) _ (by simp) (by have e := B.new (w.alloc (.cells #[.int .i64 13, .int .i64 a, .int .i64 b, .int .i64 c, .int .i64 m] 23)) (ints [a, b]) 3; rw [World.size_alloc] at e; exact e)
  obtain ⟨R, hR⟩ : ∃ R, R = PM.areRegs [a, b] := ⟨_, rfl⟩
  rw [← hR] at HA
  rw [← hR]
  clear hR
  go_enter Try.func23, Try.ntmps23
  go_wp2_with fail
  refine (HA.out w).mono ?_
  rintro e w' ⟨rfl, rfl⟩
  go_wp2
  go_ret
  exact ⟨by simp, ((Below.refl _ _).alloc (Nat.le_refl _) _).alloc (by simp) _⟩
set_option maxHeartbeats 400000 in
theorem isBad14 (a b c m : Int) (w : World) : Calls Try.prog 23 #[.agg #[.int .i64 14, .int .i64 a, .int .i64 b, .int .i64 c, .int .i64 m]] w fun e w' => e = .returned (.bool (!PM.areRegs [a, b])) ∧ Below w.heap.size w w' := by
  have HA : Hid (∀ V : World, Calls Try.prog 28 #[.slice (some ⟨w.heap.size + 1, 0, none⟩) 2 2] ((w.alloc (.cells #[.int .i64 14, .int .i64 a, .int .i64 b, .int .i64 c, .int .i64 m] 23)).alloc (.cells (ints [a, b]) 3)) fun e w' => e = .returned (.bool (PM.areRegs [a, b])) ∧ ((w.alloc (.cells #[.int .i64 14, .int .i64 a, .int .i64 b, .int .i64 c, .int .i64 m] 23)).alloc (.cells (ints [a, b]) 3)) = w') := fun V => areRegs_any [a, b] (w.heap.size + 1) _ (by simp) (by have e := B.new (w.alloc (.cells #[.int .i64 14, .int .i64 a, .int .i64 b, .int .i64 c, .int .i64 m] 23)) (ints [a, b]) 3; rw [World.size_alloc] at e; exact e)
  obtain ⟨R, hR⟩ : ∃ R, R = PM.areRegs [a, b] := ⟨_, rfl⟩
  rw [← hR] at HA
  rw [← hR]
  clear hR
  go_enter Try.func23, Try.ntmps23
  go_wp2_with fail
  refine (HA.out w).mono ?_
  rintro e w' ⟨rfl, rfl⟩
  go_wp2
  go_ret
  exact ⟨by simp, ((Below.refl _ _).alloc (Nat.le_refl _) _).alloc (by simp) _⟩
set_option maxHeartbeats 400000 in
theorem isBad15 (a b c m : Int) (w : World) : Calls Try.prog 23 #[.agg #[.int .i64 15, .int .i64 a, .int .i64 b, .int .i64 c, .int .i64 m]] w fun e w' => e = .returned (.bool (!PM.areRegs [a])) ∧ Below w.heap.size w w' := by
  have HA : Hid (∀ V : World, Calls Try.prog 28 #[.slice (some ⟨w.heap.size + 1, 0, none⟩) 1 1] ((w.alloc (.cells #[.int .i64 15, .int .i64 a, .int .i64 b, .int .i64 c, .int .i64 m] 23)).alloc (.cells (ints [a]) 3)) fun e w' => e = .returned (.bool (PM.areRegs [a])) ∧ ((w.alloc (.cells #[.int .i64 15, .int .i64 a, .int .i64 b, .int .i64 c, .int .i64 m] 23)).alloc (.cells (ints [a]) 3)) = w') := fun V => areRegs_any [a] (w.heap.size + 1) _ (by simp) (by have e := B.new (w.alloc (.cells #[.int .i64 15, .int .i64 a, .int .i64 b, .int .i64 c, .int .i64 m] 23)) (ints [a]) 3; rw [World.size_alloc] at e; exact e)
  obtain ⟨R, hR⟩ : ∃ R, R = PM.areRegs [a] := ⟨_, rfl⟩
  rw [← hR] at HA
  rw [← hR]
  clear hR
  go_enter Try.func23, Try.ntmps23
  go_wp2_with fail
  refine (HA.out w).mono ?_
  rintro e w' ⟨rfl, rfl⟩
  go_wp2
  go_ret
  exact ⟨by simp, ((Below.refl _ _).alloc (Nat.le_refl _) _).alloc (by simp) _⟩
end Go.Proofs.Ytamocjifffbhpaa.PW
