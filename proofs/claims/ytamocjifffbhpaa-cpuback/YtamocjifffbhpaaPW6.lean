import Derived.Test.YtamocjifffbhpaaPW5
namespace Go.Proofs.Ytamocjifffbhpaa.PW
open Go.RowKit
set_option linter.unusedVariables false
set_option maxRecDepth 100000
set_option maxHeartbeats 400000 in
theorem isBad9 (a b c m : Int) (w : World) : Calls Try.prog 23 #[.agg #[.int .i64 9, .int .i64 a, .int .i64 b, .int .i64 c, .int .i64 m]] w fun e w' => e = .returned (.bool (!PM.areRegs [a, b] || !PM.isSize c)) ∧ Below w.heap.size w w' := by
  have HA : Hid (∀ V : World, Calls Try.prog 28 #[.slice (some ⟨w.heap.size + 1, 0, none⟩) 2 2] ((w.alloc (.cells #[.int .i64 9, .int .i64 a, .int .i64 b, .int .i64 c, .int .i64 m] 23)).alloc (.cells (ints [a, b]) 3)) fun e w' => e = .returned (.bool (PM.areRegs [a, b])) ∧ ((w.alloc (.cells #[.int .i64 9, .int .i64 a, .int .i64 b, .int .i64 c, .int .i64 m] 23)).alloc (.cells (ints [a, b]) 3)) = w') := fun V => areRegs_any [a, b] (w.heap.size + 1) _ (by simp) (by have e := B.new (w.alloc (.cells #[.int .i64 9, .int .i64 a, .int .i64 b, .int .i64 c, .int .i64 m] 23)) (ints [a, b]) 3; rw [World.size_alloc] at e; exact e)
  have HS := hideC (isSize_any c)
  obtain ⟨R, hR⟩ : ∃ R, R = PM.areRegs [a, b] := ⟨_, rfl⟩
  rw [← hR] at HA
  rw [← hR]
  obtain ⟨S, hS⟩ : ∃ S, S = PM.isSize c := ⟨_, rfl⟩
  rw [← hS] at HS
  rw [← hS]
  clear hR hS
  cases R
  · go_enter Try.func23, Try.ntmps23
    go_wp2_with fail
    refine (HA.out w).mono ?_
    rintro e w' ⟨rfl, rfl⟩
    go_wp2
    go_ret
    exact ⟨by simp, ((Below.refl _ _).alloc (Nat.le_refl _) _).alloc (by simp) _⟩
  · go_enter Try.func23, Try.ntmps23
    go_wp2_with fail
    refine (HA.out w).mono ?_
    rintro e w' ⟨rfl, rfl⟩
    go_wp2_with fail
    refine (HS.out _).mono ?_
    rintro e w' ⟨rfl, rfl⟩
    go_wp2
    go_ret
    exact ⟨by simp, ((Below.refl _ _).alloc (Nat.le_refl _) _).alloc (by simp) _⟩
set_option maxHeartbeats 400000 in
theorem isBad10 (a b c m : Int) (w : World) : Calls Try.prog 23 #[.agg #[.int .i64 10, .int .i64 a, .int .i64 b, .int .i64 c, .int .i64 m]] w fun e w' => e = .returned (.bool (!PM.areRegs [a, b] || !PM.isSize c)) ∧ Below w.heap.size w w' := by
  have HA : Hid (∀ V : World, Calls Try.prog 28 #[.slice (some ⟨w.heap.size + 1, 0, none⟩) 2 2] ((w.alloc (.cells #[.int .i64 10, .int .i64 a, .int .i64 b, .int .i64 c, .int .i64 m] 23)).alloc (.cells (ints [a, b]) 3)) fun e w' => e = .returned (.bool (PM.areRegs [a, b])) ∧ ((w.alloc (.cells #[.int .i64 10, .int .i64 a, .int .i64 b, .int .i64 c, .int .i64 m] 23)).alloc (.cells (ints [a, b]) 3)) = w') := fun V => areRegs_any [a, b] (w.heap.size + 1) _ (by simp) (by have e := B.new (w.alloc (.cells #[.int .i64 10, .int .i64 a, .int .i64 b, .int .i64 c, .int .i64 m] 23)) (ints [a, b]) 3; rw [World.size_alloc] at e; exact e)
  have HS := hideC (isSize_any c)
  obtain ⟨R, hR⟩ : ∃ R, R = PM.areRegs [a, b] := ⟨_, rfl⟩
  rw [← hR] at HA
  rw [← hR]
  obtain ⟨S, hS⟩ : ∃ S, S = PM.isSize c := ⟨_, rfl⟩
  rw [← hS] at HS
  rw [← hS]
  clear hR hS
  cases R
  · go_enter Try.func23, Try.ntmps23
    go_wp2_with fail
    refine (HA.out w).mono ?_
    rintro e w' ⟨rfl, rfl⟩
    go_wp2
    go_ret
    exact ⟨by simp, ((Below.refl _ _).alloc (Nat.le_refl _) _).alloc (by simp) _⟩
  · go_enter Try.func23, Try.ntmps23
    go_wp2_with fail
    refine (HA.out w).mono ?_
    rintro e w' ⟨rfl, rfl⟩
    go_wp2_with fail
    refine (HS.out _).mono ?_
    rintro e w' ⟨rfl, rfl⟩
    go_wp2
    go_ret
    exact ⟨by simp, ((Below.refl _ _).alloc (Nat.le_refl _) _).alloc (by simp) _⟩
set_option maxHeartbeats 400000 in
theorem isBad12 (a b c m : Int) (w : World) : Calls Try.prog 23 #[.agg #[.int .i64 12, .int .i64 a, .int .i64 b, .int .i64 c, .int .i64 m]] w fun e w' => e = .returned (.bool false) ∧ Below w.heap.size w w' := by
  go_enter Try.func23, Try.ntmps23
  go_wp2
  go_ret
  exact ⟨by simp, (Below.refl _ _).alloc (Nat.le_refl _) _⟩
set_option maxHeartbeats 400000 in
theorem isBad16 (a b c m : Int) (w : World) : Calls Try.prog 23 #[.agg #[.int .i64 16, .int .i64 a, .int .i64 b, .int .i64 c, .int .i64 m]] w fun e w' => e = .returned (.bool (!decide (1 ≤ m ∧ m ≤ 6))) ∧ Below w.heap.size w w' := by
  by_cases h1 : 1 ≤ m
  · by_cases h2 : m ≤ 6
    · have HR := hideC (show (!decide (1 ≤ m ∧ m ≤ 6)) = false from by simp [h1, h2])
      rw [HR.out]
      go_enter Try.func23, Try.ntmps23
      go_wp2
      go_ret
      exact ⟨by first | (simp; done) | (simp; omega), (Below.refl _ _).alloc (Nat.le_refl _) _⟩
    · have HR := hideC (show (!decide (1 ≤ m ∧ m ≤ 6)) = true from by simp [h1, h2])
      rw [HR.out]
      go_enter Try.func23, Try.ntmps23
      go_wp2
      go_ret
      exact ⟨by first | (simp; done) | (simp; omega), (Below.refl _ _).alloc (Nat.le_refl _) _⟩
  · have HR := hideC (show (!decide (1 ≤ m ∧ m ≤ 6)) = true from by simp [h1])
    rw [HR.out]
    go_enter Try.func23, Try.ntmps23
    go_wp2
    go_ret
    exact ⟨by simp, (Below.refl _ _).alloc (Nat.le_refl _) _⟩
set_option maxHeartbeats 1000000 in
theorem isBadX (op a b c m : Int) (w : World) (h : op < 1 ∨ 16 < op) : Calls Try.prog 23 #[.agg #[.int .i64 op, .int .i64 a, .int .i64 b, .int .i64 c, .int .i64 m]] w fun e w' => e = .returned (.bool true) ∧ Below w.heap.size w w' := by
  have n1 : ¬ op = 1 := by omega
  have n2 : ¬ op = 2 := by omega
  have n3 : ¬ op = 3 := by omega
  have n4 : ¬ op = 4 := by omega
  have n5 : ¬ op = 5 := by omega
  have n6 : ¬ op = 6 := by omega
  have n7 : ¬ op = 7 := by omega
  have n8 : ¬ op = 8 := by omega
  have n9 : ¬ op = 9 := by omega
  have n10 : ¬ op = 10 := by omega
  have n11 : ¬ op = 11 := by omega
  have n12 : ¬ op = 12 := by omega
  have n13 : ¬ op = 13 := by omega
  have n14 : ¬ op = 14 := by omega
  have n15 : ¬ op = 15 := by omega
  have n16 : ¬ op = 16 := by omega
  clear h
  go_enter Try.func23, Try.ntmps23
  go_wp2
  go_ret
  exact ⟨by simp [n12], (Below.refl _ _).alloc (Nat.le_refl _) _⟩

theorem op_cases (op : Int) : (op < 1 ∨ 16 < op) ∨ op = 1 ∨ op = 2 ∨ op = 3 ∨ op = 4 ∨ op = 5 ∨ op = 6 ∨ op = 7 ∨ op = 8 ∨ op = 9 ∨ op = 10 ∨ op = 11 ∨ op = 12 ∨ op = 13 ∨ op = 14 ∨ op = 15 ∨ op = 16 := by omega
theorem bad_else (i : PM.Ins) (h : i.op < 1 ∨ 16 < i.op) : i.bad = true := by
  unfold PM.Ins.bad
  rw [if_neg (by omega), if_neg (by omega), if_neg (by omega), if_neg (by omega), if_neg (by omega), if_neg (by omega)]
theorem isBad_any (i : PM.Ins) (w : World) (hi : i.fits) : Calls Try.prog 23 #[.agg i.cells] w fun e w' => e = .returned (.bool i.bad) ∧ Below w.heap.size w w' := by
  obtain ⟨op, a, b, c, m⟩ := i
  obtain ⟨-, ha, hb, hc, -⟩ := hi
  have e1 := PM.regs1 a ha
  have e2 := PM.regs2 a b ha hb
  have e3 := PM.regs3 a b c ha hb hc
  rcases op_cases op with h | h | h | h | h | h | h | h | h | h | h | h | h | h | h | h | h
  · rw [bad_else _ h]; exact isBadX op a b c m w h
  · subst h
    have g := isBad1 a b c m w
    rw [e1] at g
    exact g
  · subst h
    have g := isBad2 a b c m w
    rw [e3] at g
    exact g
  · subst h
    have g := isBad3 a b c m w
    rw [e3] at g
    exact g
  · subst h
    have g := isBad4 a b c m w
    rw [e3] at g
    exact g
  · subst h
    have g := isBad5 a b c m w
    rw [e3] at g
    exact g
  · subst h
    have g := isBad6 a b c m w
    rw [e3] at g
    exact g
  · subst h
    have g := isBad7 a b c m w
    rw [e3] at g
    exact g
  · subst h
    have g := isBad8 a b c m w
    rw [e2] at g
    exact g
  · subst h
    have g := isBad9 a b c m w
    rw [e2] at g
    exact g
  · subst h
    have g := isBad10 a b c m w
    rw [e2] at g
    exact g
  · subst h
    have g := isBad11 a b c m w
    rw [e1] at g
    exact g
  · subst h
    have g := isBad12 a b c m w
    exact g
  · subst h
    have g := isBad13 a b c m w
    rw [e2] at g
    exact g
  · subst h
    have g := isBad14 a b c m w
    rw [e2] at g
    exact g
  · subst h
    have g := isBad15 a b c m w
    rw [e1] at g
    exact g
  · subst h
    have g := isBad16 a b c m w
    exact g
end Go.Proofs.Ytamocjifffbhpaa.PW
