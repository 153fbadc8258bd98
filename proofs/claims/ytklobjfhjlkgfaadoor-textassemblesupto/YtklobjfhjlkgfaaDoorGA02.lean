import Derived.Test.YtklobjfhjlkgfaaDoorGA01
namespace Go.Proofs.YtklobjfhjlkgfaaDoor.PW
open Go.RowKit
set_option linter.unusedVariables false
set_option maxRecDepth 100000

def ints (l : List Int) : Array Value := (l.map fun x => Value.int .i64 x).toArray
theorem ints_get (l : List Int) (k : Nat) (h : k < l.length) : (ints l)[k]? = some (.int .i64 (l.getD k 0)) := by
  simp [ints, h]
set_option maxHeartbeats 400000 in
theorem areRegs_any (l : List Int) (b : Nat) (w : World) (hl : l.length ≤ 4) (hx : w.heap[b]? = some (.cells (ints l) 3 (0, 0))) :
    Calls Tryd.prog 67 #[.slice (some ⟨b, 0, none⟩) l.length l.length] w fun e w' => e = .returned (.bool (PM.areRegs l)) ∧ w = w' := by
  have HX := hideC hx
  have HN := hideC (PM.areRegs_no l)
  have HY := hideC (PM.areRegs_yes l)
  obtain ⟨R, hR⟩ : ∃ R, R = PM.areRegs l := ⟨_, rfl⟩
  rw [← hR] at HN HY
  rw [← hR]
  clear hR hx
  go_enter Tryd.func67, Tryd.ntmps67
  go_wp2
  go_loop [7] (fun i => ∃ k : Nat, k ≤ l.length ∧ i = .int .i64 k ∧ ∀ j, j < k → 0 ≤ l.getD j 0 ∧ l.getD j 0 < 8) (fun i => l.length - (intOf i).toNat)
  case atStart => exact ⟨0, by omega, rfl, fun j hj => absurd hj (by omega)⟩
  case round =>
    obtain ⟨k, hk, rfl, hj⟩ := hrel
    have HJ := hideC hj
    clear hj
    by_cases hlt : k < l.length
    · have hc := B.cell HX.out k (ints_get l k hlt)
      have HG := hideC (show l[k]? = some (l.getD k 0) from by simp [hlt])
      have HJ2 : Hid (0 ≤ l.getD k 0 ∧ l.getD k 0 < 8 → ∀ j, j < k + 1 → 0 ≤ l.getD j 0 ∧ l.getD j 0 < 8) := fun h j hjj => by
        rcases Nat.lt_or_ge j k with g | g
        · exact HJ.out j g
        · obtain rfl : j = k := by omega
          exact h
      obtain ⟨x, hx⟩ : ∃ x, x = l.getD k 0 := ⟨_, rfl⟩
      rw [← hx] at hc HG HJ2
      clear hx
      by_cases h0 : 0 ≤ x
      · by_cases h1 : x < 8
        · go_wp2
          go_round
          case rel => exact ⟨k + 1, by omega, by go_num, HJ2.out ⟨h0, h1⟩⟩
          case measure => simp [intOf]; omega
        · obtain rfl := HN.out k x HG.out (fun h => h1 h.2)
          go_wp2
          go_ret
          exact ⟨rfl, rfl⟩
      · obtain rfl := HN.out k x HG.out (fun h => h0 h.1)
        go_wp2
        go_ret
        exact ⟨rfl, rfl⟩
    · obtain rfl : k = l.length := by omega
      obtain rfl := HY.out (fun j x hx => by
        have hlt2 : j < l.length := (List.getElem?_eq_some_iff.1 hx).1
        have e : l.getD j 0 = x := by simp [hx]
        rw [← e]
        exact HJ.out j hlt2)
      go_wp2
      go_ret
      exact ⟨rfl, rfl⟩

theorem isSize_any (n : Int) (w : World) : Calls Tryd.prog 68 #[.int .i64 n] w fun e w' => e = .returned (.bool (PM.isSize n)) ∧ w = w' := by
  by_cases h1 : n = 1
  · subst h1
    go_enter Tryd.func68, Tryd.ntmps68
    go_wp2
    go_ret
    exact ⟨rfl, rfl⟩
  · by_cases h2 : n = 2
    · subst h2
      go_enter Tryd.func68, Tryd.ntmps68
      go_wp2
      go_ret
      exact ⟨rfl, rfl⟩
    · by_cases h3 : n = 4
      · subst h3
        go_enter Tryd.func68, Tryd.ntmps68
        go_wp2
        go_ret
        exact ⟨rfl, rfl⟩
      · rw [show PM.isSize n = decide (n = 8) from by unfold PM.isSize; simp [h1, h2, h3]]
        go_enter Tryd.func68, Tryd.ntmps68
        go_wp2
        go_ret
        have b1 : (n == 1) = false := by simpa using h1
        have b2 : (n == 2) = false := by simpa using h2
        have b3 : (n == 4) = false := by simpa using h3
        have b4 : (n == 8) = decide (n = 8) := by by_cases h : n = 8 <;> simp [h]
        exact ⟨by simp only [b1, b2, b3, b4, Bool.false_or]; rfl, rfl⟩
end Go.Proofs.YtklobjfhjlkgfaaDoor.PW
namespace Go.Proofs.YtklobjfhjlkgfaaDoor.PW
open Go.RowKit
set_option linter.unusedVariables false
set_option maxRecDepth 100000
set_option maxHeartbeats 400000 in
theorem isBad1 (a b c m : Int) (w : World) : Calls Tryd.prog 59 #[.agg #[.int .i64 1, .int .i64 a, .int .i64 b, .int .i64 c, .int .i64 m]] w fun e w' => e = .returned (.bool (!PM.areRegs [a])) ∧ Below w.heap.size w w' := by
  have HA : Hid (∀ V : World, Calls Tryd.prog 67 #[.slice (some ⟨w.heap.size + 1, 0, none⟩) 1 1] ((w.alloc (.cells #[.int .i64 1, .int .i64 a, .int .i64 b, .int .i64 c, .int .i64 m] 23)).alloc (.cells (ints [a]) 3)) fun e w' => e = .returned (.bool (PM.areRegs [a])) ∧ ((w.alloc (.cells #[.int .i64 1, .int .i64 a, .int .i64 b, .int .i64 c, .int .i64 m] 23)).alloc (.cells (ints [a]) 3)) = w') := fun V => areRegs_any [a] (w.heap.size + 1) _ (by simp) (by have e := B.new (w.alloc (.cells #[.int .i64 1, .int .i64 a, .int .i64 b, .int .i64 c, .int .i64 m] 23)) (ints [a]) 3; rw [World.size_alloc] at e; exact e)
  obtain ⟨R, hR⟩ : ∃ R, R = PM.areRegs [a] := ⟨_, rfl⟩
  rw [← hR] at HA
  rw [← hR]
  clear hR
  go_enter Tryd.func59, Tryd.ntmps59
  go_wp2_with fail
  refine (HA.out w).mono ?_
  rintro e w' ⟨rfl, rfl⟩
  go_wp2
  go_ret
  exact ⟨by simp, ((Below.refl _ _).alloc (Nat.le_refl _) _).alloc (by simp) _⟩
set_option maxHeartbeats 400000 in
theorem isBad2 (a b c m : Int) (w : World) : Calls Tryd.prog 59 #[.agg #[.int .i64 2, .int .i64 a, .int .i64 b, .int .i64 c, .int .i64 m]] w fun e w' => e = .returned (.bool (!PM.areRegs [a, b, c])) ∧ Below w.heap.size w w' := by
  have HA : Hid (∀ V : World, Calls Tryd.prog 67 #[.slice (some ⟨w.heap.size + 1, 0, none⟩) 3 3] ((w.alloc (.cells #[.int .i64 2, .int .i64 a, .int .i64 b, .int .i64 c, .int .i64 m] 23)).alloc (.cells (ints [a, b, c]) 3)) fun e w' => e = .returned (.bool (PM.areRegs [a, b, c])) ∧ ((w.alloc (.cells #[.int .i64 2, .int .i64 a, .int .i64 b, .int .i64 c, .int .i64 m] 23)).alloc (.cells (ints [a, b, c]) 3)) = w') := fun V => areRegs_any [a, b, c] (w.heap.size + 1) _ (by simp) (by have e := B.new (w.alloc (.cells #[.int .i64 2, .int .i64 a, .int .i64 b, .int .i64 c, .int .i64 m] 23)) (ints [a, b, c]) 3; rw [World.size_alloc] at e; exact e)
  obtain ⟨R, hR⟩ : ∃ R, R = PM.areRegs [a, b, c] := ⟨_, rfl⟩
  rw [← hR] at HA
  rw [← hR]
  clear hR
  go_enter Tryd.func59, Tryd.ntmps59
  go_wp2_with fail
  refine (HA.out w).mono ?_
  rintro e w' ⟨rfl, rfl⟩
  go_wp2
  go_ret
  exact ⟨by simp, ((Below.refl _ _).alloc (Nat.le_refl _) _).alloc (by simp) _⟩
set_option maxHeartbeats 400000 in
theorem isBad3 (a b c m : Int) (w : World) : Calls Tryd.prog 59 #[.agg #[.int .i64 3, .int .i64 a, .int .i64 b, .int .i64 c, .int .i64 m]] w fun e w' => e = .returned (.bool (!PM.areRegs [a, b, c])) ∧ Below w.heap.size w w' := by
  have HA : Hid (∀ V : World, Calls Tryd.prog 67 #[.slice (some ⟨w.heap.size + 1, 0, none⟩) 3 3] ((w.alloc (.cells #[.int .i64 3, .int .i64 a, .int .i64 b, .int .i64 c, .int .i64 m] 23)).alloc (.cells (ints [a, b, c]) 3)) fun e w' => e = .returned (.bool (PM.areRegs [a, b, c])) ∧ ((w.alloc (.cells #[.int .i64 3, .int .i64 a, .int .i64 b, .int .i64 c, .int .i64 m] 23)).alloc (.cells (ints [a, b, c]) 3)) = w') := fun V => areRegs_any [a, b, c] (w.heap.size + 1) _ (by simp) (by have e := B.new (w.alloc (.cells #[.int .i64 3, .int .i64 a, .int .i64 b, .int .i64 c, .int .i64 m] 23)) (ints [a, b, c]) 3; rw [World.size_alloc] at e; exact e)
  obtain ⟨R, hR⟩ : ∃ R, R = PM.areRegs [a, b, c] := ⟨_, rfl⟩
  rw [← hR] at HA
  rw [← hR]
  clear hR
  go_enter Tryd.func59, Tryd.ntmps59
  go_wp2_with fail
  refine (HA.out w).mono ?_
  rintro e w' ⟨rfl, rfl⟩
  go_wp2
  go_ret
  exact ⟨by simp, ((Below.refl _ _).alloc (Nat.le_refl _) _).alloc (by simp) _⟩
set_option maxHeartbeats 400000 in
theorem isBad4 (a b c m : Int) (w : World) : Calls Tryd.prog 59 #[.agg #[.int .i64 4, .int .i64 a, .int .i64 b, .int .i64 c, .int .i64 m]] w fun e w' => e = .returned (.bool (!PM.areRegs [a, b, c])) ∧ Below w.heap.size w w' := by
  have HA : Hid (∀ V : World, Calls Tryd.prog 67 #[.slice (some ⟨w.heap.size + 1, 0, none⟩) 3 3] ((w.alloc (.cells #[.int .i64 4, .int .i64 a, .int .i64 b, .int .i64 c, .int .i64 m] 23)).alloc (.cells (ints [a, b, c]) 3)) fun e w' => e = .returned (.bool (PM.areRegs [a, b, c])) ∧ ((w.alloc (.cells #[.int .i64 4, .int .i64 a, .int .i64 b, .int .i64 c, .int .i64 m] 23)).alloc (.cells (ints [a, b, c]) 3)) = w') := fun V => areRegs_any [a, b, c] (w.heap.size + 1) _ (by simp) (by have e := B.new (w.alloc (.cells #[.int .i64 4, .int .i64 a, .int .i64 b, .int .i64 c, .int .i64 m] 23)) (ints [a, b, c]) 3; rw [World.size_alloc] at e; exact e)
  obtain ⟨R, hR⟩ : ∃ R, R = PM.areRegs [a, b, c] := ⟨_, rfl⟩
  rw [← hR] at HA
  rw [← hR]
  clear hR
  go_enter Tryd.func59, Tryd.ntmps59
  go_wp2_with fail
  refine (HA.out w).mono ?_
  rintro e w' ⟨rfl, rfl⟩
  go_wp2
  go_ret
  exact ⟨by simp, ((Below.refl _ _).alloc (Nat.le_refl _) _).alloc (by simp) _⟩
set_option maxHeartbeats 400000 in
theorem isBad5 (a b c m : Int) (w : World) : Calls Tryd.prog 59 #[.agg #[.int .i64 5, .int .i64 a, .int .i64 b, .int .i64 c, .int .i64 m]] w fun e w' => e = .returned (.bool (!PM.areRegs [a, b, c])) ∧ Below w.heap.size w w' := by
  have HA : Hid (∀ V : World, Calls Tryd.prog 67 #[.slice (some ⟨w.heap.size + 1, 0, none⟩) 3 3] ((w.alloc (.cells #[.int .i64 5, .int .i64 a, .int .i64 b, .int .i64 c, .int .i64 m] 23)).alloc (.cells (ints [a, b, c]) 3)) fun e w' => e = .returned (.bool (PM.areRegs [a, b, c])) ∧ ((w.alloc (.cells #[.int .i64 5, .int .i64 a, .int .i64 b, .int .i64 c, .int .i64 m] 23)).alloc (.cells (ints [a, b, c]) 3)) = w') := fun V => areRegs_any [a, b, c] (w.heap.size + 1) _ (by simp) (by have e := B.new (w.alloc (.cells #[.int .i64 5, .int .i64 a, .int .i64 b, .int .i64 c, .int .i64 m] 23)) (ints [a, b, c]) 3; rw [World.size_alloc] at e; exact e)
  obtain ⟨R, hR⟩ : ∃ R, R = PM.areRegs [a, b, c] := ⟨_, rfl⟩
  rw [← hR] at HA
  rw [← hR]
  clear hR
  go_enter Tryd.func59, Tryd.ntmps59
  go_wp2_with fail
  refine (HA.out w).mono ?_
  rintro e w' ⟨rfl, rfl⟩
  go_wp2
  go_ret
  exact ⟨by simp, ((Below.refl _ _).alloc (Nat.le_refl _) _).alloc (by simp) _⟩
set_option maxHeartbeats 400000 in
theorem isBad6 (a b c m : Int) (w : World) : Calls Tryd.prog 59 #[.agg #[.int .i64 6, .int .i64 a, .int .i64 b, .int .i64 c, .int .i64 m]] w fun e w' => e = .returned (.bool (!PM.areRegs [a, b, c])) ∧ Below w.heap.size w w' := by
  have HA : Hid (∀ V : World, Calls Tryd.prog 67 #[.slice (some ⟨w.heap.size + 1, 0, none⟩) 3 3] ((w.alloc (.cells #[.int .i64 6, .int .i64 a, .int .i64 b, .int .i64 c, .int .i64 m] 23)).alloc (.cells (ints [a, b, c]) 3)) fun e w' => e = .returned (.bool (PM.areRegs [a, b, c])) ∧ ((w.alloc (.cells #[.int .i64 6, .int .i64 a, .int .i64 b, .int .i64 c, .int .i64 m] 23)).alloc (.cells (ints [a, b, c]) 3)) = w') := fun V => areRegs_any [a, b, c] (w.heap.size + 1) _ (by simp) (by have e := B.new (w.alloc (.cells #[.int .i64 6, .int .i64 a, .int .i64 b, .int .i64 c, .int .i64 m] 23)) (ints [a, b, c]) 3; rw [World.size_alloc] at e; exact e)
  obtain ⟨R, hR⟩ : ∃ R, R = PM.areRegs [a, b, c] := ⟨_, rfl⟩
  rw [← hR] at HA
  rw [← hR]
  clear hR
  go_enter Tryd.func59, Tryd.ntmps59
  go_wp2_with fail
  refine (HA.out w).mono ?_
  rintro e w' ⟨rfl, rfl⟩
  go_wp2
  go_ret
  exact ⟨by simp, ((Below.refl _ _).alloc (Nat.le_refl _) _).alloc (by simp) _⟩
set_option maxHeartbeats 400000 in
theorem isBad7 (a b c m : Int) (w : World) : Calls Tryd.prog 59 #[.agg #[.int .i64 7, .int .i64 a, .int .i64 b, .int .i64 c, .int .i64 m]] w fun e w' => e = .returned (.bool (!PM.areRegs [a, b, c])) ∧ Below w.heap.size w w' := by
  have HA : Hid (∀ V : World, Calls Tryd.prog 67 #[.slice (some ⟨w.heap.size + 1, 0, none⟩) 3 3] ((w.alloc (.cells #[.int .i64 7, .int .i64 a, .int .i64 b, .int .i64 c, .int .i64 m] 23)).alloc (.cells (ints [a, b, c]) 3)) fun e w' => e = .returned (.bool (PM.areRegs [a, b, c])) ∧ ((w.alloc (.cells #[.int .i64 7, .int .i64 a, .int .i64 b, .int .i64 c, .int .i64 m] 23)).alloc (.cells (ints [a, b, c]) 3)) = w') := fun V => areRegs_any [a, b, c] (w.heap.size + 1) _ (by simp) (by have e := B.new (w.alloc (.cells #[.int .i64 7, .int .i64 a, .int .i64 b, .int .i64 c, .int .i64 m] 23)) (ints [a, b, c]) 3; rw [World.size_alloc] at e; exact e)
  obtain ⟨R, hR⟩ : ∃ R, R = PM.areRegs [a, b, c] := ⟨_, rfl⟩
  rw [← hR] at HA
  rw [← hR]
  clear hR
  go_enter Tryd.func59, Tryd.ntmps59
  go_wp2_with fail
  refine (HA.out w).mono ?_
  rintro e w' ⟨rfl, rfl⟩
  go_wp2
  go_ret
  exact ⟨by simp, ((Below.refl _ _).alloc (Nat.le_refl _) _).alloc (by simp) _⟩
set_option maxHeartbeats 400000 in
theorem isBad8 (a b c m : Int) (w : World) : Calls Tryd.prog 59 #[.agg #[.int .i64 8, .int .i64 a, .int .i64 b, .int .i64 c, .int .i64 m]] w fun e w' => e = .returned (.bool (!PM.areRegs [a, b])) ∧ Below w.heap.size w w' := by
  have HA : Hid (∀ V : World, Calls Tryd.prog 67 #[.slice (some ⟨w.heap.size + 1, 0, none⟩) 2 2] ((w.alloc (.cells #[.int .i64 8, .int .i64 a, .int .i64 b, .int .i64 c, .int .i64 m] 23)).alloc (.cells (ints [a, b]) 3)) fun e w' => e = .returned (.bool (PM.areRegs [a, b])) ∧ ((w.alloc (.cells #[.int .i64 8, .int .i64 a, .int .i64 b, .int .i64 c, .int .i64 m] 23)).alloc (.cells (ints [a, b]) 3)) = w') := fun V => areRegs_any [a, b] (w.heap.size + 1) _ (by simp) (by have e := B.new (w.alloc (.cells #[.int .i64 8, .int .i64 a, .int .i64 b, .int .i64 c, .int .i64 m] 23)) (ints [a, b]) 3; rw [World.size_alloc] at e; exact e)
  obtain ⟨R, hR⟩ : ∃ R, R = PM.areRegs [a, b] := ⟨_, rfl⟩
  rw [← hR] at HA
  rw [← hR]
  clear hR
  go_enter Tryd.func59, Tryd.ntmps59
  go_wp2_with fail
  refine (HA.out w).mono ?_
  rintro e w' ⟨rfl, rfl⟩
  go_wp2
  go_ret
  exact ⟨by simp, ((Below.refl _ _).alloc (Nat.le_refl _) _).alloc (by simp) _⟩
set_option maxHeartbeats 400000 in
theorem isBad11 (a b c m : Int) (w : World) : Calls Tryd.prog 59 #[.agg #[.int .i64 11, .int .i64 a, .int .i64 b, .int .i64 c, .int .i64 m]] w fun e w' => e = .returned (.bool (!PM.areRegs [a])) ∧ Below w.heap.size w w' := by
  have HA : Hid (∀ V : World, Calls Tryd.prog 67 #[.slice (some ⟨w.heap.size + 1, 0, none⟩) 1 1] ((w.alloc (.cells #[.int .i64 11, .int .i64 a, .int .i64 b, .int .i64 c, .int .i64 m] 23)).alloc (.cells (ints [a]) 3)) fun e w' => e = .returned (.bool (PM.areRegs [a])) ∧ ((w.alloc (.cells #[.int .i64 11, .int .i64 a, .int .i64 b, .int .i64 c, .int .i64 m] 23)).alloc (.cells (ints [a]) 3)) = w') := fun V => areRegs_any [a] (w.heap.size + 1) _ (by simp) (by have e := B.new (w.alloc (.cells #[.int .i64 11, .int .i64 a, .int .i64 b, .int .i64 c, .int .i64 m] 23)) (ints [a]) 3; rw [World.size_alloc] at e; exact e)
  obtain ⟨R, hR⟩ : ∃ R, R = PM.areRegs [a] := ⟨_, rfl⟩
  rw [← hR] at HA
  rw [← hR]
  clear hR
  go_enter Tryd.func59, Tryd.ntmps59
  go_wp2_with fail
  refine (HA.out w).mono ?_
  rintro e w' ⟨rfl, rfl⟩
  go_wp2
  go_ret
  exact ⟨by simp, ((Below.refl _ _).alloc (Nat.le_refl _) _).alloc (by simp) _⟩
set_option maxHeartbeats 400000 in
theorem isBad13 (a b c m : Int) (w : World) : Calls Tryd.prog 59 #[.agg #[.int .i64 13, .int .i64 a, .int .i64 b, .int .i64 c, .int .i64 m]] w fun e w' => e = .returned (.bool (!PM.areRegs [a, b])) ∧ Below w.heap.size w w' := by
  have HA : Hid (∀ V : World, Calls Tryd.prog 67 #[.slice (some ⟨w.heap.size + 1, 0, none⟩) 2 2] ((w.alloc (.cells #[.int .i64 13, .int .i64 a, .int .i64 b, .int .i64 c, .int .i64 m] 23)).alloc (.cells (ints [a, b]) 3)) fun e w' => e = .returned (.bool (PM.areRegs [a, b])) ∧ ((w.alloc (.cells #[.int .i64 13, .int .i64 a, .int .i64 b, .int .i64 c, .int .i64 m] 23)).alloc (.cells (ints [a, b]) 3)) = w') := fun V => areRegs_any [a, b] (w.heap.size + 1) _ (by simp) (by have e := B.new (w.alloc (.cells #[.int .i64 13, .int .i64 a, .int .i64 b, .int .i64 c, .int .i64 m] 23)) (ints [a, b]) 3; rw [World.size_alloc] at e; exact e)
  obtain ⟨R, hR⟩ : ∃ R, R = PM.areRegs [a, b] := ⟨_, rfl⟩
  rw [← hR] at HA
  rw [← hR]
  clear hR
  go_enter Tryd.func59, Tryd.ntmps59
  go_wp2_with fail
  refine (HA.out w).mono ?_
  rintro e w' ⟨rfl, rfl⟩
  go_wp2
  go_ret
  exact ⟨by simp, ((Below.refl _ _).alloc (Nat.le_refl _) _).alloc (by simp) _⟩
set_option maxHeartbeats 400000 in
theorem isBad14 (a b c m : Int) (w : World) : Calls Tryd.prog 59 #[.agg #[.int .i64 14, .int .i64 a, .int .i64 b, .int .i64 c, .int .i64 m]] w fun e w' => e = .returned (.bool (!PM.areRegs [a, b])) ∧ Below w.heap.size w w' := by
  have HA : Hid (∀ V : World, Calls Tryd.prog 67 #[.slice (some ⟨w.heap.size + 1, 0, none⟩) 2 2] ((w.alloc (.cells #[.int .i64 14, .int .i64 a, .int .i64 b, .int .i64 c, .int .i64 m] 23)).alloc (.cells (ints [a, b]) 3)) fun e w' => e = .returned (.bool (PM.areRegs [a, b])) ∧ ((w.alloc (.cells #[.int .i64 14, .int .i64 a, .int .i64 b, .int .i64 c, .int .i64 m] 23)).alloc (.cells (ints [a, b]) 3)) = w') := fun V => areRegs_any [a, b] (w.heap.size + 1) _ (by simp) (by have e := B.new (w.alloc (.cells #[.int .i64 14, .int .i64 a, .int .i64 b, .int .i64 c, .int .i64 m] 23)) (ints [a, b]) 3; rw [World.size_alloc] at e; exact e)
  obtain ⟨R, hR⟩ : ∃ R, R = PM.areRegs [a, b] := ⟨_, rfl⟩
  rw [← hR] at HA
  rw [← hR]
  clear hR
  go_enter Tryd.func59, Tryd.ntmps59
  go_wp2_with fail
  refine (HA.out w).mono ?_
  rintro e w' ⟨rfl, rfl⟩
  go_wp2
  go_ret
  exact ⟨by simp, ((Below.refl _ _).alloc (Nat.le_refl _) _).alloc (by simp) _⟩
set_option maxHeartbeats 400000 in
theorem isBad15 (a b c m : Int) (w : World) : Calls Tryd.prog 59 #[.agg #[.int .i64 15, .int .i64 a, .int .i64 b, .int .i64 c, .int .i64 m]] w fun e w' => e = .returned (.bool (!PM.areRegs [a])) ∧ Below w.heap.size w w' := by
  have HA : Hid (∀ V : World, Calls Tryd.prog 67 #[.slice (some ⟨w.heap.size + 1, 0, none⟩) 1 1] ((w.alloc (.cells #[.int .i64 15, .int .i64 a, .int .i64 b, .int .i64 c, .int .i64 m] 23)).alloc (.cells (ints [a]) 3)) fun e w' => e = .returned (.bool (PM.areRegs [a])) ∧ ((w.alloc (.cells #[.int .i64 15, .int .i64 a, .int .i64 b, .int .i64 c, .int .i64 m] 23)).alloc (.cells (ints [a]) 3)) = w') := fun V => areRegs_any [a] (w.heap.size + 1) _ (by simp) (by have e := B.new (w.alloc (.cells #[.int .i64 15, .int .i64 a, .int .i64 b, .int .i64 c, .int .i64 m] 23)) (ints [a]) 3; rw [World.size_alloc] at e; exact e)
  obtain ⟨R, hR⟩ : ∃ R, R = PM.areRegs [a] := ⟨_, rfl⟩
  rw [← hR] at HA
  rw [← hR]
  clear hR
  go_enter Tryd.func59, Tryd.ntmps59
  go_wp2_with fail
  refine (HA.out w).mono ?_
  rintro e w' ⟨rfl, rfl⟩
  go_wp2
  go_ret
  exact ⟨by simp, ((Below.refl _ _).alloc (Nat.le_refl _) _).alloc (by simp) _⟩
end Go.Proofs.YtklobjfhjlkgfaaDoor.PW
namespace Go.Proofs.YtklobjfhjlkgfaaDoor.PW
open Go.RowKit
set_option linter.unusedVariables false
set_option maxRecDepth 100000
set_option maxHeartbeats 400000 in
theorem isBad9 (a b c m : Int) (w : World) : Calls Tryd.prog 59 #[.agg #[.int .i64 9, .int .i64 a, .int .i64 b, .int .i64 c, .int .i64 m]] w fun e w' => e = .returned (.bool (!PM.areRegs [a, b] || !PM.isSize c)) ∧ Below w.heap.size w w' := by
  have HA : Hid (∀ V : World, Calls Tryd.prog 67 #[.slice (some ⟨w.heap.size + 1, 0, none⟩) 2 2] ((w.alloc (.cells #[.int .i64 9, .int .i64 a, .int .i64 b, .int .i64 c, .int .i64 m] 23)).alloc (.cells (ints [a, b]) 3)) fun e w' => e = .returned (.bool (PM.areRegs [a, b])) ∧ ((w.alloc (.cells #[.int .i64 9, .int .i64 a, .int .i64 b, .int .i64 c, .int .i64 m] 23)).alloc (.cells (ints [a, b]) 3)) = w') := fun V => areRegs_any [a, b] (w.heap.size + 1) _ (by simp) (by have e := B.new (w.alloc (.cells #[.int .i64 9, .int .i64 a, .int .i64 b, .int .i64 c, .int .i64 m] 23)) (ints [a, b]) 3; rw [World.size_alloc] at e; exact e)
  have HS := hideC (isSize_any c)
  obtain ⟨R, hR⟩ : ∃ R, R = PM.areRegs [a, b] := ⟨_, rfl⟩
  rw [← hR] at HA
  rw [← hR]
  obtain ⟨S, hS⟩ : ∃ S, S = PM.isSize c := ⟨_, rfl⟩
  rw [← hS] at HS
  rw [← hS]
  clear hR hS
  cases R
  · go_enter Tryd.func59, Tryd.ntmps59
    go_wp2_with fail
    refine (HA.out w).mono ?_
    rintro e w' ⟨rfl, rfl⟩
    go_wp2
    go_ret
    exact ⟨by simp, ((Below.refl _ _).alloc (Nat.le_refl _) _).alloc (by simp) _⟩
  · go_enter Tryd.func59, Tryd.ntmps59
    go_wp2_with fail
    refine (HA.out w).mono ?_
    rintro e w' ⟨rfl, rfl⟩
    go_wp2_with fail
    refine (HS.out _).mono ?_
    rintro e w' ⟨rfl, rfl⟩
    go_wp2
    go_ret
    exact ⟨by simp, ((Below.refl _ _).alloc (Nat.le_refl _) _).alloc (by simp) _⟩
set_option maxHeartbeats 400000 in
theorem isBad10 (a b c m : Int) (w : World) : Calls Tryd.prog 59 #[.agg #[.int .i64 10, .int .i64 a, .int .i64 b, .int .i64 c, .int .i64 m]] w fun e w' => e = .returned (.bool (!PM.areRegs [a, b] || !PM.isSize c)) ∧ Below w.heap.size w w' := by
  have HA : Hid (∀ V : World, Calls Tryd.prog 67 #[.slice (some ⟨w.heap.size + 1, 0, none⟩) 2 2] ((w.alloc (.cells #[.int .i64 10, .int .i64 a, .int .i64 b, .int .i64 c, .int .i64 m] 23)).alloc (.cells (ints [a, b]) 3)) fun e w' => e = .returned (.bool (PM.areRegs [a, b])) ∧ ((w.alloc (.cells #[.int .i64 10, .int .i64 a, .int .i64 b, .int .i64 c, .int .i64 m] 23)).alloc (.cells (ints [a, b]) 3)) = w') := fun V => areRegs_any [a, b] (w.heap.size + 1) _ (by simp) (by have e := B.new (w.alloc (.cells #[.int .i64 10, .int .i64 a, .int .i64 b, .int .i64 c, .int .i64 m] 23)) (ints [a, b]) 3; rw [World.size_alloc] at e; exact e)
  have HS := hideC (isSize_any c)
  obtain ⟨R, hR⟩ : ∃ R, R = PM.areRegs [a, b] := ⟨_, rfl⟩
  rw [← hR] at HA
  rw [← hR]
  obtain ⟨S, hS⟩ : ∃ S, S = PM.isSize c := ⟨_, rfl⟩
  rw [← hS] at HS
  rw [← hS]
  clear hR hS
  cases R
  · go_enter Tryd.func59, Tryd.ntmps59
    go_wp2_with fail
    refine (HA.out w).mono ?_
    rintro e w' ⟨rfl, rfl⟩
    go_wp2
    go_ret
    exact ⟨by simp, ((Below.refl _ _).alloc (Nat.le_refl _) _).alloc (by simp) _⟩
  · go_enter Tryd.func59, Tryd.ntmps59
    go_wp2_with fail
    refine (HA.out w).mono ?_
    rintro e w' ⟨rfl, rfl⟩
    go_wp2_with fail
    refine (HS.out _).mono ?_
    rintro e w' ⟨rfl, rfl⟩
    go_wp2
    go_ret
    exact ⟨by simp, ((Below.refl _ _).alloc (Nat.le_refl _) _).alloc (by simp) _⟩
set_option maxHeartbeats 400000 in
theorem isBad12 (a b c m : Int) (w : World) : Calls Tryd.prog 59 #[.agg #[.int .i64 12, .int .i64 a, .int .i64 b, .int .i64 c, .int .i64 m]] w fun e w' => e = .returned (.bool false) ∧ Below w.heap.size w w' := by
  go_enter Tryd.func59, Tryd.ntmps59
  go_wp2
  go_ret
  exact ⟨by simp, (Below.refl _ _).alloc (Nat.le_refl _) _⟩
set_option maxHeartbeats 400000 in
theorem isBad16 (a b c m : Int) (w : World) : Calls Tryd.prog 59 #[.agg #[.int .i64 16, .int .i64 a, .int .i64 b, .int .i64 c, .int .i64 m]] w fun e w' => e = .returned (.bool (!decide (1 ≤ m ∧ m ≤ 6))) ∧ Below w.heap.size w w' := by
  by_cases h1 : 1 ≤ m
  · by_cases h2 : m ≤ 6
    · have HR := hideC (show (!decide (1 ≤ m ∧ m ≤ 6)) = false from by simp [h1, h2])
      rw [HR.out]
      go_enter Tryd.func59, Tryd.ntmps59
      go_wp2
      go_ret
      exact ⟨by first | (simp; done) | (simp; omega), (Below.refl _ _).alloc (Nat.le_refl _) _⟩
    · have HR := hideC (show (!decide (1 ≤ m ∧ m ≤ 6)) = true from by simp [h1, h2])
      rw [HR.out]
      go_enter Tryd.func59, Tryd.ntmps59
      go_wp2
      go_ret
      exact ⟨by first | (simp; done) | (simp; omega), (Below.refl _ _).alloc (Nat.le_refl _) _⟩
  · have HR := hideC (show (!decide (1 ≤ m ∧ m ≤ 6)) = true from by simp [h1])
    rw [HR.out]
    go_enter Tryd.func59, Tryd.ntmps59
    go_wp2
    go_ret
    exact ⟨by simp, (Below.refl _ _).alloc (Nat.le_refl _) _⟩
set_option maxHeartbeats 1000000 in
theorem isBadX (op a b c m : Int) (w : World) (h : op < 1 ∨ 16 < op) : Calls Tryd.prog 59 #[.agg #[.int .i64 op, .int .i64 a, .int .i64 b, .int .i64 c, .int .i64 m]] w fun e w' => e = .returned (.bool true) ∧ Below w.heap.size w w' := by
  have n1 : ¬ op = 1 := by omega
  have n2 : ¬ op = 2 := by omega
  have n3 : ¬ op = 3 := by omega
  have n4 : ¬ op = 4 := by omega
  have n5 : ¬ op = 5 := by omega
  have n6 : ¬ op = 6 := by omega
  have n7 : ¬ op = 7 := by omega
  have n8 : ¬ op = 8 := by omega
  have n9 : ¬ op = 9 := by omega
  have n10 : ¬ op = 10 := by omega
  have n11 : ¬ op = 11 := by omega
  have n12 : ¬ op = 12 := by omega
  have n13 : ¬ op = 13 := by omega
  have n14 : ¬ op = 14 := by omega
  have n15 : ¬ op = 15 := by omega
  have n16 : ¬ op = 16 := by omega
  clear h
  go_enter Tryd.func59, Tryd.ntmps59
  go_wp2
  go_ret
  exact ⟨by simp [n12], (Below.refl _ _).alloc (Nat.le_refl _) _⟩

theorem op_cases (op : Int) : (op < 1 ∨ 16 < op) ∨ op = 1 ∨ op = 2 ∨ op = 3 ∨ op = 4 ∨ op = 5 ∨ op = 6 ∨ op = 7 ∨ op = 8 ∨ op = 9 ∨ op = 10 ∨ op = 11 ∨ op = 12 ∨ op = 13 ∨ op = 14 ∨ op = 15 ∨ op = 16 := by omega
theorem bad_else (i : PM.Ins) (h : i.op < 1 ∨ 16 < i.op) : i.bad = true := by
  unfold PM.Ins.bad
  rw [if_neg (by omega), if_neg (by omega), if_neg (by omega), if_neg (by omega), if_neg (by omega), if_neg (by omega)]
theorem isBad_any (i : PM.Ins) (w : World) (hi : i.fits) : Calls Tryd.prog 59 #[.agg i.cells] w fun e w' => e = .returned (.bool i.bad) ∧ Below w.heap.size w w' := by
  obtain ⟨op, a, b, c, m⟩ := i
  obtain ⟨-, ha, hb, hc, -⟩ := hi
  have e1 := PM.regs1 a ha
  have e2 := PM.regs2 a b ha hb
  have e3 := PM.regs3 a b c ha hb hc
  rcases op_cases op with h | h | h | h | h | h | h | h | h | h | h | h | h | h | h | h | h
  · rw [bad_else _ h]; exact isBadX op a b c m w h
  · subst h
    have g := isBad1 a b c m w
    rw [e1] at g
    exact g
  · subst h
    have g := isBad2 a b c m w
    rw [e3] at g
    exact g
  · subst h
    have g := isBad3 a b c m w
    rw [e3] at g
    exact g
  · subst h
    have g := isBad4 a b c m w
    rw [e3] at g
    exact g
  · subst h
    have g := isBad5 a b c m w
    rw [e3] at g
    exact g
  · subst h
    have g := isBad6 a b c m w
    rw [e3] at g
    exact g
  · subst h
    have g := isBad7 a b c m w
    rw [e3] at g
    exact g
  · subst h
    have g := isBad8 a b c m w
    rw [e2] at g
    exact g
  · subst h
    have g := isBad9 a b c m w
    rw [e2] at g
    exact g
  · subst h
    have g := isBad10 a b c m w
    rw [e2] at g
    exact g
  · subst h
    have g := isBad11 a b c m w
    rw [e1] at g
    exact g
  · subst h
    have g := isBad12 a b c m w
    exact g
  · subst h
    have g := isBad13 a b c m w
    rw [e2] at g
    exact g
  · subst h
    have g := isBad14 a b c m w
    rw [e2] at g
    exact g
  · subst h
    have g := isBad15 a b c m w
    rw [e1] at g
    exact g
  · subst h
    have g := isBad16 a b c m w
    exact g
end Go.Proofs.YtklobjfhjlkgfaaDoor.PW
