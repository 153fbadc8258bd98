import Derived.Test.YtamocjifffbhpaaPW2
import Derived.Test.YtamocjifffbhpaaPM2
namespace Go.Proofs.Ytamocjifffbhpaa.PW
open Go.RowKit
set_option linter.unusedVariables false
set_option maxRecDepth 100000

def ints (l : List Int) : Array Value := (l.map fun x => Value.int .i64 x).toArray
theorem ints_get (l : List Int) (k : Nat) (h : k < l.length) : (ints l)[k]? = some (.int .i64 (l.getD k 0)) := by
  simp [ints, h]
set_option maxHeartbeats 400000 in
theorem areRegs_any (l : List Int) (b : Nat) (w : World) (hl : l.length ≤ 4) (hx : w.heap[b]? = some (.cells (ints l) 3 (0, 0))) :
    Calls Try.prog 28 #[.slice (some ⟨b, 0, none⟩) l.length l.length] w fun e w' => e = .returned (.bool (PM.areRegs l)) ∧ w = w' := by
  have HX := hideC hx
  have HN := hideC (PM.areRegs_no l)
  have HY := hideC (PM.areRegs_yes l)
  obtain ⟨R, hR⟩ : ∃ R, R = PM.areRegs l := ⟨_, rfl⟩
  rw [← hR] at HN HY
  rw [← hR]
  clear hR hx
  go_enter Try.func28, Try.ntmps28
  go_wp2
  go_loop [7] (fun i => ∃ k : Nat, k ≤ l.length ∧ i = .int .i64 k ∧ ∀ j, j < k → 0 ≤ l.getD j 0 ∧ l.getD j 0 < 8) (fun i => l.length - (intOf i).toNat)
  case atStart => exact ⟨0, by omega, rfl, fun j hj => absurd hj (by omega)⟩
  case round =>
    obtain ⟨k, hk, rfl, hj⟩ := hrel
    have HJ := hideC hj
    clear hj
    by_cases hlt : k < l.length
    · have hc := B.cell HX.out k (ints_get l k hlt)
      have HG := hideC (show l[k]? = some (l.getD k 0) from by simp [hlt])
      have HJ2 : Hid (0 ≤ l.getD k 0 ∧ l.getD k 0 < 8 → ∀ j, j < k + 1 → 0 ≤ l.getD j 0 ∧ l.getD j 0 < 8) := fun h j hjj => by
        rcases Nat.lt_or_ge j k with g | g
        · exact HJ.out j g
        · obtain rfl : j = k := by omega
          exact h
      obtain ⟨x, hx⟩ : ∃ x, x = l.getD k 0 := ⟨_, rfl⟩
      rw [← hx] at hc HG HJ2
      clear hx
      by_cases h0 : 0 ≤ x
      · by_cases h1 : x < 8
        · go_wp2
          go_round
          case rel => exact ⟨k + 1, by omega, by go_num, HJ2.out ⟨h0, h1⟩⟩
          case measure => simp [intOf]; omega
        · obtain rfl := HN.out k x HG.out (fun h => h1 h.2)
          go_wp2
          go_ret
          exact ⟨rfl, rfl⟩
      · obtain rfl := HN.out k x HG.out (fun h => h0 h.1)
        go_wp2
        go_ret
        exact ⟨rfl, rfl⟩
    · obtain rfl : k = l.length := by omega
      obtain rfl := HY.out (fun j x hx => by
        have hlt2 : j < l.length := (List.getElem?_eq_some_iff.1 hx).1
        have e : l.getD j 0 = x := by simp [hx]
        rw [← e]
        exact HJ.out j hlt2)
      go_wp2
      go_ret
      exact ⟨rfl, rfl⟩

theorem isSize_any (n : Int) (w : World) : Calls Try.prog 29 #[.int .i64 n] w fun e w' => e = .returned (.bool (PM.isSize n)) ∧ w = w' := by
  by_cases h1 : n = 1
  · subst h1
    go_enter Try.func29, Try.ntmps29
    go_wp2
    go_ret
    exact ⟨rfl, rfl⟩
  · by_cases h2 : n = 2
    · subst h2
      go_enter Try.func29, Try.ntmps29
      go_wp2
      go_ret
      exact ⟨rfl, rfl⟩
    · by_cases h3 : n = 4
      · subst h3
        go_enter Try.func29, Try.ntmps29
        go_wp2
        go_ret
        exact ⟨rfl, rfl⟩
      · rw [show PM.isSize n = decide (n = 8) from by unfold PM.isSize; simp [h1, h2, h3]]
        go_enter Try.func29, Try.ntmps29
        go_wp2
        go_ret
        have b1 : (n == 1) = false := by simpa using h1
        have b2 : (n == 2) = false := by simpa using h2
        have b3 : (n == 4) = false := by simpa using h3
        have b4 : (n == 8) = decide (n = 8) := by by_cases h : n = 8 <;> simp [h]
        exact ⟨by simp only [b1, b2, b3, b4, Bool.false_or]; rfl, rfl⟩
end Go.Proofs.Ytamocjifffbhpaa.PW
