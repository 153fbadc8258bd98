import Derived.Test.YtamocjifffbhpaaPM
import Derived.Test.YtamocjifffbhpaaCW3
import Derived.Test.YtamocjifffbhpaaB
import Derived.Test.YtamocjifffbhpaaQ
import Derived.Lib.Hide
import Derived.WalkSpells
import Derived.Deep.RegionHeld3
namespace Go.Proofs.Ytamocjifffbhpaa.PW
open Go.RowKit
set_option linter.unusedVariables false
set_option maxRecDepth 100000

theorem hideC {p : Prop} (h : p) : Hid p := h

set_option maxHeartbeats 400000 in
theorem decode_no (s : ByteArray) (w : World) (hs : s.size ≤ maxLen) (h : s.size ≠ 8) :
    Calls Try.prog 7 #[.string s] w fun e w' => e = .returned (.tuple #[.agg (PM.Ins.cells ⟨0, 0, 0, 0, 0⟩), .int .i64 3]) ∧ Below w.heap.size w w' := by
  unfold maxLen at hs
  have h' : decide ((s.size : Int) = 8) = false := by simp; omega
  go_enter Try.func7, Try.ntmps7
  go_wp2
  refine bodyPost_ret (v := .tuple #[.agg (PM.Ins.cells ⟨0, 0, 0, 0, 0⟩), .int .i64 3]) (by simp [results, Try.results7, go_sem, PM.Ins.cells]) rfl ?_
  exact ⟨rfl, (Below.refl _ _).alloc (Nat.le_refl _) _⟩

set_option maxHeartbeats 400000 in
theorem decode_yes (s : ByteArray) (w : World) (h : s.size = 8) :
    Calls Try.prog 7 #[.string s] w fun e w' => e = .returned (.tuple #[.agg (PM.Ins.cells (PM.ins s)), .int .i64 0]) ∧ Below w.heap.size w w' := by
  have hG : ∀ V, Calls Try.prog 18 #[.string (s.extract 4 8)] V fun e w' => e = .returned (.tuple #[.int .i64 (wrap64 (Lib.leNat (s.data.toList.drop 4))), .int .i64 0]) ∧ V = w' := fun V => by
    have h1 : (s.extract 4 8).size = 4 := by simp; omega
    have h2 := CW.get_yes (s.extract 4 8) V (by omega) (by omega)
    rw [PM.extract_data s h] at h2
    exact h2
  have h4 := PM.drop_lt s h
  have hv : PM.Ins.cells (PM.ins s) = #[.int .i64 (PM.at_ s 0), .int .i64 (PM.at_ s 1), .int .i64 (PM.at_ s 2), .int .i64 (PM.at_ s 3), .int .i64 (PM.sign32 ((Lib.leNat (s.data.toList.drop 4) : Nat) : Int))] := rfl
  have hw32 := PM.wrap32 ((Lib.leNat (s.data.toList.drop 4) : Nat) : Int) (by omega) (by omega)
  have hsr := PM.sign_range ((Lib.leNat (s.data.toList.drop 4) : Nat) : Int) (by omega) (by omega)
  rw [hv]
  have he : wrap64 ((Lib.leNat (s.data.toList.drop 4) : Nat) : Int) = ((Lib.leNat (s.data.toList.drop 4) : Nat) : Int) := by unfold wrap64; omega
  rw [he] at hG
  obtain ⟨L, hL⟩ : ∃ L : Int, L = ((Lib.leNat (s.data.toList.drop 4) : Nat) : Int) := ⟨_, rfl⟩
  rw [← hL] at hG hw32 hsr
  rw [← hL]
  obtain ⟨R, hR⟩ : ∃ R : Int, R = PM.sign32 L := ⟨_, rfl⟩
  rw [← hR] at hw32 hsr
  rw [← hR]
  have HG := hideC hG
  have g0 := PM.get_at s 0 (by omega)
  have g1 := PM.get_at s 1 (by omega)
  have g2 := PM.get_at s 2 (by omega)
  have g3 := PM.get_at s 3 (by omega)
  have hr : IntKind.i64.wrap R = R := IntWalk.i64_in _ (by omega)
  have u0 := PM.at_wrap s 0
  have u1 := PM.at_wrap s 1
  have u2 := PM.at_wrap s 2
  have u3 := PM.at_wrap s 3
  clear hG hL hR hv he h4
  go_enter Try.func7, Try.ntmps7
  go_wp2_with fail
  refine (HG.out _).mono ?_
  rintro e w1 ⟨rfl, rfl⟩
  go_wp2_with fail
  go_region
  go_wp2
  refine bodyPost_ret (v := .tuple #[.agg #[.int .i64 (PM.at_ s 0), .int .i64 (PM.at_ s 1), .int .i64 (PM.at_ s 2), .int .i64 (PM.at_ s 3), .int .i64 R], .int .i64 0]) (by simp [results, Try.results7, go_sem]) rfl ?_
  exact ⟨rfl, ((Below.refl _ _).alloc (Nat.le_refl _) _).drew⟩

set_option maxHeartbeats 400000 in
theorem from_any (s : ByteArray) (w : World) (h : s.size = 8) :
    Calls Try.prog 10 #[.string s] w fun e w' => e = .returned (.agg (PM.Ins.cells (PM.ins s))) ∧ Below w.heap.size w w' := by
  have hG : ∀ V, Calls Try.prog 21 #[.string (s.extract 4 8)] V fun e w' => e = .returned (.int .i64 (wrap64 (Lib.leNat (s.data.toList.drop 4)))) ∧ V = w' := fun V => by
    have h1 : (s.extract 4 8).size = 4 := by simp; omega
    have h2 := CW.number_any (s.extract 4 8) V (by omega) (by omega)
    rw [PM.extract_data s h] at h2
    exact h2
  have h4 := PM.drop_lt s h
  have hv : PM.Ins.cells (PM.ins s) = #[.int .i64 (PM.at_ s 0), .int .i64 (PM.at_ s 1), .int .i64 (PM.at_ s 2), .int .i64 (PM.at_ s 3), .int .i64 (PM.sign32 ((Lib.leNat (s.data.toList.drop 4) : Nat) : Int))] := rfl
  rw [hv]
  have he : wrap64 ((Lib.leNat (s.data.toList.drop 4) : Nat) : Int) = ((Lib.leNat (s.data.toList.drop 4) : Nat) : Int) := by unfold wrap64; omega
  rw [he] at hG
  have hl0 : (0 : Int) ≤ ((Lib.leNat (s.data.toList.drop 4) : Nat) : Int) := by omega
  have hl1 : ((Lib.leNat (s.data.toList.drop 4) : Nat) : Int) < 4294967296 := by omega
  obtain ⟨L, hL⟩ : ∃ L : Int, L = ((Lib.leNat (s.data.toList.drop 4) : Nat) : Int) := ⟨_, rfl⟩
  rw [← hL] at hG hl0 hl1
  rw [← hL]
  have HG := hideC hG
  have g0 := PM.get_at s 0 (by omega)
  have g1 := PM.get_at s 1 (by omega)
  have g2 := PM.get_at s 2 (by omega)
  have g3 := PM.get_at s 3 (by omega)
  have u0 := PM.at_wrap s 0
  have u1 := PM.at_wrap s 1
  have u2 := PM.at_wrap s 2
  have u3 := PM.at_wrap s 3
  clear hG hL hv he h4
  by_cases hc : 2147483648 ≤ L
  · have hsg : Hid (PM.sign32 L = L - 4294967296) := PM.sign_hi L hc
    rw [hsg.out]
    go_enter Try.func10, Try.ntmps10
    go_wp2_with fail
    refine (HG.out _).mono ?_
    rintro e w1 ⟨rfl, rfl⟩
    go_wp2_with fail
    go_region
    go_wp2
    refine bodyPost_ret (v := .agg #[.int .i64 (PM.at_ s 0), .int .i64 (PM.at_ s 1), .int .i64 (PM.at_ s 2), .int .i64 (PM.at_ s 3), .int .i64 (L - 4294967296)]) (by simp [results, Try.results10, go_sem]) rfl ?_
    exact ⟨rfl, ((Below.refl _ _).alloc (Nat.le_refl _) _).drew⟩
  · have hsg : Hid (PM.sign32 L = L) := PM.sign_lo L hc
    rw [hsg.out]
    go_enter Try.func10, Try.ntmps10
    go_wp2_with fail
    refine (HG.out _).mono ?_
    rintro e w1 ⟨rfl, rfl⟩
    go_wp2_with fail
    go_region
    go_wp2
    refine bodyPost_ret (v := .agg #[.int .i64 (PM.at_ s 0), .int .i64 (PM.at_ s 1), .int .i64 (PM.at_ s 2), .int .i64 (PM.at_ s 3), .int .i64 L]) (by simp [results, Try.results10, go_sem]) rfl ?_
    exact ⟨rfl, ((Below.refl _ _).alloc (Nat.le_refl _) _).drew⟩
end Go.Proofs.Ytamocjifffbhpaa.PW
