import Derived.Test.YtamocjifffbhpaaCW2
import Derived.Laws.OwnMore
namespace Go.Proofs.Ytamocjifffbhpaa.CW
open Go.RowKit
set_option linter.unusedVariables false
set_option maxRecDepth 100000

theorem info5 : (Try.prog.info? 5).map (fun i => (i.zero, i.size, i.bytes)) = some (some (.int .u8 0), 1, 1) := by kernel_rfl

theorem put_no (n size : Int) (w : World) (h1 : size < 1 ∨ 8 < size) :
    Calls Try.prog 17 #[.int .i64 n, .int .i64 size] w fun e w' => e = .returned (.tuple #[.string ⟨#[]⟩, .int .i64 3]) ∧ w = w' := by
  go_enter Try.func17, Try.ntmps17
  go_wp2_with (go_at_call 27; refine (rightSize_no _ _ h1).mono ?_; rintro e w' ⟨rfl, rfl⟩)
  go_ret2
  exact ⟨rfl, rfl⟩

set_option maxHeartbeats 400000 in
theorem put_yes (n : Int) (size : Nat) (w : World) (h1 : 1 ≤ size) (h2 : size ≤ 8) :
    Calls Try.prog 17 #[.int .i64 n, .int .i64 size] w fun e w' => e = .returned (.tuple #[.string ⟨(Lib.leBytes size (CM.low n)).toArray⟩, .int .i64 0]) ∧ Below w.heap.size w w' := by
  obtain ⟨i0, hi, hz0, hz1, hz2⟩ := info_parts info5
  obtain ⟨w1, hmk, hown1, hgr1⟩ := run_make_full (P := Try.prog) w w.heap.size 50 5 i0 (.int .u8 0) 1 Try.underlying50 hi hz0 hz1 .i64 .i64 size (by rw [hz2]; omega) (by unfold maxLen; omega) (Nat.le_refl _)
  have hb1 : Below w.heap.size w w1 := (Below.refl _ _).grown hgr1 (Nat.le_refl _) (by intro k h; cases h)
  rw [Nat.mul_one, show (Value.int .u8 0).cells = #[Value.int .u8 0] from rfl, toList_madeCells_one, ← CM.row_zero size (CM.low n)] at hown1
  go_enter Try.func17, Try.ntmps17
  go_wp2_with (go_at_call 27; refine (rightSize_yes _ _ (by omega) (by omega)).mono ?_; rintro e w' ⟨rfl, rfl⟩)
  go_loopw [6, 18] (fun r i wr => ∃ k : Nat, k ≤ size ∧ i = .int .i64 k ∧ r = .int .u64 ((CM.low n / 256 ^ k : Nat) : Int) ∧ wr.ownsRow w.heap.size 5 1 (.slice (some ⟨w.heap.size, 0, none⟩) size size) size (CM.row size k (CM.low n)) ∧ Below w.heap.size w wr) (fun _ i _ => size - (intOf i).toNat)
  case atStart => exact ⟨0, by omega, rfl, by rw [CM.u64_low]; simp, hown1, hb1⟩
  case round =>
    obtain ⟨k, hk, rfl, rfl, hown, hb⟩ := hrel
    by_cases hlt : k < size
    · have hc : wr.cell? ⟨w.heap.size, k, none⟩ = some (.int .u8 0) := (hown.cellAt k (by omega)).trans (CM.row_get _ _ _ hlt)
      have hf : wr.frozen? ⟨w.heap.size, k, none⟩ = false := hown.frozenAt k
      have HS : Hid ((wr.setCell ⟨w.heap.size, k, none⟩ (.int .u8 (((CM.low n / 256 ^ k : Nat) : Int) % 256))).ownsRow w.heap.size 5 1 (.slice (some ⟨w.heap.size, 0, none⟩) size size) size (CM.row size (k + 1) (CM.low n)) ∧ Below w.heap.size w (wr.setCell ⟨w.heap.size, k, none⟩ (.int .u8 (((CM.low n / 256 ^ k : Nat) : Int) % 256)))) := by
        have h := hown.stored k (.int .u8 (((CM.low n / 256 ^ k : Nat) : Int) % 256))
        rw [CM.row_set _ _ _ hlt] at h
        exact ⟨h.1, hb.setCell (Nat.le_refl _) _⟩
      go_wp2
      go_roundw
      case rel => exact ⟨k + 1, by omega, by go_num, ret_int (CM.low_shr n k), HS.out.1, HS.out.2⟩
      case measure => simp [intOf]; omega
    · obtain rfl : k = size := by omega
      have hcv : (convert 50 9 (.slice (some ⟨w.heap.size, 0, none⟩) k k)).run Try.prog wr = .ok (.string ⟨(Lib.leBytes k (CM.low n)).toArray⟩) wr := by
        rw [← CM.strOfNums_bytes]
        refine run_convert_bytes_arg _ 50 5 Try.underlying50 Try.underlying5 _ 0 k k _ (by simp [Lib.leBytes_length]) ?_ 9 Try.underlying9
        intro i hi
        rw [Nat.zero_add, hown.cellAt i (by omega), CM.row_full]
        exact CM.byteCells_get _ i (by rw [Lib.leBytes_length]; exact hi)
      go_wp2
      go_ret2
      exact ⟨rfl, hb⟩
end Go.Proofs.Ytamocjifffbhpaa.CW
