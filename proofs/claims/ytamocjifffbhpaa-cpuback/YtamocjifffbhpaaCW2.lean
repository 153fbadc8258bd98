import Derived.Test.YtamocjifffbhpaaCW1
import Derived.Laws.BytesArg
namespace Go.Proofs.Ytamocjifffbhpaa.CW
open Go.RowKit
set_option linter.unusedVariables false
set_option maxRecDepth 100000

set_option maxHeartbeats 400000 in
theorem bytes_any (n : Int) (size : Nat) (w : World) (h2 : size ≤ 8) :
    Calls Try.prog 20 #[.int .i64 n, .int .i64 size] w fun e w' => e = .returned (.string ⟨(Lib.leBytes size (CM.low n)).toArray⟩) ∧ Below w.heap.size w w' := by
  go_enter Try.func20, Try.ntmps20
  go_wp2
  go_loopw [0, 5, 6] (fun t s i wr => ∃ k : Nat, k ≤ size ∧ i = .int .i64 k ∧ t = .int .i64 (CM.shr n k) ∧ s = .string ⟨(Lib.leBytes k (CM.low n)).toArray⟩ ∧ Below w.heap.size w wr) (fun _ _ i _ => size - (intOf i).toNat)
  case atStart => exact ⟨0, by omega, rfl, by rw [CM.shr_zero], rfl, Below.refl _ _⟩
  case round =>
    obtain ⟨k, hk, rfl, rfl, rfl, hb⟩ := hrel
    by_cases hlt : k < size
    · have hcv : (convert 50 9 (.slice (some ⟨wr.heap.size, 0, none⟩) 1 1)).run Try.prog (wr.alloc (.cells #[.int .u8 (CM.shr n k % 256)] 5)) = .ok (.string ⟨#[(CM.low n / 256 ^ k % 256).toUInt8]⟩) (wr.alloc (.cells #[.int .u8 (CM.shr n k % 256)] 5)) := by
        rw [← CM.strOfNums_byte n k (by omega)]
        refine run_convert_bytes_arg _ 50 5 Try.underlying50 Try.underlying5 _ 0 1 1 [CM.shr n k % 256] rfl ?_ 9 Try.underlying9
        intro i hi
        obtain rfl : i = 0 := by omega
        simp
      have hl : (Lib.leBytes k (CM.low n)).length = k := Lib.leBytes_length _ _
      have HN : Hid (Lib.leBytes (k + 1) (CM.low n) = Lib.leBytes k (CM.low n) ++ [(CM.low n / 256 ^ k % 256).toUInt8]) := CM.leBytes_snoc _ _
      go_wp2
      go_roundw
      case rel => exact ⟨k + 1, by omega, by go_num, by rw [← CM.shr_succ], by rw [HN.out]; exact congrArg Value.string (CM.mk_append _ [_]), hb.alloc (by have := hb.size; omega) _⟩
      case measure => simp [intOf]; omega
    · obtain rfl : k = size := by omega
      go_wp2
      go_ret
      exact ⟨rfl, hb⟩
end Go.Proofs.Ytamocjifffbhpaa.CW
