import Derived.Test.YtamocjifffbhpaaPX0
import Derived.ChangeKeysEq
namespace Go.Proofs.Ytamocjifffbhpaa.PW
open Go.RowKit
set_option linter.unusedVariables false
set_option maxRecDepth 100000
theorem info3 : (Try.prog.info? 3).map (fun i => i.size) = some 1 := by kernel_rfl
theorem equal8 (a0 a1 a2 a3 a4 a5 a6 a7 : Int) (V : World) : (Op.equalIn 9999 34 (.agg #[.int .i64 a0, .int .i64 a1, .int .i64 a2, .int .i64 a3, .int .i64 a4, .int .i64 a5, .int .i64 a6, .int .i64 a7]) (.agg #[.int .i64 a0, .int .i64 a1, .int .i64 a2, .int .i64 a3, .int .i64 a4, .int .i64 a5, .int .i64 a6, .int .i64 a7])).run Try.prog V = .ok true V := by
  obtain ⟨i, hi, hs⟩ : ∃ i, Try.prog.info? 3 = some i ∧ i.size = 1 := by
    have h := info3
    cases hq : Try.prog.info? 3 with
    | none => rw [hq] at h; cases h
    | some i => rw [hq] at h; exact ⟨i, rfl, Option.some.inj h⟩
  rw [run_equalIn_array (w := V) 9998 _ _ Try.underlying34 hi]
  have hc : Try.prog.cellsOf 3 = 1 := by kernel_rfl
  have hpt : ∀ (xs : Array Value) (o : Nat) (v : Value) (U : World), xs[o]? = some v → (part 3 xs o).run Try.prog U = .ok v U := fun xs o v U h => by simp [part, go_sem, h]
  have hei : ∀ (x : Int) (U : World), (Op.equalIn 9998 3 (.int .i64 x) (.int .i64 x)).run Try.prog U = .ok true U := fun x U => by simpa using run_equalIn_int U 9997 3 .i64 .i64 x x Try.underlying3
  rw [hc]
  simp [Op.eqItems, hpt, hei, List.range_succ]
end Go.Proofs.Ytamocjifffbhpaa.PW
