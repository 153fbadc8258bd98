/- The reading of instructions and processes that came in. -/
import Derived.Test.YtamocjifffbhpaaPM2
import Derived.Test.YtamocjifffbhpaaChecked
import Derived.Deep.Slices
import Derived.ProofKit
import Derived.OpenShut
import Derived.SizedLaws
namespace Go.Proofs.Ytamocjifffbhpaa.PW
open Go.RowKit Go.Deep
set_option linter.unusedVariables false
set_option maxRecDepth 100000

theorem cellsI5 : Try.prog.cellsOf 23 = 5 := by kernel_rfl
theorem cellsP13 : Try.prog.cellsOf 38 = 13 := by kernel_rfl
theorem cellsR8 : Try.prog.cellsOf 34 = 8 := by kernel_rfl
theorem cellsF2 : Try.prog.cellsOf 36 = 2 := by kernel_rfl
theorem cells3 : Try.prog.cellsOf 3 = 1 := by kernel_rfl
section
variable {H : Type} {enc : TypeId × Value → H} {w : World} {base : Nat} {spare : Nat → Bool} {held : Bool}
theorem one_int {fuel : Nat} {v : Value} {y : Option (DataW H × List MemPlace)} (h : DataW.trod enc Try.prog w base spare held fuel 3 [v] = y) (hy : y.isSome = true) : ∃ n : Int, v = .int .i64 n := by
  obtain ⟨y', rfl⟩ := Option.isSome_iff_exists.1 hy
  obtain ⟨n, c, _, _⟩ := DataW.trod_int Try.underlying3 h
  simp only [List.cons.injEq, and_true] at c
  exact ⟨n, c⟩
theorem open_instr {fuel : Nat} {cs : List Value} {x : DataW H × List MemPlace} (h : DataW.trod enc Try.prog w base spare held fuel 23 cs = some x) : ∃ i : PM.Ins, cs = i.cells.toList := by
  obtain ⟨xs, k, hk, hxy, hcl, hxl, hf⟩ := DataW.trod_struct Try.underlying23 h
  rw [cellsI5] at hcl
  match cs, hcl with
  | [v0, v1, v2, v3, v4], _ =>
    have g0 : DataW.trod enc Try.prog w base spare held k 3 (([v0, v1, v2, v3, v4].drop 0).take (Try.prog.cellsOf 3)) = xs[0]? := hf 0 _ rfl
    have g1 : DataW.trod enc Try.prog w base spare held k 3 (([v0, v1, v2, v3, v4].drop 1).take (Try.prog.cellsOf 3)) = xs[1]? := hf 1 _ rfl
    have g2 : DataW.trod enc Try.prog w base spare held k 3 (([v0, v1, v2, v3, v4].drop 2).take (Try.prog.cellsOf 3)) = xs[2]? := hf 2 _ rfl
    have g3 : DataW.trod enc Try.prog w base spare held k 3 (([v0, v1, v2, v3, v4].drop 3).take (Try.prog.cellsOf 3)) = xs[3]? := hf 3 _ rfl
    have g4 : DataW.trod enc Try.prog w base spare held k 3 (([v0, v1, v2, v3, v4].drop 4).take (Try.prog.cellsOf 3)) = xs[4]? := hf 4 _ rfl
    simp only [cells3] at g0 g1 g2 g3 g4
    match xs, hxl with
    | [y0, y1, y2, y3, y4], _ =>
      obtain ⟨n0, rfl⟩ := one_int (show DataW.trod enc Try.prog w base spare held k 3 [v0] = some y0 from g0) rfl
      obtain ⟨n1, rfl⟩ := one_int (show DataW.trod enc Try.prog w base spare held k 3 [v1] = some y1 from g1) rfl
      obtain ⟨n2, rfl⟩ := one_int (show DataW.trod enc Try.prog w base spare held k 3 [v2] = some y2 from g2) rfl
      obtain ⟨n3, rfl⟩ := one_int (show DataW.trod enc Try.prog w base spare held k 3 [v3] = some y3 from g3) rfl
      obtain ⟨n4, rfl⟩ := one_int (show DataW.trod enc Try.prog w base spare held k 3 [v4] = some y4 from g4) rfl
      exact ⟨⟨n0, n1, n2, n3, n4⟩, rfl⟩
theorem open_proc {fuel : Nat} {cs : List Value} {x : DataW H × List MemPlace} (h : DataW.trod enc Try.prog w base spare held fuel 38 cs = some x) : ∃ p : PM.Pr, cs = p.row.toList := by
  obtain ⟨xs, k, hk, hxy, hcl, hxl, hf⟩ := DataW.trod_struct Try.underlying38 h
  rw [cellsP13] at hcl
  match cs, hcl with
  | [v0, v1, v2, v3, v4, v5, v6, v7, v8, v9, v10, v11, v12], _ =>
    have g0 : DataW.trod enc Try.prog w base spare held k 34 (([v0, v1, v2, v3, v4, v5, v6, v7, v8, v9, v10, v11, v12].drop 0).take (Try.prog.cellsOf 34)) = xs[0]? := hf 0 _ rfl
    have g1 : DataW.trod enc Try.prog w base spare held k 3 (([v0, v1, v2, v3, v4, v5, v6, v7, v8, v9, v10, v11, v12].drop 8).take (Try.prog.cellsOf 3)) = xs[1]? := hf 1 _ rfl
    have g2 : DataW.trod enc Try.prog w base spare held k 3 (([v0, v1, v2, v3, v4, v5, v6, v7, v8, v9, v10, v11, v12].drop 9).take (Try.prog.cellsOf 3)) = xs[2]? := hf 2 _ rfl
    have g3 : DataW.trod enc Try.prog w base spare held k 3 (([v0, v1, v2, v3, v4, v5, v6, v7, v8, v9, v10, v11, v12].drop 10).take (Try.prog.cellsOf 3)) = xs[3]? := hf 3 _ rfl
    have g4 : DataW.trod enc Try.prog w base spare held k 36 (([v0, v1, v2, v3, v4, v5, v6, v7, v8, v9, v10, v11, v12].drop 11).take (Try.prog.cellsOf 36)) = xs[4]? := hf 4 _ rfl
    simp only [cells3, cellsR8, cellsF2] at g0 g1 g2 g3 g4
    match xs, hxl with
    | [y0, y1, y2, y3, y4], _ =>
      obtain ⟨n8, rfl⟩ := one_int (show DataW.trod enc Try.prog w base spare held k 3 [v8] = some y1 from g1) rfl
      obtain ⟨n9, rfl⟩ := one_int (show DataW.trod enc Try.prog w base spare held k 3 [v9] = some y2 from g2) rfl
      obtain ⟨n10, rfl⟩ := one_int (show DataW.trod enc Try.prog w base spare held k 3 [v10] = some y3 from g3) rfl
      have t0 : DataW.trod enc Try.prog w base spare held k 34 [v0, v1, v2, v3, v4, v5, v6, v7] = some y0 := g0
      have t4 : DataW.trod enc Try.prog w base spare held k 36 [v11, v12] = some y4 := g4
      obtain ⟨az, ka, _, _, _, hal, ha⟩ := DataW.trod_array Try.underlying34 t0
      obtain ⟨fs, kf, _, _, _, hfl, hff⟩ := DataW.trod_struct Try.underlying36 t4
      have f0 : DataW.trod enc Try.prog w base spare held kf 3 (([v11, v12].drop 0).take (Try.prog.cellsOf 3)) = fs[0]? := hff 0 _ rfl
      have f1 : DataW.trod enc Try.prog w base spare held kf 3 (([v11, v12].drop 1).take (Try.prog.cellsOf 3)) = fs[1]? := hff 1 _ rfl
      simp only [cells3] at f0 f1 ha
      match fs, hfl with
      | [q0, q1], _ =>
        obtain ⟨n11, rfl⟩ := one_int (show DataW.trod enc Try.prog w base spare held kf 3 [v11] = some q0 from f0) rfl
        obtain ⟨n12, rfl⟩ := one_int (show DataW.trod enc Try.prog w base spare held kf 3 [v12] = some q1 from f1) rfl
        match az, hal with
        | [a0, a1, a2, a3, a4, a5, a6, a7], _ =>
          obtain ⟨n0, rfl⟩ := one_int (show DataW.trod enc Try.prog w base spare held ka 3 [v0] = some a0 from ha 0 (by omega)) rfl
          obtain ⟨n1, rfl⟩ := one_int (show DataW.trod enc Try.prog w base spare held ka 3 [v1] = some a1 from ha 1 (by omega)) rfl
          obtain ⟨n2, rfl⟩ := one_int (show DataW.trod enc Try.prog w base spare held ka 3 [v2] = some a2 from ha 2 (by omega)) rfl
          obtain ⟨n3, rfl⟩ := one_int (show DataW.trod enc Try.prog w base spare held ka 3 [v3] = some a3 from ha 3 (by omega)) rfl
          obtain ⟨n4, rfl⟩ := one_int (show DataW.trod enc Try.prog w base spare held ka 3 [v4] = some a4 from ha 4 (by omega)) rfl
          obtain ⟨n5, rfl⟩ := one_int (show DataW.trod enc Try.prog w base spare held ka 3 [v5] = some a5 from ha 5 (by omega)) rfl
          obtain ⟨n6, rfl⟩ := one_int (show DataW.trod enc Try.prog w base spare held ka 3 [v6] = some a6 from ha 6 (by omega)) rfl
          obtain ⟨n7, rfl⟩ := one_int (show DataW.trod enc Try.prog w base spare held ka 3 [v7] = some a7 from ha 7 (by omega)) rfl
          exact ⟨⟨fun j => match j with | 0 => n0 | 1 => n1 | 2 => n2 | 3 => n3 | 4 => n4 | 5 => n5 | 6 => n6 | _ => n7, n8, n9, n10, n11, n12⟩, rfl⟩
end
end Go.Proofs.Ytamocjifffbhpaa.PW
