import Derived.Test.YtamocjifffbhpaaPWB
namespace Go.Proofs.Ytamocjifffbhpaa.PW
open Go.RowKit
set_option linter.unusedVariables false
set_option maxRecDepth 100000
set_option maxHeartbeats 1000000 in
theorem doneR16_1 (p : PM.Pr) (a b c v : Int) (w : World) : Calls Try.prog 16 #[.agg p.row, .agg #[.int .i64 16, .int .i64 a, .int .i64 b, .int .i64 c, .int .i64 1], .int .i64 v] w fun e w' => e = .returned (.agg (PM.doneN p ⟨16, a, b, c, 1⟩ v).row) ∧ Below w.heap.size w w' := by
  have HR := hideC (show PM.doneN p ⟨16, a, b, c, 1⟩ v = ({ p with pc := wrap64 (p.pc + 8) } : PM.Pr) from rfl)
  rw [HR.out]
  clear HR
  have r0 : ∀ (q : PM.Pr) (h : 0 < q.row.size), q.row[0] = .int .i64 (q.r 0) := fun q h => rfl
  have r1 : ∀ (q : PM.Pr) (h : 1 < q.row.size), q.row[1] = .int .i64 (q.r 1) := fun q h => rfl
  have r2 : ∀ (q : PM.Pr) (h : 2 < q.row.size), q.row[2] = .int .i64 (q.r 2) := fun q h => rfl
  have r3 : ∀ (q : PM.Pr) (h : 3 < q.row.size), q.row[3] = .int .i64 (q.r 3) := fun q h => rfl
  have r4 : ∀ (q : PM.Pr) (h : 4 < q.row.size), q.row[4] = .int .i64 (q.r 4) := fun q h => rfl
  have r5 : ∀ (q : PM.Pr) (h : 5 < q.row.size), q.row[5] = .int .i64 (q.r 5) := fun q h => rfl
  have r6 : ∀ (q : PM.Pr) (h : 6 < q.row.size), q.row[6] = .int .i64 (q.r 6) := fun q h => rfl
  have r7 : ∀ (q : PM.Pr) (h : 7 < q.row.size), q.row[7] = .int .i64 (q.r 7) := fun q h => rfl
  have r8 : ∀ (q : PM.Pr) (h : 8 < q.row.size), q.row[8] = .int .i64 q.pc := fun q h => rfl
  have r9 : ∀ (q : PM.Pr) (h : 9 < q.row.size), q.row[9] = .int .i64 q.st := fun q h => rfl
  have r10 : ∀ (q : PM.Pr) (h : 10 < q.row.size), q.row[10] = .int .i64 q.cd := fun q h => rfl
  have r11 : ∀ (q : PM.Pr) (h : 11 < q.row.size), q.row[11] = .int .i64 q.fk := fun q h => rfl
  have r12 : ∀ (q : PM.Pr) (h : 12 < q.row.size), q.row[12] = .int .i64 q.fa := fun q h => rfl
  have rs := PM.row_size
  have e8 := PM.row_pc
  have e9 := PM.row_st
  have e10 := PM.row_cd
  have s0 : ∀ (q : PM.Pr) (v : Int), q.row.setIfInBounds 0 (.int .i64 v) = (q.set 0 v).row := fun q v => PM.row_set q 0 v (by omega)
  go_enter Try.func16, Try.ntmps16
  go_wp2
  refine bodyPost_ret (v := .agg (({ p with pc := wrap64 (p.pc + 8) } : PM.Pr)).row) (by simp [results, Try.results16, go_sem]; rfl) rfl ?_
  exact ⟨rfl, (by first | exact (((Below.refl _ _).alloc (Nat.le_refl _) _).alloc (by simp) _).alloc (by simp; omega) _ | exact ((((Below.refl _ _).alloc (Nat.le_refl _) _).alloc (by simp) _).alloc (by simp; omega) _).drew)⟩
set_option maxHeartbeats 1000000 in
theorem doneR16_2 (p : PM.Pr) (a b c v : Int) (w : World) : Calls Try.prog 16 #[.agg p.row, .agg #[.int .i64 16, .int .i64 a, .int .i64 b, .int .i64 c, .int .i64 2], .int .i64 v] w fun e w' => e = .returned (.agg (PM.doneN p ⟨16, a, b, c, 2⟩ v).row) ∧ Below w.heap.size w w' := by
  have HR := hideC (show PM.doneN p ⟨16, a, b, c, 2⟩ v = ({ p with pc := wrap64 (p.pc + 8) } : PM.Pr).set 0 v from rfl)
  rw [HR.out]
  clear HR
  have r0 : ∀ (q : PM.Pr) (h : 0 < q.row.size), q.row[0] = .int .i64 (q.r 0) := fun q h => rfl
  have r1 : ∀ (q : PM.Pr) (h : 1 < q.row.size), q.row[1] = .int .i64 (q.r 1) := fun q h => rfl
  have r2 : ∀ (q : PM.Pr) (h : 2 < q.row.size), q.row[2] = .int .i64 (q.r 2) := fun q h => rfl
  have r3 : ∀ (q : PM.Pr) (h : 3 < q.row.size), q.row[3] = .int .i64 (q.r 3) := fun q h => rfl
  have r4 : ∀ (q : PM.Pr) (h : 4 < q.row.size), q.row[4] = .int .i64 (q.r 4) := fun q h => rfl
  have r5 : ∀ (q : PM.Pr) (h : 5 < q.row.size), q.row[5] = .int .i64 (q.r 5) := fun q h => rfl
  have r6 : ∀ (q : PM.Pr) (h : 6 < q.row.size), q.row[6] = .int .i64 (q.r 6) := fun q h => rfl
  have r7 : ∀ (q : PM.Pr) (h : 7 < q.row.size), q.row[7] = .int .i64 (q.r 7) := fun q h => rfl
  have r8 : ∀ (q : PM.Pr) (h : 8 < q.row.size), q.row[8] = .int .i64 q.pc := fun q h => rfl
  have r9 : ∀ (q : PM.Pr) (h : 9 < q.row.size), q.row[9] = .int .i64 q.st := fun q h => rfl
  have r10 : ∀ (q : PM.Pr) (h : 10 < q.row.size), q.row[10] = .int .i64 q.cd := fun q h => rfl
  have r11 : ∀ (q : PM.Pr) (h : 11 < q.row.size), q.row[11] = .int .i64 q.fk := fun q h => rfl
  have r12 : ∀ (q : PM.Pr) (h : 12 < q.row.size), q.row[12] = .int .i64 q.fa := fun q h => rfl
  have rs := PM.row_size
  have e8 := PM.row_pc
  have e9 := PM.row_st
  have e10 := PM.row_cd
  have s0 : ∀ (q : PM.Pr) (v : Int), q.row.setIfInBounds 0 (.int .i64 v) = (q.set 0 v).row := fun q v => PM.row_set q 0 v (by omega)
  go_enter Try.func16, Try.ntmps16
  go_wp2
  refine bodyPost_ret (v := .agg (({ p with pc := wrap64 (p.pc + 8) } : PM.Pr).set 0 v).row) (by simp [results, Try.results16, go_sem]; rfl) rfl ?_
  exact ⟨rfl, (by first | exact (((Below.refl _ _).alloc (Nat.le_refl _) _).alloc (by simp) _).alloc (by simp; omega) _ | exact ((((Below.refl _ _).alloc (Nat.le_refl _) _).alloc (by simp) _).alloc (by simp; omega) _).drew)⟩
set_option maxHeartbeats 1000000 in
theorem doneR16_3 (p : PM.Pr) (a b c v : Int) (w : World) : Calls Try.prog 16 #[.agg p.row, .agg #[.int .i64 16, .int .i64 a, .int .i64 b, .int .i64 c, .int .i64 3], .int .i64 v] w fun e w' => e = .returned (.agg (PM.doneN p ⟨16, a, b, c, 3⟩ v).row) ∧ Below w.heap.size w w' := by
  have HR := hideC (show PM.doneN p ⟨16, a, b, c, 3⟩ v = ({ p with pc := wrap64 (p.pc + 8) } : PM.Pr).set 0 v from rfl)
  rw [HR.out]
  clear HR
  have r0 : ∀ (q : PM.Pr) (h : 0 < q.row.size), q.row[0] = .int .i64 (q.r 0) := fun q h => rfl
  have r1 : ∀ (q : PM.Pr) (h : 1 < q.row.size), q.row[1] = .int .i64 (q.r 1) := fun q h => rfl
  have r2 : ∀ (q : PM.Pr) (h : 2 < q.row.size), q.row[2] = .int .i64 (q.r 2) := fun q h => rfl
  have r3 : ∀ (q : PM.Pr) (h : 3 < q.row.size), q.row[3] = .int .i64 (q.r 3) := fun q h => rfl
  have r4 : ∀ (q : PM.Pr) (h : 4 < q.row.size), q.row[4] = .int .i64 (q.r 4) := fun q h => rfl
  have r5 : ∀ (q : PM.Pr) (h : 5 < q.row.size), q.row[5] = .int .i64 (q.r 5) := fun q h => rfl
  have r6 : ∀ (q : PM.Pr) (h : 6 < q.row.size), q.row[6] = .int .i64 (q.r 6) := fun q h => rfl
  have r7 : ∀ (q : PM.Pr) (h : 7 < q.row.size), q.row[7] = .int .i64 (q.r 7) := fun q h => rfl
  have r8 : ∀ (q : PM.Pr) (h : 8 < q.row.size), q.row[8] = .int .i64 q.pc := fun q h => rfl
  have r9 : ∀ (q : PM.Pr) (h : 9 < q.row.size), q.row[9] = .int .i64 q.st := fun q h => rfl
  have r10 : ∀ (q : PM.Pr) (h : 10 < q.row.size), q.row[10] = .int .i64 q.cd := fun q h => rfl
  have r11 : ∀ (q : PM.Pr) (h : 11 < q.row.size), q.row[11] = .int .i64 q.fk := fun q h => rfl
  have r12 : ∀ (q : PM.Pr) (h : 12 < q.row.size), q.row[12] = .int .i64 q.fa := fun q h => rfl
  have rs := PM.row_size
  have e8 := PM.row_pc
  have e9 := PM.row_st
  have e10 := PM.row_cd
  have s0 : ∀ (q : PM.Pr) (v : Int), q.row.setIfInBounds 0 (.int .i64 v) = (q.set 0 v).row := fun q v => PM.row_set q 0 v (by omega)
  go_enter Try.func16, Try.ntmps16
  go_wp2
  refine bodyPost_ret (v := .agg (({ p with pc := wrap64 (p.pc + 8) } : PM.Pr).set 0 v).row) (by simp [results, Try.results16, go_sem]; rfl) rfl ?_
  exact ⟨rfl, (by first | exact (((Below.refl _ _).alloc (Nat.le_refl _) _).alloc (by simp) _).alloc (by simp; omega) _ | exact ((((Below.refl _ _).alloc (Nat.le_refl _) _).alloc (by simp) _).alloc (by simp; omega) _).drew)⟩
set_option maxHeartbeats 1000000 in
theorem doneR16_4 (p : PM.Pr) (a b c v : Int) (w : World) : Calls Try.prog 16 #[.agg p.row, .agg #[.int .i64 16, .int .i64 a, .int .i64 b, .int .i64 c, .int .i64 4], .int .i64 v] w fun e w' => e = .returned (.agg (PM.doneN p ⟨16, a, b, c, 4⟩ v).row) ∧ Below w.heap.size w w' := by
  have HR := hideC (show PM.doneN p ⟨16, a, b, c, 4⟩ v = ({ p with pc := wrap64 (p.pc + 8) } : PM.Pr).set 0 v from rfl)
  rw [HR.out]
  clear HR
  have r0 : ∀ (q : PM.Pr) (h : 0 < q.row.size), q.row[0] = .int .i64 (q.r 0) := fun q h => rfl
  have r1 : ∀ (q : PM.Pr) (h : 1 < q.row.size), q.row[1] = .int .i64 (q.r 1) := fun q h => rfl
  have r2 : ∀ (q : PM.Pr) (h : 2 < q.row.size), q.row[2] = .int .i64 (q.r 2) := fun q h => rfl
  have r3 : ∀ (q : PM.Pr) (h : 3 < q.row.size), q.row[3] = .int .i64 (q.r 3) := fun q h => rfl
  have r4 : ∀ (q : PM.Pr) (h : 4 < q.row.size), q.row[4] = .int .i64 (q.r 4) := fun q h => rfl
  have r5 : ∀ (q : PM.Pr) (h : 5 < q.row.size), q.row[5] = .int .i64 (q.r 5) := fun q h => rfl
  have r6 : ∀ (q : PM.Pr) (h : 6 < q.row.size), q.row[6] = .int .i64 (q.r 6) := fun q h => rfl
  have r7 : ∀ (q : PM.Pr) (h : 7 < q.row.size), q.row[7] = .int .i64 (q.r 7) := fun q h => rfl
  have r8 : ∀ (q : PM.Pr) (h : 8 < q.row.size), q.row[8] = .int .i64 q.pc := fun q h => rfl
  have r9 : ∀ (q : PM.Pr) (h : 9 < q.row.size), q.row[9] = .int .i64 q.st := fun q h => rfl
  have r10 : ∀ (q : PM.Pr) (h : 10 < q.row.size), q.row[10] = .int .i64 q.cd := fun q h => rfl
  have r11 : ∀ (q : PM.Pr) (h : 11 < q.row.size), q.row[11] = .int .i64 q.fk := fun q h => rfl
  have r12 : ∀ (q : PM.Pr) (h : 12 < q.row.size), q.row[12] = .int .i64 q.fa := fun q h => rfl
  have rs := PM.row_size
  have e8 := PM.row_pc
  have e9 := PM.row_st
  have e10 := PM.row_cd
  have s0 : ∀ (q : PM.Pr) (v : Int), q.row.setIfInBounds 0 (.int .i64 v) = (q.set 0 v).row := fun q v => PM.row_set q 0 v (by omega)
  go_enter Try.func16, Try.ntmps16
  go_wp2
  refine bodyPost_ret (v := .agg (({ p with pc := wrap64 (p.pc + 8) } : PM.Pr).set 0 v).row) (by simp [results, Try.results16, go_sem]; rfl) rfl ?_
  exact ⟨rfl, (by first | exact (((Below.refl _ _).alloc (Nat.le_refl _) _).alloc (by simp) _).alloc (by simp; omega) _ | exact ((((Below.refl _ _).alloc (Nat.le_refl _) _).alloc (by simp) _).alloc (by simp; omega) _).drew)⟩
set_option maxHeartbeats 1000000 in
theorem doneR16_5 (p : PM.Pr) (a b c v : Int) (w : World) : Calls Try.prog 16 #[.agg p.row, .agg #[.int .i64 16, .int .i64 a, .int .i64 b, .int .i64 c, .int .i64 5], .int .i64 v] w fun e w' => e = .returned (.agg (PM.doneN p ⟨16, a, b, c, 5⟩ v).row) ∧ Below w.heap.size w w' := by
  have HR := hideC (show PM.doneN p ⟨16, a, b, c, 5⟩ v = ({ p with pc := wrap64 (p.pc + 8) } : PM.Pr).set 0 v from rfl)
  rw [HR.out]
  clear HR
  have r0 : ∀ (q : PM.Pr) (h : 0 < q.row.size), q.row[0] = .int .i64 (q.r 0) := fun q h => rfl
  have r1 : ∀ (q : PM.Pr) (h : 1 < q.row.size), q.row[1] = .int .i64 (q.r 1) := fun q h => rfl
  have r2 : ∀ (q : PM.Pr) (h : 2 < q.row.size), q.row[2] = .int .i64 (q.r 2) := fun q h => rfl
  have r3 : ∀ (q : PM.Pr) (h : 3 < q.row.size), q.row[3] = .int .i64 (q.r 3) := fun q h => rfl
  have r4 : ∀ (q : PM.Pr) (h : 4 < q.row.size), q.row[4] = .int .i64 (q.r 4) := fun q h => rfl
  have r5 : ∀ (q : PM.Pr) (h : 5 < q.row.size), q.row[5] = .int .i64 (q.r 5) := fun q h => rfl
  have r6 : ∀ (q : PM.Pr) (h : 6 < q.row.size), q.row[6] = .int .i64 (q.r 6) := fun q h => rfl
  have r7 : ∀ (q : PM.Pr) (h : 7 < q.row.size), q.row[7] = .int .i64 (q.r 7) := fun q h => rfl
  have r8 : ∀ (q : PM.Pr) (h : 8 < q.row.size), q.row[8] = .int .i64 q.pc := fun q h => rfl
  have r9 : ∀ (q : PM.Pr) (h : 9 < q.row.size), q.row[9] = .int .i64 q.st := fun q h => rfl
  have r10 : ∀ (q : PM.Pr) (h : 10 < q.row.size), q.row[10] = .int .i64 q.cd := fun q h => rfl
  have r11 : ∀ (q : PM.Pr) (h : 11 < q.row.size), q.row[11] = .int .i64 q.fk := fun q h => rfl
  have r12 : ∀ (q : PM.Pr) (h : 12 < q.row.size), q.row[12] = .int .i64 q.fa := fun q h => rfl
  have rs := PM.row_size
  have e8 := PM.row_pc
  have e9 := PM.row_st
  have e10 := PM.row_cd
  have s0 : ∀ (q : PM.Pr) (v : Int), q.row.setIfInBounds 0 (.int .i64 v) = (q.set 0 v).row := fun q v => PM.row_set q 0 v (by omega)
  go_enter Try.func16, Try.ntmps16
  go_wp2
  refine bodyPost_ret (v := .agg (({ p with pc := wrap64 (p.pc + 8) } : PM.Pr).set 0 v).row) (by simp [results, Try.results16, go_sem]; rfl) rfl ?_
  exact ⟨rfl, (by first | exact (((Below.refl _ _).alloc (Nat.le_refl _) _).alloc (by simp) _).alloc (by simp; omega) _ | exact ((((Below.refl _ _).alloc (Nat.le_refl _) _).alloc (by simp) _).alloc (by simp; omega) _).drew)⟩
set_option maxHeartbeats 1000000 in
theorem doneR16_6 (p : PM.Pr) (a b c v : Int) (w : World) : Calls Try.prog 16 #[.agg p.row, .agg #[.int .i64 16, .int .i64 a, .int .i64 b, .int .i64 c, .int .i64 6], .int .i64 v] w fun e w' => e = .returned (.agg (PM.doneN p ⟨16, a, b, c, 6⟩ v).row) ∧ Below w.heap.size w w' := by
  have HR := hideC (show PM.doneN p ⟨16, a, b, c, 6⟩ v = ({ p with pc := wrap64 (p.pc + 8), st := 2, cd := p.r 0 } : PM.Pr) from rfl)
  rw [HR.out]
  clear HR
  have r0 : ∀ (q : PM.Pr) (h : 0 < q.row.size), q.row[0] = .int .i64 (q.r 0) := fun q h => rfl
  have r1 : ∀ (q : PM.Pr) (h : 1 < q.row.size), q.row[1] = .int .i64 (q.r 1) := fun q h => rfl
  have r2 : ∀ (q : PM.Pr) (h : 2 < q.row.size), q.row[2] = .int .i64 (q.r 2) := fun q h => rfl
  have r3 : ∀ (q : PM.Pr) (h : 3 < q.row.size), q.row[3] = .int .i64 (q.r 3) := fun q h => rfl
  have r4 : ∀ (q : PM.Pr) (h : 4 < q.row.size), q.row[4] = .int .i64 (q.r 4) := fun q h => rfl
  have r5 : ∀ (q : PM.Pr) (h : 5 < q.row.size), q.row[5] = .int .i64 (q.r 5) := fun q h => rfl
  have r6 : ∀ (q : PM.Pr) (h : 6 < q.row.size), q.row[6] = .int .i64 (q.r 6) := fun q h => rfl
  have r7 : ∀ (q : PM.Pr) (h : 7 < q.row.size), q.row[7] = .int .i64 (q.r 7) := fun q h => rfl
  have r8 : ∀ (q : PM.Pr) (h : 8 < q.row.size), q.row[8] = .int .i64 q.pc := fun q h => rfl
  have r9 : ∀ (q : PM.Pr) (h : 9 < q.row.size), q.row[9] = .int .i64 q.st := fun q h => rfl
  have r10 : ∀ (q : PM.Pr) (h : 10 < q.row.size), q.row[10] = .int .i64 q.cd := fun q h => rfl
  have r11 : ∀ (q : PM.Pr) (h : 11 < q.row.size), q.row[11] = .int .i64 q.fk := fun q h => rfl
  have r12 : ∀ (q : PM.Pr) (h : 12 < q.row.size), q.row[12] = .int .i64 q.fa := fun q h => rfl
  have rs := PM.row_size
  have e8 := PM.row_pc
  have e9 := PM.row_st
  have e10 := PM.row_cd
  have s0 : ∀ (q : PM.Pr) (v : Int), q.row.setIfInBounds 0 (.int .i64 v) = (q.set 0 v).row := fun q v => PM.row_set q 0 v (by omega)
  go_enter Try.func16, Try.ntmps16
  go_wp2
  refine bodyPost_ret (v := .agg (({ p with pc := wrap64 (p.pc + 8), st := 2, cd := p.r 0 } : PM.Pr)).row) (by simp [results, Try.results16, go_sem]; rfl) rfl ?_
  exact ⟨rfl, (by first | exact (((Below.refl _ _).alloc (Nat.le_refl _) _).alloc (by simp) _).alloc (by simp; omega) _ | exact ((((Below.refl _ _).alloc (Nat.le_refl _) _).alloc (by simp) _).alloc (by simp; omega) _).drew)⟩
theorem doneR16 (p : PM.Pr) (a b c m v : Int) (w : World) (h : 1 ≤ m ∧ m ≤ 6) : Calls Try.prog 16 #[.agg p.row, .agg #[.int .i64 16, .int .i64 a, .int .i64 b, .int .i64 c, .int .i64 m], .int .i64 v] w fun e w' => e = .returned (.agg (PM.doneN p ⟨16, a, b, c, m⟩ v).row) ∧ Below w.heap.size w w' := by
  obtain h | h | h | h | h | h : m = 1 ∨ m = 2 ∨ m = 3 ∨ m = 4 ∨ m = 5 ∨ m = 6 := by omega
  · subst h; exact doneR16_1 p a b c v w
  · subst h; exact doneR16_2 p a b c v w
  · subst h; exact doneR16_3 p a b c v w
  · subst h; exact doneR16_4 p a b c v w
  · subst h; exact doneR16_5 p a b c v w
  · subst h; exact doneR16_6 p a b c v w
end Go.Proofs.Ytamocjifffbhpaa.PW
