import Derived.Test.YtamocjifffbhpaaPWB
namespace Go.Proofs.Ytamocjifffbhpaa.PW
open Go.RowKit
set_option linter.unusedVariables false
set_option maxRecDepth 100000
/-- what a call does to the process -/
def calledN (p : PM.Pr) (m v : Int) : PM.Pr := if m = 6 then { p with st := 2, cd := p.r 0 } else if m = 1 then p else p.set 0 v
set_option maxHeartbeats 1000000 in
theorem called1 (p : PM.Pr) (v : Int) (w : World) : Calls Try.prog 32 #[.agg p.row, .int .i64 1, .int .i64 v] w fun e w' => e = .returned (.agg (calledN p 1 v).row) ∧ Below w.heap.size w w' := by
  have HR := hideC (show calledN p 1 v = p from rfl)
  rw [HR.out]
  clear HR
  have r0 : ∀ (q : PM.Pr) (h : 0 < q.row.size), q.row[0] = .int .i64 (q.r 0) := fun q h => rfl
  have r1 : ∀ (q : PM.Pr) (h : 1 < q.row.size), q.row[1] = .int .i64 (q.r 1) := fun q h => rfl
  have r2 : ∀ (q : PM.Pr) (h : 2 < q.row.size), q.row[2] = .int .i64 (q.r 2) := fun q h => rfl
  have r3 : ∀ (q : PM.Pr) (h : 3 < q.row.size), q.row[3] = .int .i64 (q.r 3) := fun q h => rfl
  have r4 : ∀ (q : PM.Pr) (h : 4 < q.row.size), q.row[4] = .int .i64 (q.r 4) := fun q h => rfl
  have r5 : ∀ (q : PM.Pr) (h : 5 < q.row.size), q.row[5] = .int .i64 (q.r 5) := fun q h => rfl
  have r6 : ∀ (q : PM.Pr) (h : 6 < q.row.size), q.row[6] = .int .i64 (q.r 6) := fun q h => rfl
  have r7 : ∀ (q : PM.Pr) (h : 7 < q.row.size), q.row[7] = .int .i64 (q.r 7) := fun q h => rfl
  have r8 : ∀ (q : PM.Pr) (h : 8 < q.row.size), q.row[8] = .int .i64 q.pc := fun q h => rfl
  have r9 : ∀ (q : PM.Pr) (h : 9 < q.row.size), q.row[9] = .int .i64 q.st := fun q h => rfl
  have r10 : ∀ (q : PM.Pr) (h : 10 < q.row.size), q.row[10] = .int .i64 q.cd := fun q h => rfl
  have r11 : ∀ (q : PM.Pr) (h : 11 < q.row.size), q.row[11] = .int .i64 q.fk := fun q h => rfl
  have r12 : ∀ (q : PM.Pr) (h : 12 < q.row.size), q.row[12] = .int .i64 q.fa := fun q h => rfl
  have rs := PM.row_size
  have e8 := PM.row_pc
  have e9 := PM.row_st
  have e10 := PM.row_cd
  have s0 : ∀ (q : PM.Pr) (v : Int), q.row.setIfInBounds 0 (.int .i64 v) = (q.set 0 v).row := fun q v => PM.row_set q 0 v (by omega)
  go_enter Try.func32, Try.ntmps32
  go_wp2
  refine bodyPost_ret (v := .agg (p).row) (by simp [results, Try.results32, go_sem]; rfl) rfl ?_
  exact ⟨rfl, ((Below.refl _ _).alloc (Nat.le_refl _) _).alloc (by simp) _⟩
set_option maxHeartbeats 1000000 in
theorem called2 (p : PM.Pr) (v : Int) (w : World) : Calls Try.prog 32 #[.agg p.row, .int .i64 2, .int .i64 v] w fun e w' => e = .returned (.agg (calledN p 2 v).row) ∧ Below w.heap.size w w' := by
  have HR := hideC (show calledN p 2 v = p.set 0 v from rfl)
  rw [HR.out]
  clear HR
  have r0 : ∀ (q : PM.Pr) (h : 0 < q.row.size), q.row[0] = .int .i64 (q.r 0) := fun q h => rfl
  have r1 : ∀ (q : PM.Pr) (h : 1 < q.row.size), q.row[1] = .int .i64 (q.r 1) := fun q h => rfl
  have r2 : ∀ (q : PM.Pr) (h : 2 < q.row.size), q.row[2] = .int .i64 (q.r 2) := fun q h => rfl
  have r3 : ∀ (q : PM.Pr) (h : 3 < q.row.size), q.row[3] = .int .i64 (q.r 3) := fun q h => rfl
  have r4 : ∀ (q : PM.Pr) (h : 4 < q.row.size), q.row[4] = .int .i64 (q.r 4) := fun q h => rfl
  have r5 : ∀ (q : PM.Pr) (h : 5 < q.row.size), q.row[5] = .int .i64 (q.r 5) := fun q h => rfl
  have r6 : ∀ (q : PM.Pr) (h : 6 < q.row.size), q.row[6] = .int .i64 (q.r 6) := fun q h => rfl
  have r7 : ∀ (q : PM.Pr) (h : 7 < q.row.size), q.row[7] = .int .i64 (q.r 7) := fun q h => rfl
  have r8 : ∀ (q : PM.Pr) (h : 8 < q.row.size), q.row[8] = .int .i64 q.pc := fun q h => rfl
  have r9 : ∀ (q : PM.Pr) (h : 9 < q.row.size), q.row[9] = .int .i64 q.st := fun q h => rfl
  have r10 : ∀ (q : PM.Pr) (h : 10 < q.row.size), q.row[10] = .int .i64 q.cd := fun q h => rfl
  have r11 : ∀ (q : PM.Pr) (h : 11 < q.row.size), q.row[11] = .int .i64 q.fk := fun q h => rfl
  have r12 : ∀ (q : PM.Pr) (h : 12 < q.row.size), q.row[12] = .int .i64 q.fa := fun q h => rfl
  have rs := PM.row_size
  have e8 := PM.row_pc
  have e9 := PM.row_st
  have e10 := PM.row_cd
  have s0 : ∀ (q : PM.Pr) (v : Int), q.row.setIfInBounds 0 (.int .i64 v) = (q.set 0 v).row := fun q v => PM.row_set q 0 v (by omega)
  go_enter Try.func32, Try.ntmps32
  go_wp2
  refine bodyPost_ret (v := .agg (p.set 0 v).row) (by simp [results, Try.results32, go_sem]; rfl) rfl ?_
  exact ⟨rfl, ((Below.refl _ _).alloc (Nat.le_refl _) _).alloc (by simp) _⟩
set_option maxHeartbeats 1000000 in
theorem called3 (p : PM.Pr) (v : Int) (w : World) : Calls Try.prog 32 #[.agg p.row, .int .i64 3, .int .i64 v] w fun e w' => e = .returned (.agg (calledN p 3 v).row) ∧ Below w.heap.size w w' := by
  have HR := hideC (show calledN p 3 v = p.set 0 v from rfl)
  rw [HR.out]
  clear HR
  have r0 : ∀ (q : PM.Pr) (h : 0 < q.row.size), q.row[0] = .int .i64 (q.r 0) := fun q h => rfl
  have r1 : ∀ (q : PM.Pr) (h : 1 < q.row.size), q.row[1] = .int .i64 (q.r 1) := fun q h => rfl
  have r2 : ∀ (q : PM.Pr) (h : 2 < q.row.size), q.row[2] = .int .i64 (q.r 2) := fun q h => rfl
  have r3 : ∀ (q : PM.Pr) (h : 3 < q.row.size), q.row[3] = .int .i64 (q.r 3) := fun q h => rfl
  have r4 : ∀ (q : PM.Pr) (h : 4 < q.row.size), q.row[4] = .int .i64 (q.r 4) := fun q h => rfl
  have r5 : ∀ (q : PM.Pr) (h : 5 < q.row.size), q.row[5] = .int .i64 (q.r 5) := fun q h => rfl
  have r6 : ∀ (q : PM.Pr) (h : 6 < q.row.size), q.row[6] = .int .i64 (q.r 6) := fun q h => rfl
  have r7 : ∀ (q : PM.Pr) (h : 7 < q.row.size), q.row[7] = .int .i64 (q.r 7) := fun q h => rfl
  have r8 : ∀ (q : PM.Pr) (h : 8 < q.row.size), q.row[8] = .int .i64 q.pc := fun q h => rfl
  have r9 : ∀ (q : PM.Pr) (h : 9 < q.row.size), q.row[9] = .int .i64 q.st := fun q h => rfl
  have r10 : ∀ (q : PM.Pr) (h : 10 < q.row.size), q.row[10] = .int .i64 q.cd := fun q h => rfl
  have r11 : ∀ (q : PM.Pr) (h : 11 < q.row.size), q.row[11] = .int .i64 q.fk := fun q h => rfl
  have r12 : ∀ (q : PM.Pr) (h : 12 < q.row.size), q.row[12] = .int .i64 q.fa := fun q h => rfl
  have rs := PM.row_size
  have e8 := PM.row_pc
  have e9 := PM.row_st
  have e10 := PM.row_cd
  have s0 : ∀ (q : PM.Pr) (v : Int), q.row.setIfInBounds 0 (.int .i64 v) = (q.set 0 v).row := fun q v => PM.row_set q 0 v (by omega)
  go_enter Try.func32, Try.ntmps32
  go_wp2
  refine bodyPost_ret (v := .agg (p.set 0 v).row) (by simp [results, Try.results32, go_sem]; rfl) rfl ?_
  exact ⟨rfl, ((Below.refl _ _).alloc (Nat.le_refl _) _).alloc (by simp) _⟩
set_option maxHeartbeats 1000000 in
theorem called4 (p : PM.Pr) (v : Int) (w : World) : Calls Try.prog 32 #[.agg p.row, .int .i64 4, .int .i64 v] w fun e w' => e = .returned (.agg (calledN p 4 v).row) ∧ Below w.heap.size w w' := by
  have HR := hideC (show calledN p 4 v = p.set 0 v from rfl)
  rw [HR.out]
  clear HR
  have r0 : ∀ (q : PM.Pr) (h : 0 < q.row.size), q.row[0] = .int .i64 (q.r 0) := fun q h => rfl
  have r1 : ∀ (q : PM.Pr) (h : 1 < q.row.size), q.row[1] = .int .i64 (q.r 1) := fun q h => rfl
  have r2 : ∀ (q : PM.Pr) (h : 2 < q.row.size), q.row[2] = .int .i64 (q.r 2) := fun q h => rfl
  have r3 : ∀ (q : PM.Pr) (h : 3 < q.row.size), q.row[3] = .int .i64 (q.r 3) := fun q h => rfl
  have r4 : ∀ (q : PM.Pr) (h : 4 < q.row.size), q.row[4] = .int .i64 (q.r 4) := fun q h => rfl
  have r5 : ∀ (q : PM.Pr) (h : 5 < q.row.size), q.row[5] = .int .i64 (q.r 5) := fun q h => rfl
  have r6 : ∀ (q : PM.Pr) (h : 6 < q.row.size), q.row[6] = .int .i64 (q.r 6) := fun q h => rfl
  have r7 : ∀ (q : PM.Pr) (h : 7 < q.row.size), q.row[7] = .int .i64 (q.r 7) := fun q h => rfl
  have r8 : ∀ (q : PM.Pr) (h : 8 < q.row.size), q.row[8] = .int .i64 q.pc := fun q h => rfl
  have r9 : ∀ (q : PM.Pr) (h : 9 < q.row.size), q.row[9] = .int .i64 q.st := fun q h => rfl
  have r10 : ∀ (q : PM.Pr) (h : 10 < q.row.size), q.row[10] = .int .i64 q.cd := fun q h => rfl
  have r11 : ∀ (q : PM.Pr) (h : 11 < q.row.size), q.row[11] = .int .i64 q.fk := fun q h => rfl
  have r12 : ∀ (q : PM.Pr) (h : 12 < q.row.size), q.row[12] = .int .i64 q.fa := fun q h => rfl
  have rs := PM.row_size
  have e8 := PM.row_pc
  have e9 := PM.row_st
  have e10 := PM.row_cd
  have s0 : ∀ (q : PM.Pr) (v : Int), q.row.setIfInBounds 0 (.int .i64 v) = (q.set 0 v).row := fun q v => PM.row_set q 0 v (by omega)
  go_enter Try.func32, Try.ntmps32
  go_wp2
  refine bodyPost_ret (v := .agg (p.set 0 v).row) (by simp [results, Try.results32, go_sem]; rfl) rfl ?_
  exact ⟨rfl, ((Below.refl _ _).alloc (Nat.le_refl _) _).alloc (by simp) _⟩
set_option maxHeartbeats 1000000 in
theorem called5 (p : PM.Pr) (v : Int) (w : World) : Calls Try.prog 32 #[.agg p.row, .int .i64 5, .int .i64 v] w fun e w' => e = .returned (.agg (calledN p 5 v).row) ∧ Below w.heap.size w w' := by
  have HR := hideC (show calledN p 5 v = p.set 0 v from rfl)
  rw [HR.out]
  clear HR
  have r0 : ∀ (q : PM.Pr) (h : 0 < q.row.size), q.row[0] = .int .i64 (q.r 0) := fun q h => rfl
  have r1 : ∀ (q : PM.Pr) (h : 1 < q.row.size), q.row[1] = .int .i64 (q.r 1) := fun q h => rfl
  have r2 : ∀ (q : PM.Pr) (h : 2 < q.row.size), q.row[2] = .int .i64 (q.r 2) := fun q h => rfl
  have r3 : ∀ (q : PM.Pr) (h : 3 < q.row.size), q.row[3] = .int .i64 (q.r 3) := fun q h => rfl
  have r4 : ∀ (q : PM.Pr) (h : 4 < q.row.size), q.row[4] = .int .i64 (q.r 4) := fun q h => rfl
  have r5 : ∀ (q : PM.Pr) (h : 5 < q.row.size), q.row[5] = .int .i64 (q.r 5) := fun q h => rfl
  have r6 : ∀ (q : PM.Pr) (h : 6 < q.row.size), q.row[6] = .int .i64 (q.r 6) := fun q h => rfl
  have r7 : ∀ (q : PM.Pr) (h : 7 < q.row.size), q.row[7] = .int .i64 (q.r 7) := fun q h => rfl
  have r8 : ∀ (q : PM.Pr) (h : 8 < q.row.size), q.row[8] = .int .i64 q.pc := fun q h => rfl
  have r9 : ∀ (q : PM.Pr) (h : 9 < q.row.size), q.row[9] = .int .i64 q.st := fun q h => rfl
  have r10 : ∀ (q : PM.Pr) (h : 10 < q.row.size), q.row[10] = .int .i64 q.cd := fun q h => rfl
  have r11 : ∀ (q : PM.Pr) (h : 11 < q.row.size), q.row[11] = .int .i64 q.fk := fun q h => rfl
  have r12 : ∀ (q : PM.Pr) (h : 12 < q.row.size), q.row[12] = .int .i64 q.fa := fun q h => rfl
  have rs := PM.row_size
  have e8 := PM.row_pc
  have e9 := PM.row_st
  have e10 := PM.row_cd
  have s0 : ∀ (q : PM.Pr) (v : Int), q.row.setIfInBounds 0 (.int .i64 v) = (q.set 0 v).row := fun q v => PM.row_set q 0 v (by omega)
  go_enter Try.func32, Try.ntmps32
  go_wp2
  refine bodyPost_ret (v := .agg (p.set 0 v).row) (by simp [results, Try.results32, go_sem]; rfl) rfl ?_
  exact ⟨rfl, ((Below.refl _ _).alloc (Nat.le_refl _) _).alloc (by simp) _⟩
set_option maxHeartbeats 1000000 in
theorem called6 (p : PM.Pr) (v : Int) (w : World) : Calls Try.prog 32 #[.agg p.row, .int .i64 6, .int .i64 v] w fun e w' => e = .returned (.agg (calledN p 6 v).row) ∧ Below w.heap.size w w' := by
  have HR := hideC (show calledN p 6 v = ({ p with st := 2, cd := p.r 0 } : PM.Pr) from rfl)
  rw [HR.out]
  clear HR
  have r0 : ∀ (q : PM.Pr) (h : 0 < q.row.size), q.row[0] = .int .i64 (q.r 0) := fun q h => rfl
  have r1 : ∀ (q : PM.Pr) (h : 1 < q.row.size), q.row[1] = .int .i64 (q.r 1) := fun q h => rfl
  have r2 : ∀ (q : PM.Pr) (h : 2 < q.row.size), q.row[2] = .int .i64 (q.r 2) := fun q h => rfl
  have r3 : ∀ (q : PM.Pr) (h : 3 < q.row.size), q.row[3] = .int .i64 (q.r 3) := fun q h => rfl
  have r4 : ∀ (q : PM.Pr) (h : 4 < q.row.size), q.row[4] = .int .i64 (q.r 4) := fun q h => rfl
  have r5 : ∀ (q : PM.Pr) (h : 5 < q.row.size), q.row[5] = .int .i64 (q.r 5) := fun q h => rfl
  have r6 : ∀ (q : PM.Pr) (h : 6 < q.row.size), q.row[6] = .int .i64 (q.r 6) := fun q h => rfl
  have r7 : ∀ (q : PM.Pr) (h : 7 < q.row.size), q.row[7] = .int .i64 (q.r 7) := fun q h => rfl
  have r8 : ∀ (q : PM.Pr) (h : 8 < q.row.size), q.row[8] = .int .i64 q.pc := fun q h => rfl
  have r9 : ∀ (q : PM.Pr) (h : 9 < q.row.size), q.row[9] = .int .i64 q.st := fun q h => rfl
  have r10 : ∀ (q : PM.Pr) (h : 10 < q.row.size), q.row[10] = .int .i64 q.cd := fun q h => rfl
  have r11 : ∀ (q : PM.Pr) (h : 11 < q.row.size), q.row[11] = .int .i64 q.fk := fun q h => rfl
  have r12 : ∀ (q : PM.Pr) (h : 12 < q.row.size), q.row[12] = .int .i64 q.fa := fun q h => rfl
  have rs := PM.row_size
  have e8 := PM.row_pc
  have e9 := PM.row_st
  have e10 := PM.row_cd
  have s0 : ∀ (q : PM.Pr) (v : Int), q.row.setIfInBounds 0 (.int .i64 v) = (q.set 0 v).row := fun q v => PM.row_set q 0 v (by omega)
  go_enter Try.func32, Try.ntmps32
  go_wp2
  refine bodyPost_ret (v := .agg (({ p with st := 2, cd := p.r 0 } : PM.Pr)).row) (by simp [results, Try.results32, go_sem]; rfl) rfl ?_
  exact ⟨rfl, ((Below.refl _ _).alloc (Nat.le_refl _) _).alloc (by simp) _⟩
theorem called_any (p : PM.Pr) (m v : Int) (w : World) (h : 1 ≤ m ∧ m ≤ 6) : Calls Try.prog 32 #[.agg p.row, .int .i64 m, .int .i64 v] w fun e w' => e = .returned (.agg (calledN p m v).row) ∧ Below w.heap.size w w' := by
  obtain h | h | h | h | h | h : m = 1 ∨ m = 2 ∨ m = 3 ∨ m = 4 ∨ m = 5 ∨ m = 6 := by omega
  · subst h; exact called1 p v w
  · subst h; exact called2 p v w
  · subst h; exact called3 p v w
  · subst h; exact called4 p v w
  · subst h; exact called5 p v w
  · subst h; exact called6 p v w
set_option maxHeartbeats 1000000 in
theorem behind16 (p : PM.Pr) (a b c m v : Int) (w : World) (h : 1 ≤ m ∧ m ≤ 6) : Calls Try.prog 24 #[.agg p.row, .agg #[.int .i64 16, .int .i64 a, .int .i64 b, .int .i64 c, .int .i64 m], .int .i64 v] w fun e w' => e = .returned (.agg (PM.doneN p ⟨16, a, b, c, m⟩ v).row) ∧ Below w.heap.size w w' := by
  have HR := hideC (show PM.doneN p ⟨16, a, b, c, m⟩ v = calledN ({ p with pc := wrap64 (p.pc + 8) } : PM.Pr) m v from rfl)
  rw [HR.out]
  have HC : Hid (∀ V, Calls Try.prog 32 #[.agg (({ p with pc := wrap64 (p.pc + 8) } : PM.Pr)).row, .int .i64 m, .int .i64 v] V fun e w' => e = .returned (.agg (calledN ({ p with pc := wrap64 (p.pc + 8) } : PM.Pr) m v).row) ∧ Below V.heap.size V w') := fun V => called_any ({ p with pc := wrap64 (p.pc + 8) } : PM.Pr) m v V h
  clear HR
  obtain ⟨R, hR⟩ : ∃ R, R = calledN ({ p with pc := wrap64 (p.pc + 8) } : PM.Pr) m v := ⟨_, rfl⟩
  rw [← hR] at HC ⊢
  clear hR h
  have r0 : ∀ (q : PM.Pr) (h : 0 < q.row.size), q.row[0] = .int .i64 (q.r 0) := fun q h => rfl
  have r1 : ∀ (q : PM.Pr) (h : 1 < q.row.size), q.row[1] = .int .i64 (q.r 1) := fun q h => rfl
  have r2 : ∀ (q : PM.Pr) (h : 2 < q.row.size), q.row[2] = .int .i64 (q.r 2) := fun q h => rfl
  have r3 : ∀ (q : PM.Pr) (h : 3 < q.row.size), q.row[3] = .int .i64 (q.r 3) := fun q h => rfl
  have r4 : ∀ (q : PM.Pr) (h : 4 < q.row.size), q.row[4] = .int .i64 (q.r 4) := fun q h => rfl
  have r5 : ∀ (q : PM.Pr) (h : 5 < q.row.size), q.row[5] = .int .i64 (q.r 5) := fun q h => rfl
  have r6 : ∀ (q : PM.Pr) (h : 6 < q.row.size), q.row[6] = .int .i64 (q.r 6) := fun q h => rfl
  have r7 : ∀ (q : PM.Pr) (h : 7 < q.row.size), q.row[7] = .int .i64 (q.r 7) := fun q h => rfl
  have r8 : ∀ (q : PM.Pr) (h : 8 < q.row.size), q.row[8] = .int .i64 q.pc := fun q h => rfl
  have r9 : ∀ (q : PM.Pr) (h : 9 < q.row.size), q.row[9] = .int .i64 q.st := fun q h => rfl
  have r10 : ∀ (q : PM.Pr) (h : 10 < q.row.size), q.row[10] = .int .i64 q.cd := fun q h => rfl
  have r11 : ∀ (q : PM.Pr) (h : 11 < q.row.size), q.row[11] = .int .i64 q.fk := fun q h => rfl
  have r12 : ∀ (q : PM.Pr) (h : 12 < q.row.size), q.row[12] = .int .i64 q.fa := fun q h => rfl
  have rs := PM.row_size
  have e8 := PM.row_pc
  have e9 := PM.row_st
  have e10 := PM.row_cd
  have HB0 := hideC ((((Below.refl w.heap.size w).alloc (Nat.le_refl _) (.cells (({ p with pc := wrap64 (p.pc + 8) } : PM.Pr)).row 38)).alloc (by simp) (.cells #[.int .i64 16, .int .i64 a, .int .i64 b, .int .i64 c, .int .i64 m] 23)).alloc (by simp; omega) (.cells #[.int .i64 0, .int .i64 0, .int .i64 0, .int .i64 0, .int .i64 0, .int .i64 0, .int .i64 0, .int .i64 0, .int .i64 0, .int .i64 0, .int .i64 0, .int .i64 0, .int .i64 0] 38))
  have BR := hideC (B.new ((w.alloc (.cells (({ p with pc := wrap64 (p.pc + 8) } : PM.Pr)).row 38)).alloc (.cells #[.int .i64 16, .int .i64 a, .int .i64 b, .int .i64 c, .int .i64 m] 23)) #[.int .i64 0, .int .i64 0, .int .i64 0, .int .i64 0, .int .i64 0, .int .i64 0, .int .i64 0, .int .i64 0, .int .i64 0, .int .i64 0, .int .i64 0, .int .i64 0, .int .i64 0] 38)
  rw [World.size_alloc, World.size_alloc] at BR
  go_enter Try.func24, Try.ntmps24
  go_wp2_with fail
  refine (HC.out _).mono ?_
  rintro e w1 ⟨rfl, hb1⟩
  have HB1 := hideC (HB0.out.trans (hb1.mono HB0.out.size))
  have BR1 := hideC (B.below BR.out hb1 (B.isLt BR.out))
  clear hb1 HB0 BR HC
  have u0 : ∀ j, w1.frozen? ⟨w.heap.size + 1 + 1, j, none⟩ = false := fun j => B.free BR1.out j
  have t0 : w1.cell? ⟨w.heap.size + 1 + 1, 0, none⟩ = some (.int .i64 0) := B.cell BR1.out 0 rfl
  have t1 : w1.cell? ⟨w.heap.size + 1 + 1, 1, none⟩ = some (.int .i64 0) := B.cell BR1.out 1 rfl
  have t2 : w1.cell? ⟨w.heap.size + 1 + 1, 2, none⟩ = some (.int .i64 0) := B.cell BR1.out 2 rfl
  have t3 : w1.cell? ⟨w.heap.size + 1 + 1, 3, none⟩ = some (.int .i64 0) := B.cell BR1.out 3 rfl
  have t4 : w1.cell? ⟨w.heap.size + 1 + 1, 4, none⟩ = some (.int .i64 0) := B.cell BR1.out 4 rfl
  have t5 : w1.cell? ⟨w.heap.size + 1 + 1, 5, none⟩ = some (.int .i64 0) := B.cell BR1.out 5 rfl
  have t6 : w1.cell? ⟨w.heap.size + 1 + 1, 6, none⟩ = some (.int .i64 0) := B.cell BR1.out 6 rfl
  have t7 : w1.cell? ⟨w.heap.size + 1 + 1, 7, none⟩ = some (.int .i64 0) := B.cell BR1.out 7 rfl
  have t8 : w1.cell? ⟨w.heap.size + 1 + 1, 8, none⟩ = some (.int .i64 0) := B.cell BR1.out 8 rfl
  have t9 : w1.cell? ⟨w.heap.size + 1 + 1, 9, none⟩ = some (.int .i64 0) := B.cell BR1.out 9 rfl
  have t10 : w1.cell? ⟨w.heap.size + 1 + 1, 10, none⟩ = some (.int .i64 0) := B.cell BR1.out 10 rfl
  have t11 : w1.cell? ⟨w.heap.size + 1 + 1, 11, none⟩ = some (.int .i64 0) := B.cell BR1.out 11 rfl
  have t12 : w1.cell? ⟨w.heap.size + 1 + 1, 12, none⟩ = some (.int .i64 0) := B.cell BR1.out 12 rfl
  unfold PM.Pr.row
  go_wp2
  refine bodyPost_ret (v := .agg (R).row) (by simp [results, Try.results24, go_sem, t0, t1, t2, t3, t4, t5, t6, t7, t8, t9, t10, t11, t12]; rfl) rfl ?_
  exact ⟨rfl, ((((((((((((HB1.out.setCell (by simp; omega) _).setCell (by simp; omega) _).setCell (by simp; omega) _).setCell (by simp; omega) _).setCell (by simp; omega) _).setCell (by simp; omega) _).setCell (by simp; omega) _).setCell (by simp; omega) _).setCell (by simp; omega) _).setCell (by simp; omega) _).setCell (by simp; omega) _).setCell (by simp; omega) _).setCell (by simp; omega) _⟩
end Go.Proofs.Ytamocjifffbhpaa.PW
