import Derived.Test.YtafdgjpmhofinaaT1
namespace Go.Proofs.Ytafdgjpmhofinaa.W
open Go.RowKit
set_option linter.unusedVariables false

def le (k : Nat) (n : Int) : ByteArray := ⟨(Lib.leBytes k (Z.low n)).toArray⟩
theorem le_size (k : Nat) (n : Int) : (le k n).size = k := by
  unfold le
  rw [Lib.size_eq]
  simp [Lib.leBytes_length]
def instrB (o m : Int) : ByteArray := (((le 1 o ++ le 1 0) ++ le 1 0) ++ le 1 0) ++ le 4 m

set_option maxRecDepth 100000 in
set_option maxHeartbeats 1500000 in
theorem instr_any (o m : Int) (w : World) : Calls Try.prog 46 #[.agg #[.int .i64 o, .int .i64 0, .int .i64 0, .int .i64 0, .int .i64 m]] w fun e w' => e = .returned (.string (instrB o m)) ∧ Below w.heap.size w w' := by
  have HB0 := hideC ((Below.refl w.heap.size w).alloc (Nat.le_refl _) (.cells #[.int .i64 o, .int .i64 0, .int .i64 0, .int .i64 0, .int .i64 m] 77))
  have BX := hideC (B.new w #[.int .i64 o, .int .i64 0, .int .i64 0, .int .i64 0, .int .i64 m] 77)
  obtain ⟨W, hW⟩ : ∃ W, W = w.alloc (.cells #[.int .i64 o, .int .i64 0, .int .i64 0, .int .i64 0, .int .i64 m] 77) := ⟨_, rfl⟩
  have HW := hideC hW
  rw [← hW] at HB0 BX
  have hkin := Q.kin_some W
  have hwl := B.isLt BX.out
  have k0 : ∀ x : Q.Kin W.heap.size W, x.world.cell? ⟨w.heap.size, 0, none⟩ = some (.int .i64 o) := fun x => by rw [Q.cell_kin x _ _ hwl]; exact B.cell BX.out 0 rfl
  have k1 : ∀ x : Q.Kin W.heap.size W, x.world.cell? ⟨w.heap.size, 1, none⟩ = some (.int .i64 0) := fun x => by rw [Q.cell_kin x _ _ hwl]; exact B.cell BX.out 1 rfl
  have k2 : ∀ x : Q.Kin W.heap.size W, x.world.cell? ⟨w.heap.size, 2, none⟩ = some (.int .i64 0) := fun x => by rw [Q.cell_kin x _ _ hwl]; exact B.cell BX.out 2 rfl
  have k3 : ∀ x : Q.Kin W.heap.size W, x.world.cell? ⟨w.heap.size, 3, none⟩ = some (.int .i64 0) := fun x => by rw [Q.cell_kin x _ _ hwl]; exact B.cell BX.out 3 rfl
  have k4 : ∀ x : Q.Kin W.heap.size W, x.world.cell? ⟨w.heap.size, 4, none⟩ = some (.int .i64 m) := fun x => by rw [Q.cell_kin x _ _ hwl]; exact B.cell BX.out 4 rfl
  have hA : ∀ V, Calls Try.prog 45 #[.int .i64 o, .int .i64 1] V fun e w' => e = .returned (.string (le 1 o)) ∧ Below V.heap.size V w' := fun U => V.bytes_any o 1 U (by omega)
  have hZ : ∀ V, Calls Try.prog 45 #[.int .i64 0, .int .i64 1] V fun e w' => e = .returned (.string (le 1 0)) ∧ Below V.heap.size V w' := fun U => V.bytes_any 0 1 U (by omega)
  have hM : ∀ V, Calls Try.prog 45 #[.int .i64 m, .int .i64 4] V fun e w' => e = .returned (.string (le 4 m)) ∧ Below V.heap.size V w' := fun U => V.bytes_any m 4 U (by omega)
  have s1 := le_size 1 o
  have s2 := le_size 1 0
  have s3 := le_size 4 m
  have HR : Hid (instrB o m = (((le 1 o ++ le 1 0) ++ le 1 0) ++ le 1 0) ++ le 4 m) := rfl
  rw [HR.out]
  obtain ⟨A1, h1⟩ : ∃ A, A = le 1 o := ⟨_, rfl⟩
  obtain ⟨A2, h2⟩ : ∃ A, A = le 1 0 := ⟨_, rfl⟩
  obtain ⟨A3, h3⟩ : ∃ A, A = le 4 m := ⟨_, rfl⟩
  rw [← h1] at hA s1
  rw [← h2] at hZ s2
  rw [← h3] at hM s3
  rw [← h1, ← h2, ← h3]
  have HA := hideC hA
  have HZ := hideC hZ
  have HM := hideC hM
  have t1 : (A1 ++ A2).size = 2 := by rw [ByteArray.size_append, s1, s2]
  have t2 : (A1 ++ A2 ++ A2).size = 3 := by rw [ByteArray.size_append, t1, s2]
  have t3 : (A1 ++ A2 ++ A2 ++ A2).size = 4 := by rw [ByteArray.size_append, t2, s2]
  clear h1 h2 h3 hA hZ hM hW
  go_enter Try.func46, Try.ntmps46
  go_wp2
  rw [← HW.out]
  refine Q.region_kin (by kernel_rfl) (by kernel_rfl) ?_
  repeat (first | go_big_quiet_step ((go_at_call 45; first | with_reducible exact Q.calls_kin HA.out _ | with_reducible exact Q.calls_kin HZ.out _ | with_reducible exact Q.calls_kin HM.out _)) | quiet_step ((go_at_call 45; first | with_reducible exact Q.calls_kin HA.out _ | with_reducible exact Q.calls_kin HZ.out _ | with_reducible exact Q.calls_kin HM.out _)))
  refine wpQuiet_nil ?_
  intro _ hw'
  obtain ⟨x, hw''⟩ := hw'
  subst hw''
  go_wp2
  go_ret
  exact ⟨rfl, HB0.out.trans (x.keeps.mono HB0.out.size)⟩
end Go.Proofs.Ytafdgjpmhofinaa.W
