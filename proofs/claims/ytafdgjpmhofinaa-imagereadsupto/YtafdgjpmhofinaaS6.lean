import Derived.Test.YtafdgjpmhofinaaS5
namespace Go.Proofs.Ytafdgjpmhofinaa.W
open Go.RowKit
set_option linter.unusedVariables false

/-- the results of a reading that finds no image -/
def noImage (w : World) (a b : Nat) : World :=
  ((((((w.setCell ⟨a, 0, none⟩ (.string ⟨#[]⟩)).setCell ⟨a, 1, none⟩ (.slice none 0 0)).setCell ⟨a, 2, none⟩ (.slice none 0 0)).setCell ⟨a, 3, none⟩ (.slice none 0 0)).setCell ⟨a, 4, none⟩ (.slice none 0 0)).setCell ⟨a, 5, none⟩ (.int .i64 0)).setCell ⟨b, 0, none⟩ (.int .i64 1)

set_option maxRecDepth 100000 in
theorem catch_panicking (a b : Nat) (v0 v1 v2 v3 v4 v5 z : Value) (u : TypeId) (pv : Value) (older : List PanicEntry) (w : World) (ha : w.heap[a]? = some (.cells #[v0, v1, v2, v3, v4, v5] 27 (0, 0))) (hb : w.heap[b]? = some (.cells #[z] 28 (0, 0))) (hab : a ≠ b) :
    CallsD Try.prog 32 #[.pointer (some ⟨a, 0, none⟩), .pointer (some ⟨b, 0, none⟩)] (.panicking ({ v := .iface u pv, recovered := false } :: older)) w fun e u' w' =>
      e = .returned (.tuple #[]) ∧ u' = .panicking ({ v := .iface u pv, recovered := true } :: older) ∧ w' = noImage w a b := by
  have a0 := B.cell ha 0 rfl
  have a1 := B.cell ha 1 rfl
  have a2 := B.cell ha 2 rfl
  have a3 := B.cell ha 3 rfl
  have a4 := B.cell ha 4 rfl
  have a5 := B.cell ha 5 rfl
  have af := B.free ha
  have b0 := B.cell hb 0 rfl
  have bf := B.free hb
  have hba : b ≠ a := fun e => hab e.symm
  clear ha hb
  refine callsD_of_wpS Try.func32 rfl fun c₀ cs hu => ?_
  apply wpS_seq
  apply wpS_region
  simp [wpOpsS, go_sem, recoverD, hu, Try.ntmps32, Exit.thenS]
  refine wpS_cond (t := true) (by simp [Act.eval, Array.replicate]) ?_
  simp only [if_true]
  apply wpS_region
  simp [wpOpsS, go_sem, a0, a1, a2, a3, a4, a5, af, b0, bf, bodyPostS, results, Try.results32, noImage]

theorem catch_idle (a b : Addr) (w : World) :
    CallsD Try.prog 32 #[.pointer (some a), .pointer (some b)] .returning w fun e u' w' => e = .returned (.tuple #[]) ∧ u' = .returning ∧ w' = w := by
  refine callsD_of_wpS Try.func32 rfl fun c₀ cs hu => ?_
  apply wpS_seq
  apply wpS_region
  simp [wpOpsS, go_sem, recoverD, hu, Try.ntmps32, Exit.thenS]
  refine wpS_cond (t := false) (by simp [Act.eval, Array.replicate]) ?_
  simp only [Bool.false_eq_true, if_false]
  refine wpS_of_wp (wp_skip ?_)
  cases c₀
  simp_all [bodyPostS, results, Try.results32]

/-! what is read is of a size -/
theorem numP_fit {l l' : List UInt8} {n : Int} (h : numP l = some (n, l')) : M.I64 n ∧ l'.length ≤ l.length := by
  obtain ⟨_, h2, h3, h4⟩ := numP_some h
  subst h3
  subst h4
  exact ⟨wrap_i64 _, by simp⟩
theorem takeP_fit {l l' : List UInt8} {n : Int} {x : ByteArray} (h : takeP n l = some (x, l')) : x.size ≤ l.length ∧ l'.length ≤ l.length := by
  unfold takeP at h
  by_cases c : 0 ≤ n ∧ n ≤ (l.length : Int)
  · rw [if_pos c] at h
    injection h with h
    injection h with h1 h2
    subst h1
    subst h2
    refine ⟨?_, by simp⟩
    rw [Lib.size_eq]
    simp
    omega
  · rw [if_neg c] at h; cases h
theorem textP_fit {l l' : List UInt8} {x : ByteArray} (h : textP l = some (x, l')) : x.size ≤ l.length ∧ l'.length ≤ l.length := by
  unfold textP at h
  cases e : numP l with
  | none => rw [e] at h; cases h
  | some r =>
    obtain ⟨n, l1⟩ := r
    rw [e] at h
    simp only at h
    have a := takeP_fit h
    have b := numP_fit e
    omega
theorem flagP_fit {l l' : List UInt8} {x : Bool} (h : flagP l = some (x, l')) : l'.length ≤ l.length := by
  unfold flagP at h
  cases e : numP l with
  | none => rw [e] at h; cases h
  | some r =>
    obtain ⟨n, l1⟩ := r
    rw [e] at h
    simp only at h
    split at h
    · injection h with h
      injection h with h1 h2
      subst h2
      exact (numP_fit e).2
    · cases h
end Go.Proofs.Ytafdgjpmhofinaa.W
