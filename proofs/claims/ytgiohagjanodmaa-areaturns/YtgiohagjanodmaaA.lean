/- The reading of a list of areas that came in. -/
import Derived.Test.YtgiohagjanodmaaWE
import Derived.Test.YtgiohagjanodmaaChecked
import Derived.Deep.Slices
import Derived.ProofKit
namespace Go.Proofs.Ytgiohagjanodmaa.W
open Go.RowKit Go.Deep
set_option linter.unusedVariables false

theorem cells24 : Try.prog.cellsOf 24 = 4 := by kernel_rfl
theorem cells3 : Try.prog.cellsOf 3 = 1 := by kernel_rfl
theorem cells4 : Try.prog.cellsOf 4 = 1 := by kernel_rfl

theorem i64_of (n : Int) (h : (Lit.int .i64 n).wf = true) : I64 n := by
  simp only [Lit.wf, IntKind.min, IntKind.max, IntKind.signed, IntKind.bits, Bool.and_eq_true, decide_eq_true_eq, if_true] at h
  unfold I64
  omega

section
variable {H : Type} {enc : TypeId × Value → H} {w : World} {base : Nat} {spare : Nat → Bool} {held : Bool}

theorem one_area {n : Nat} {a : Addr} {cs : List Value} {x : DataW H × List MemPlace} (hc : w.cells? base a 4 = some cs) (h : DataW.trod enc Try.prog w base spare held n 24 cs = some x) :
    ∃ q : Int × Int × Int × Bool, w.cell? (a.add 0) = some (.int .i64 q.1) ∧ w.cell? (a.add 1) = some (.int .i64 q.2.1) ∧ w.cell? (a.add 2) = some (.int .i64 q.2.2.1) ∧ w.cell? (a.add 3) = some (.bool q.2.2.2) ∧ I64 q.1 ∧ I64 q.2.1 ∧ I64 q.2.2.1 := by
  obtain ⟨_, hlen, hcell⟩ := World.cells?_some hc
  obtain ⟨xs, k, hk, hxy, _, hxl, hf⟩ := DataW.trod_struct Try.underlying24 h
  match cs, hlen with
  | [v0, v1, v2, v3], _ =>
    have g0 : DataW.trod enc Try.prog w base spare held k 3 (([v0, v1, v2, v3].drop 0).take (Try.prog.cellsOf 3)) = xs[0]? := hf 0 _ rfl
    have g1 : DataW.trod enc Try.prog w base spare held k 3 (([v0, v1, v2, v3].drop 1).take (Try.prog.cellsOf 3)) = xs[1]? := hf 1 _ rfl
    have g2 : DataW.trod enc Try.prog w base spare held k 3 (([v0, v1, v2, v3].drop 2).take (Try.prog.cellsOf 3)) = xs[2]? := hf 2 _ rfl
    have g3 : DataW.trod enc Try.prog w base spare held k 4 (([v0, v1, v2, v3].drop 3).take (Try.prog.cellsOf 4)) = xs[3]? := hf 3 _ rfl
    simp only [cells3, cells4] at g0 g1 g2 g3
    have e0 := hcell 0 (by omega)
    have e1 := hcell 1 (by omega)
    have e2 := hcell 2 (by omega)
    have e3 := hcell 3 (by omega)
    match xs, hxl with
    | [y0, y1, y2, y3], _ =>
      obtain ⟨m0, c0, _, w0⟩ := DataW.trod_int Try.underlying3 (show DataW.trod enc Try.prog w base spare held k 3 [v0] = some y0 from g0)
      obtain ⟨m1, c1, _, w1⟩ := DataW.trod_int Try.underlying3 (show DataW.trod enc Try.prog w base spare held k 3 [v1] = some y1 from g1)
      obtain ⟨m2, c2, _, w2⟩ := DataW.trod_int Try.underlying3 (show DataW.trod enc Try.prog w base spare held k 3 [v2] = some y2 from g2)
      obtain ⟨b3, c3, _⟩ := DataW.trod_bool Try.underlying4 (show DataW.trod enc Try.prog w base spare held k 4 [v3] = some y3 from g3)
      simp only [List.cons.injEq, and_true] at c0 c1 c2 c3
      subst c0; subst c1; subst c2; subst c3
      exact ⟨(m0, m1, m2, b3), e0, e1, e2, e3, i64_of _ w0, i64_of _ w1, i64_of _ w2⟩

theorem open_areas {fuel : Nat} {a0 : Option Addr} {len cap : Nat} {x : DataW H × List MemPlace} (h : DataW.trod enc Try.prog w base spare held fuel 22 [.slice a0 len cap] = some x) :
    ∃ l : List M.Ar, l.length = len ∧ Has w (.slice a0 len cap) l ∧ (∀ i, i < l.length → M.Fits (M.at_ l i)) ∧ (len = 0 ∨ ∃ el sp, x.1 = .slice el sp ∧ el.length = len) := by
  rcases open_slice Try.underlying22 h with ⟨hcs, _⟩ | ⟨a, len', cap', m, n, D, Pl, hcs, hb, hl, hm, hmm, rfl, hx⟩
  · simp at hcs
    obtain ⟨rfl, rfl, rfl⟩ := hcs
    exact ⟨[], rfl, ⟨none, 0, rfl, .inl rfl⟩, fun i hi => by simp at hi, .inl rfl⟩
  · simp at hcs
    obtain ⟨rfl, rfl, rfl⟩ := hcs
    have hlm : len ≤ m := by rw [hmm]; split <;> omega
    have each : ∀ i, i < len → ∃ q : Int × Int × Int × Bool, w.cell? (a.add (i * 4)) = some (.int .i64 q.1) ∧ w.cell? (a.add (i * 4 + 1)) = some (.int .i64 q.2.1) ∧ w.cell? (a.add (i * 4 + 2)) = some (.int .i64 q.2.2.1) ∧ w.cell? (a.add (i * 4 + 3)) = some (.bool q.2.2.2) ∧ I64 q.1 ∧ I64 q.2.1 ∧ I64 q.2.2.1 := by
      intro i hi
      obtain ⟨cs', h1, h2⟩ := hx i (by omega)
      rw [cells24] at h1
      obtain ⟨q, e0, e1, e2, e3, f⟩ := one_area h1 h2
      rw [add_add] at e0 e1 e2 e3
      exact ⟨q, e0, e1, e2, e3, f⟩
    obtain ⟨g, hg⟩ := choose_lt each
    have hat : ∀ i, i < len → M.at_ ((List.range len).map fun i => (⟨(g i).1, (g i).2.1, (g i).2.2.1, (g i).2.2.2⟩ : M.Ar)) i = ⟨(g i).1, (g i).2.1, (g i).2.2.1, (g i).2.2.2⟩ := by
      intro i hi
      simp [M.at_, hi]
    refine ⟨(List.range len).map fun i => ⟨(g i).1, (g i).2.1, (g i).2.2.1, (g i).2.2.2⟩, by simp, ?_, fun i hi => ?_, .inr ⟨_, _, rfl, by simp⟩⟩
    · by_cases h0 : len = 0
      · subst h0
        exact ⟨some a, cap, by simp, .inl (by simp)⟩
      · obtain ⟨b, off, spot⟩ := a
        have hc := (hg 0 (by omega)).1
        have hspot : spot = none := by simpa [Addr.add] using World.cell?_spot hc
        subst hspot
        refine ⟨some ⟨b, off, none⟩, cap, by simp, .inr ⟨b, off, rfl, fun i hi => ?_⟩⟩
        have hi' : i < len := by simpa using hi
        rw [hat i hi']
        obtain ⟨e0, e1, e2, e3, _⟩ := hg i hi'
        rw [Addr.add_lit] at e0 e1 e2 e3
        exact ⟨e0, by rw [Nat.add_assoc]; exact e1, by rw [Nat.add_assoc]; exact e2, by rw [Nat.add_assoc]; exact e3⟩
    · have hi' : i < len := by simpa using hi
      rw [hat i hi']
      obtain ⟨_, _, _, _, f1, f2, f3⟩ := hg i hi'
      exact ⟨f1, f2, f3⟩
end
end Go.Proofs.Ytgiohagjanodmaa.W
