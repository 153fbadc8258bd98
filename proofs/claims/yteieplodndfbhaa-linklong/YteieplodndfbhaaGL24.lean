import Derived.Test.YteieplodndfbhaaGL23
import Derived.Test.YteieplodndfbhaaGL04
/- The reading of a list of images. -/
namespace Go.Proofs.Yteieplodndfbhaa.LW
open Go.RowKit Go.Deep
open Go.Proofs.Yteieplodndfbhaa.W (OkW okw_string okw_slice okw_agg slice_of cell_lt i64_of cells27 open_image)
set_option linter.unusedVariables false
set_option maxRecDepth 100000

section
variable {H : Type} {enc : TypeId × Value → H} {w : World} {base : Nat} {spare : Nat → Bool} {held : Bool}
instance : Inhabited LM.Li := ⟨LM.li0⟩
theorem bytesIm : Try.prog.bytesOf 27 = 120 := by kernel_rfl
theorem open_I {fuel : Nat} {a0 : Option Addr} {len cap : Nat} {x : DataW H × List MemPlace} (h : DataW.trod enc Try.prog w base spare held fuel 28 [.slice a0 len cap] = some x) (hw : OkW 28 x.1) :
    ∃ l : List LM.Li, l.length = len ∧ LM.HasI w a0 l ∧ LM.FitI l ∧ len ≤ cap := by
  rcases open_slice Try.underlying28 h with ⟨hcs, _⟩ | ⟨a, len', cap', m, n, D, Pl, hcs, hb, hl, hm, hmm, rfl, hx⟩
  · simp at hcs
    obtain ⟨rfl, rfl, rfl⟩ := hcs
    exact ⟨[], rfl, fun h => absurd h (by simp), ⟨by unfold M.Short; simp, fun k hk => absurd hk (by simp)⟩, Nat.le_refl _⟩
  · simp at hcs
    obtain ⟨rfl, rfl, rfl⟩ := hcs
    have hlm : len ≤ m := by rw [hmm]; split <;> omega
    obtain ⟨hb1, hb2⟩ := okw_slice Try.underlying28 hw
    rw [bytesIm] at hb1
    unfold reachBytes at hb1
    have hlen : len ≤ 140737488351232 := by simp at hb1; omega
    have each : ∀ i, i < len → ∃ y : LM.Li, w.cell? (a.add (i * 6 + 0)) = some (.string y.i.name) ∧ w.cell? (a.add (i * 6 + 1)) = some (.slice y.a.an y.i.needs.length y.a.cn) ∧ w.cell? (a.add (i * 6 + 2)) = some (.slice y.a.ag y.i.segs.length y.a.cg) ∧ w.cell? (a.add (i * 6 + 3)) = some (.slice y.a.ay y.i.syms.length y.a.cy) ∧ w.cell? (a.add (i * 6 + 4)) = some (.slice y.a.ar y.i.rels.length y.a.cr) ∧ w.cell? (a.add (i * 6 + 5)) = some (.int .i64 y.i.entry) ∧ M.HasIm w y.a y.i ∧ M.Fit y.i := by
      intro i hi
      obtain ⟨cs', h1, h2⟩ := hx i (by omega)
      have hd : D i ∈ (List.range len).map D := List.mem_map.2 ⟨i, List.mem_range.2 hi, rfl⟩
      rw [cells27] at h1
      obtain ⟨_, hcl, hcell⟩ := World.cells?_some h1
      obtain ⟨im, at', hcs', f1, f2⟩ := open_image h2 (hb2 _ hd)
      subst hcs'
      have q0 := hcell 0 (by omega)
      have q1 := hcell 1 (by omega)
      have q2 := hcell 2 (by omega)
      have q3 := hcell 3 (by omega)
      have q4 := hcell 4 (by omega)
      have q5 := hcell 5 (by omega)
      simp only [add_add] at q0 q1 q2 q3 q4 q5
      exact ⟨⟨im, at'⟩, q0, q1, q2, q3, q4, q5, f1, f2⟩
    obtain ⟨g, hg⟩ := choose_lt each
    have hat : ∀ i, i < len → LM.liAt ((List.range len).map g) i = g i := by
      intro i hi
      simp [LM.liAt, hi]
    refine ⟨(List.range len).map g, by simp, fun h0 => ?_, ⟨by unfold M.Short; simp; exact hlen, fun k hk => ?_⟩, hl⟩
    · have h0' : 0 < len := by simpa using h0
      obtain ⟨b, off, spot⟩ := a
      have hc := (hg 0 h0').1
      have hspot : spot = none := by simpa [Addr.add] using World.cell?_spot hc
      subst hspot
      rw [Addr.add_lit] at hc
      refine ⟨b, off, rfl, cell_lt hc, fun i hi => ?_⟩
      have hi' : i < len := by simpa using hi
      rw [hat i hi']
      obtain ⟨e0, e1, e2, e3, e4, e5, e6, _⟩ := hg i hi'
      simp only [Addr.add_lit] at e0 e1 e2 e3 e4 e5
      exact ⟨⟨e0, by rw [Nat.add_assoc]; exact e1, by rw [Nat.add_assoc]; exact e2, by rw [Nat.add_assoc]; exact e3, by rw [Nat.add_assoc]; exact e4, by rw [Nat.add_assoc]; exact e5⟩, e6⟩
    · have hi' : k < len := by simpa using hk
      rw [hat k hi']
      obtain ⟨_, _, _, _, _, _, _, f⟩ := hg k hi'
      exact f
end
end Go.Proofs.Yteieplodndfbhaa.LW
