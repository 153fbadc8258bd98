import Derived.Test.YtbgnagognnklbaaG43
import Derived.Test.YtbgnagognnklbaaG24
import Derived.Test.YtbgnagognnklbaaG06
/- The reading of a sheet, and of a linked program, that came in. -/
namespace Go.Proofs.Ytbgnagognnklbaa.LW
open Go.RowKit Go.Deep
open Go.Proofs.Ytbgnagognnklbaa.W (OkW okw_string okw_slice okw_agg slice_of cell_lt i64_of cells9 cells3)
set_option linter.unusedVariables false
set_option maxRecDepth 100000

theorem cellsFx : Try.prog.cellsOf 89 = 2 := by kernel_rfl
theorem cellsSh : Try.prog.cellsOf 43 = 3 := by kernel_rfl
theorem cellsLk : Try.prog.cellsOf 32 = 3 := by kernel_rfl
theorem cellsFxs : Try.prog.cellsOf 41 = 1 := by kernel_rfl
theorem cellsShs : Try.prog.cellsOf 30 = 1 := by kernel_rfl
theorem cellsArs : Try.prog.cellsOf 29 = 1 := by kernel_rfl
theorem bytesFx : Try.prog.bytesOf 89 = 24 := by kernel_rfl
theorem bytesSh : Try.prog.bytesOf 43 = 48 := by kernel_rfl
theorem bytesAr : Try.prog.bytesOf 99 = 32 := by kernel_rfl
instance : Inhabited LM.Fx := ⟨LM.fx0⟩
instance : Inhabited LM.Sh := ⟨LM.sh0⟩

section
variable {H : Type} {enc : TypeId × Value → H} {w : World} {base : Nat} {spare : Nat → Bool} {held : Bool}
theorem one_fix {n : Nat} {a : Addr} {cs : List Value} {x : DataW H × List MemPlace} (hc : w.cells? base a 2 = some cs) (h : DataW.trod enc Try.prog w base spare held n 89 cs = some x) (hw : OkW 89 x.1) :
    ∃ (x0 : Int) (x1 : ByteArray), (w.cell? (a.add 0) = some (.int .i64 x0) ∧ M.I64 x0) ∧ (w.cell? (a.add 1) = some (.string x1) ∧ M.Short x1.size) := by
  obtain ⟨_, hlen, hcell⟩ := World.cells?_some hc
  obtain ⟨xs, k, hk, hxy, _, hxl, hf⟩ := DataW.trod_struct Try.underlying89 h
  rw [hxy] at hw
  match cs, hlen with
  | [v0, v1], _ =>
    have g0 : DataW.trod enc Try.prog w base spare held k 3 (([v0, v1].drop 0).take (Try.prog.cellsOf 3)) = xs[0]? := hf 0 _ rfl
    have g1 : DataW.trod enc Try.prog w base spare held k 9 (([v0, v1].drop 1).take (Try.prog.cellsOf 9)) = xs[1]? := hf 1 _ rfl
    simp only [cells3, cells9] at g0 g1
    have e0 := hcell 0 (by omega)
    have e1 := hcell 1 (by omega)
    match xs, hxl with
    | [y0, y1], _ =>
      obtain ⟨m0, c0, _, w0⟩ := DataW.trod_int Try.underlying3 (show DataW.trod enc Try.prog w base spare held k 3 [v0] = some y0 from g0)
      obtain ⟨m1, c1, hx1, _⟩ := DataW.trod_string Try.underlying9 (show DataW.trod enc Try.prog w base spare held k 9 [v1] = some y1 from g1)
      have u1 := okw_agg Try.underlying89 hw (j := 1) (u := 9) (d := y1.1) rfl rfl
      rw [hx1] at u1
      have w1 : M.Short m1.size := by have := okw_string u1; unfold M.Short; unfold reachBytes at this; rw [Lib.size_eq]; exact this
      simp only [List.cons.injEq, and_true] at c0 c1
      subst c0; subst c1
      exact ⟨m0, m1, ⟨e0, i64_of _ w0⟩, ⟨e1, w1⟩⟩
theorem open_F {fuel : Nat} {a0 : Option Addr} {len cap : Nat} {x : DataW H × List MemPlace} (h : DataW.trod enc Try.prog w base spare held fuel 41 [.slice a0 len cap] = some x) (hw : OkW 41 x.1) :
    ∃ l : List LM.Fx, l.length = len ∧ LM.HasF w a0 l ∧ M.Short l.length ∧ ∀ k, k < l.length → LM.FitF (LM.fxAt l k) := by
  rcases open_slice Try.underlying41 h with ⟨hcs, _⟩ | ⟨a, len', cap', m, n, D, Pl, hcs, hb, hl, hm, hmm, rfl, hx⟩
  · simp at hcs
    obtain ⟨rfl, rfl, rfl⟩ := hcs
    exact ⟨[], rfl, fun h => absurd h (by simp), by unfold M.Short; simp, fun k hk => absurd hk (by simp)⟩
  · simp at hcs
    obtain ⟨rfl, rfl, rfl⟩ := hcs
    have hlm : len ≤ m := by rw [hmm]; split <;> omega
    obtain ⟨hb1, hb2⟩ := okw_slice Try.underlying41 hw
    rw [bytesFx] at hb1
    unfold reachBytes at hb1
    have hlen : len ≤ 140737488351232 := by simp at hb1; omega
    have each : ∀ i, i < len → ∃ y : LM.Fx, w.cell? (a.add (i * 2 + 0)) = some (.int .i64 y.off) ∧ w.cell? (a.add (i * 2 + 1)) = some (.string y.bytes) ∧ LM.FitF y := by
      intro i hi
      obtain ⟨cs', h1, h2⟩ := hx i (by omega)
      have hd : D i ∈ (List.range len).map D := List.mem_map.2 ⟨i, List.mem_range.2 hi, rfl⟩
      rw [cellsFx] at h1
      obtain ⟨x0, x1, ⟨e0, z0⟩, ⟨e1, z1⟩⟩ := one_fix h1 h2 (hb2 _ hd)
      simp only [add_add] at e0 e1
      exact ⟨⟨x0, x1⟩, e0, e1, ⟨z0, z1⟩⟩
    obtain ⟨g, hg⟩ := choose_lt each
    have hat : ∀ i, i < len → LM.fxAt ((List.range len).map g) i = g i := by
      intro i hi
      simp [LM.fxAt, hi]
    refine ⟨(List.range len).map g, by simp, fun h0 => ?_, by unfold M.Short; simp; exact hlen, fun k hk => ?_⟩
    · have h0' : 0 < len := by simpa using h0
      obtain ⟨b, off, spot⟩ := a
      have hc := (hg 0 h0').1
      have hspot : spot = none := by simpa [Addr.add] using World.cell?_spot hc
      subst hspot
      rw [Addr.add_lit] at hc
      refine ⟨b, off, rfl, cell_lt hc, fun i hi => ?_⟩
      have hi' : i < len := by simpa using hi
      rw [hat i hi']
      obtain ⟨e0, e1, _⟩ := hg i hi'
      simp only [Addr.add_lit] at e0 e1
      exact ⟨e0, by rw [Nat.add_assoc]; exact e1⟩
    · have hi' : k < len := by simpa using hk
      rw [hat k hi']
      obtain ⟨_, _, f⟩ := hg k hi'
      exact f
/-- a sheet's three values, read -/
theorem vals_sheet {n : Nat} {v0 v1 v2 : Value} {x : DataW H × List MemPlace} (h : DataW.trod enc Try.prog w base spare held n 43 [v0, v1, v2] = some x) (hw : OkW 43 x.1) :
    ∃ s : LM.Sh, v0 = .int .i64 s.page ∧ v1 = .string s.data ∧ v2 = .slice s.ao s.fixes.length s.cap ∧ LM.HasF w s.ao s.fixes ∧ LM.FitH s := by
  obtain ⟨xs, k, hk, hxy, _, hxl, hf⟩ := DataW.trod_struct Try.underlying43 h
  rw [hxy] at hw
  have g0 : DataW.trod enc Try.prog w base spare held k 3 (([v0, v1, v2].drop 0).take (Try.prog.cellsOf 3)) = xs[0]? := hf 0 _ rfl
  have g1 : DataW.trod enc Try.prog w base spare held k 9 (([v0, v1, v2].drop 1).take (Try.prog.cellsOf 9)) = xs[1]? := hf 1 _ rfl
  have g2 : DataW.trod enc Try.prog w base spare held k 41 (([v0, v1, v2].drop 2).take (Try.prog.cellsOf 41)) = xs[2]? := hf 2 _ rfl
  simp only [cells3, cells9, cellsFxs] at g0 g1 g2
  match xs, hxl with
  | [y0, y1, y2], _ =>
    obtain ⟨m0, c0, _, w0⟩ := DataW.trod_int Try.underlying3 (show DataW.trod enc Try.prog w base spare held k 3 [v0] = some y0 from g0)
    obtain ⟨m1, c1, hx1, _⟩ := DataW.trod_string Try.underlying9 (show DataW.trod enc Try.prog w base spare held k 9 [v1] = some y1 from g1)
    have u1 := okw_agg Try.underlying43 hw (j := 1) (u := 9) (d := y1.1) rfl rfl
    have u2 := okw_agg Try.underlying43 hw (j := 2) (u := 41) (d := y2.1) rfl rfl
    rw [hx1] at u1
    have w1 : M.Short m1.size := by have := okw_string u1; unfold M.Short; unfold reachBytes at this; rw [Lib.size_eq]; exact this
    have t2 : DataW.trod enc Try.prog w base spare held k 41 [v2] = some y2 := g2
    obtain ⟨ao, ln, cp, d2⟩ := slice_of Try.underlying41 t2
    subst d2
    obtain ⟨fs, n1, n2, n3, n4⟩ := open_F t2 u2
    simp only [List.cons.injEq, and_true] at c0 c1
    subst c0; subst c1; subst n1
    exact ⟨⟨m0, m1, fs, ao, cp⟩, rfl, rfl, rfl, n2, ⟨i64_of _ w0, w1, n3, n4⟩⟩
end
end Go.Proofs.Ytbgnagognnklbaa.LW
/- The reading of a linked program that came in. -/
namespace Go.Proofs.Ytbgnagognnklbaa.LW
open Go.RowKit Go.Deep
open Go.Proofs.Ytbgnagognnklbaa.W (OkW okw_string okw_slice okw_agg slice_of cell_lt i64_of cells9 cells3)
set_option linter.unusedVariables false
set_option maxRecDepth 100000

section
variable {H : Type} {enc : TypeId × Value → H} {w : World} {base : Nat} {spare : Nat → Bool} {held : Bool}
theorem open_H {fuel : Nat} {a0 : Option Addr} {len cap : Nat} {x : DataW H × List MemPlace} (h : DataW.trod enc Try.prog w base spare held fuel 30 [.slice a0 len cap] = some x) (hw : OkW 30 x.1) :
    ∃ l : List LM.Sh, l.length = len ∧ LM.HasH w a0 l ∧ LM.FitHs l ∧ len ≤ cap := by
  rcases open_slice Try.underlying30 h with ⟨hcs, _⟩ | ⟨a, len', cap', m, n, D, Pl, hcs, hb, hl, hm, hmm, rfl, hx⟩
  · simp at hcs
    obtain ⟨rfl, rfl, rfl⟩ := hcs
    exact ⟨[], rfl, fun h => absurd h (by simp), ⟨by unfold M.Short; simp, fun k hk => absurd hk (by simp)⟩, Nat.le_refl _⟩
  · simp at hcs
    obtain ⟨rfl, rfl, rfl⟩ := hcs
    have hlm : len ≤ m := by rw [hmm]; split <;> omega
    obtain ⟨hb1, hb2⟩ := okw_slice Try.underlying30 hw
    rw [bytesSh] at hb1
    unfold reachBytes at hb1
    have hlen : len ≤ 140737488351232 := by simp at hb1; omega
    have each : ∀ i, i < len → ∃ y : LM.Sh, w.cell? (a.add (i * 3 + 0)) = some (.int .i64 y.page) ∧ w.cell? (a.add (i * 3 + 1)) = some (.string y.data) ∧ w.cell? (a.add (i * 3 + 2)) = some (.slice y.ao y.fixes.length y.cap) ∧ LM.HasF w y.ao y.fixes ∧ LM.FitH y := by
      intro i hi
      obtain ⟨cs', h1, h2⟩ := hx i (by omega)
      have hd : D i ∈ (List.range len).map D := List.mem_map.2 ⟨i, List.mem_range.2 hi, rfl⟩
      rw [cellsSh] at h1
      obtain ⟨_, hcl, hcell⟩ := World.cells?_some h1
      match cs', hcl with
      | [v0, v1, v2], _ =>
        obtain ⟨s, e0, e1, e2, f1, f2⟩ := vals_sheet h2 (hb2 _ hd)
        have q0 := hcell 0 (by omega)
        have q1 := hcell 1 (by omega)
        have q2 := hcell 2 (by omega)
        simp only [add_add] at q0 q1 q2
        subst e0; subst e1; subst e2
        exact ⟨s, q0, q1, q2, f1, f2⟩
    obtain ⟨g, hg⟩ := choose_lt each
    have hat : ∀ i, i < len → LM.shAt ((List.range len).map g) i = g i := by
      intro i hi
      simp [LM.shAt, hi]
    refine ⟨(List.range len).map g, by simp, fun h0 => ?_, ⟨by unfold M.Short; simp; exact hlen, fun k hk => ?_⟩, hl⟩
    · have h0' : 0 < len := by simpa using h0
      obtain ⟨b, off, spot⟩ := a
      have hc := (hg 0 h0').1
      have hspot : spot = none := by simpa [Addr.add] using World.cell?_spot hc
      subst hspot
      rw [Addr.add_lit] at hc
      refine ⟨b, off, rfl, cell_lt hc, fun i hi => ?_⟩
      have hi' : i < len := by simpa using hi
      rw [hat i hi']
      obtain ⟨e0, e1, e2, e3, _⟩ := hg i hi'
      simp only [Addr.add_lit] at e0 e1 e2
      exact ⟨e0, by rw [Nat.add_assoc]; exact e1, by rw [Nat.add_assoc]; exact e2, e3⟩
    · have hi' : k < len := by simpa using hk
      rw [hat k hi']
      obtain ⟨_, _, _, _, f⟩ := hg k hi'
      exact f
theorem open_sheet {fuel : Nat} {cs : List Value} {x : DataW H × List MemPlace} (h : DataW.trod enc Try.prog w base spare held fuel 43 cs = some x) (hw : OkW 43 x.1) :
    ∃ s : LM.Sh, cs = (LM.cellsH s).toList ∧ LM.HasF w s.ao s.fixes ∧ LM.FitH s := by
  obtain ⟨xs, k, hk, hxy, hcl, hxl, hf⟩ := DataW.trod_struct Try.underlying43 h
  rw [cellsSh] at hcl
  match cs, hcl with
  | [v0, v1, v2], _ =>
    obtain ⟨s, e0, e1, e2, f1, f2⟩ := vals_sheet h hw
    subst e0; subst e1; subst e2
    exact ⟨s, rfl, f1, f2⟩
theorem open_linked {fuel : Nat} {cs : List Value} {x : DataW H × List MemPlace} (h : DataW.trod enc Try.prog w base spare held fuel 32 cs = some x) (hw : OkW 32 x.1) :
    ∃ (l : List AM.Ar) (hs : List LM.Sh) (en : Int) (va : Value) (ao : Option Addr) (cap : Nat), cs = [va, .slice ao hs.length cap, .int .i64 en] ∧ AW.Has w va l ∧ AW.AllFit l ∧ LM.HasH w ao hs ∧ LM.FitHs hs ∧ hs.length ≤ cap ∧ M.I64 en := by
  obtain ⟨xs, k, hk, hxy, hcl, hxl, hf⟩ := DataW.trod_struct Try.underlying32 h
  rw [hxy] at hw
  rw [cellsLk] at hcl
  match cs, hcl with
  | [v0, v1, v2], _ =>
    have g0 : DataW.trod enc Try.prog w base spare held k 29 (([v0, v1, v2].drop 0).take (Try.prog.cellsOf 29)) = xs[0]? := hf 0 _ rfl
    have g1 : DataW.trod enc Try.prog w base spare held k 30 (([v0, v1, v2].drop 1).take (Try.prog.cellsOf 30)) = xs[1]? := hf 1 _ rfl
    have g2 : DataW.trod enc Try.prog w base spare held k 3 (([v0, v1, v2].drop 2).take (Try.prog.cellsOf 3)) = xs[2]? := hf 2 _ rfl
    simp only [cells3, cellsArs, cellsShs] at g0 g1 g2
    match xs, hxl with
    | [y0, y1, y2], _ =>
      obtain ⟨en, c2, _, w2⟩ := DataW.trod_int Try.underlying3 (show DataW.trod enc Try.prog w base spare held k 3 [v2] = some y2 from g2)
      have u0 := okw_agg Try.underlying32 hw (j := 0) (u := 29) (d := y0.1) rfl rfl
      have u1 := okw_agg Try.underlying32 hw (j := 1) (u := 30) (d := y1.1) rfl rfl
      have t0 : DataW.trod enc Try.prog w base spare held k 29 [v0] = some y0 := g0
      have t1 : DataW.trod enc Try.prog w base spare held k 30 [v1] = some y1 := g1
      obtain ⟨av, lv, cv, d0⟩ := slice_of Try.underlying29 t0
      obtain ⟨ao, lo, cap, d1⟩ := slice_of Try.underlying30 t1
      subst d0; subst d1
      obtain ⟨l, n1, n2, n3, n4⟩ := AW.open_areas t0
      obtain ⟨hs, s1, s2, s3, s4⟩ := open_H t1 u1
      simp only [List.cons.injEq, and_true] at c2
      subst c2; subst s1
      refine ⟨l, hs, en, _, ao, cap, rfl, n2, ⟨n3, ?_⟩, s2, s3, s4, i64_of _ w2⟩
      rw [n1]
      rcases n4 with e | ⟨el, sp, e1, e2⟩
      · omega
      · rw [e1] at u0
        have hb := (okw_slice Try.underlying29 u0).1
        rw [bytesAr, e2] at hb
        unfold reachBytes at hb
        omega
end
end Go.Proofs.Ytbgnagognnklbaa.LW
