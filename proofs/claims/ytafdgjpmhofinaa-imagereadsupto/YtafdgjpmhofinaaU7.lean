/- ImageReads: the walk. -/
import Derived.Test.YtafdgjpmhofinaaU5
import Derived.Test.YtafdgjpmhofinaaT5
namespace Go.Proofs.Ytafdgjpmhofinaa.W
open Go.RowKit
set_option linter.unusedVariables false

theorem from_some {s : ByteArray} {i : M.Im} (w : World) (hs : s.size ≤ 1048576) (h : readR s.data.toList = some i) : Calls Try.prog 12 #[.string s] w fun e w' => (∃ a, e = .returned (.tuple #[.agg (M.cellsI a i), .bool true]) ∧ M.HasIm w' a i) ∧ Below w.heap.size w w' := by
  have g := imageFrom_any s w hs
  rw [h] at g
  exact g
theorem from_no {s : ByteArray} (w : World) (hs : s.size ≤ 1048576) (h : readR s.data.toList = none) : Calls Try.prog 12 #[.string s] w fun e w' => e = .returned (.tuple #[.agg #[.string ⟨#[]⟩, .slice none 0 0, .slice none 0 0, .slice none 0 0, .slice none 0 0, .int .i64 0], .bool false]) ∧ Below w.heap.size w w' := by
  have g := imageFrom_any s w hs
  rw [h] at g
  exact g
theorem no_im (w : World) : M.HasIm w ⟨none, 0, none, 0, none, 0, none, 0⟩ ⟨⟨#[]⟩, [], [], [], [], 0⟩ :=
  ⟨fun h => (Nat.lt_irrefl 0 h).elim, fun h => (Nat.lt_irrefl 0 h).elim, fun h => (Nat.lt_irrefl 0 h).elim, fun h => (Nat.lt_irrefl 0 h).elim⟩
theorem no_fit : M.Fit ⟨⟨#[]⟩, [], [], [], [], 0⟩ := by
  refine ⟨Nat.zero_le _, Nat.zero_le _, fun k h => ?_, Nat.zero_le _, fun k h => ?_, Nat.zero_le _, fun k h => ?_, Nat.zero_le _, fun k h => ?_, ?_⟩
  · cases h
  · cases h
  · cases h
  · cases h
  · show M.I64 0
    unfold M.I64
    omega
theorem same_no (w : World) : Calls Try.prog 13 #[.agg #[.string ⟨#[]⟩, .slice none 0 0, .slice none 0 0, .slice none 0 0, .slice none 0 0, .int .i64 0], .agg #[.string ⟨#[]⟩, .slice none 0 0, .slice none 0 0, .slice none 0 0, .slice none 0 0, .int .i64 0]] w fun e w' => e = .returned (.bool true) ∧ Below w.heap.size w w' :=
  same_yes ⟨⟨#[]⟩, [], [], [], [], 0⟩ ⟨none, 0, none, 0, none, 0, none, 0⟩ ⟨none, 0, none, 0, none, 0, none, 0⟩ w (no_im w) (no_im w) no_fit

set_option maxRecDepth 100000 in
set_option maxHeartbeats 3000000 in
theorem imageReads_any (s : ByteArray) (w : World) (hs : s.size ≤ 1048576) : Calls Try.prog 4 #[.string s] w fun e w' => e = .returned (.bool true) ∧ Below w.heap.size w w' := by
  have hsh : M.Short s.size := by unfold M.Short; omega
  have hml : s.size ≤ maxLen := by unfold maxLen; omega
  cases hr : readP s.data.toList with
  | none =>
    have HR := hideC hr
    have HR2 : Hid (readR s.data.toList = none) := (read_same s.data.toList).symm.trans hr
    clear hr
    go_enter Try.func4, Try.ntmps4
    go_wp2_with (first
      | (go_at_call 11; refine (read_no _ hsh HR.out).mono ?_; rintro e w1 ⟨rfl, hb⟩; have HB := hideC hb; have BX := hideC (B.new w1 #[.string ⟨#[]⟩, .slice none 0 0, .slice none 0 0, .slice none 0 0, .slice none 0 0, .int .i64 0] 27); have HB := hideC (HB.out.alloc HB.out.size (.cells #[.string ⟨#[]⟩, .slice none 0 0, .slice none 0 0, .slice none 0 0, .slice none 0 0, .int .i64 0] 27)); clear hb)
      | (go_at_call 12; refine (from_no _ hs HR2.out).mono ?_; rintro e w2 ⟨rfl, hb⟩; have HB := hideC (HB.out.trans (hb.mono HB.out.size)); have BX := hideC (B.below BX.out hb (B.isLt BX.out)); have HB := hideC (HB.out.alloc HB.out.size (.cells #[.string ⟨#[]⟩, .slice none 0 0, .slice none 0 0, .slice none 0 0, .slice none 0 0, .int .i64 0] 27)); have BX := hideC (B.alloc BX.out (.cells #[.string ⟨#[]⟩, .slice none 0 0, .slice none 0 0, .slice none 0 0, .slice none 0 0, .int .i64 0] 27)); clear hb)
      | (go_at_call 9; refine (begun _).mono ?_; rintro e w3 ⟨rfl, hb⟩; have HB := hideC (HB.out.trans (hb.mono HB.out.size)); have BX := hideC (B.below BX.out hb (B.isLt BX.out)); have q0 := B.cell BX.out 0 rfl; have q1 := B.cell BX.out 1 rfl; have q2 := B.cell BX.out 2 rfl; have q3 := B.cell BX.out 3 rfl; have q4 := B.cell BX.out 4 rfl; have q5 := B.cell BX.out 5 rfl; clear hb)
      | (go_at_call 13; refine (same_no _).mono ?_; rintro e w4 ⟨rfl, hb⟩; have HB := hideC (HB.out.trans (hb.mono HB.out.size)); clear hb))
    go_ret
    exact ⟨rfl, HB.out⟩
  | some i =>
    have HR := hideC hr
    have HR2 : Hid (readR s.data.toList = some i) := (read_same s.data.toList).symm.trans hr
    have HFI : Hid (M.Fit i) := by
      obtain ⟨h1, h2, h3⟩ := (read_iff _ _).1 hr
      refine fit_small h2 ?_
      rw [← h3, ← Lib.size_eq]
      exact hs
    clear hr
    obtain ⟨nm, ns, gs, ys, rs, en⟩ := i
    go_enter Try.func4, Try.ntmps4
    go_wp2_with (first
      | (go_at_call 11; refine (read_some _ hsh HR.out).mono ?_; rintro e w1 ⟨⟨a, rfl, h1⟩, hb⟩; obtain ⟨an1, cn1, ag1, cg1, ay1, cy1, ar1, cr1⟩ := a; simp only [M.cellsI]; have H1 := hideC h1; have BX := hideC (B.new w1 #[.string nm, .slice an1 ns.length cn1, .slice ag1 gs.length cg1, .slice ay1 ys.length cy1, .slice ar1 rs.length cr1, .int .i64 en] 27); have hba := (Below.refl w1.heap.size w1).alloc (Nat.le_refl _) (.cells #[.string nm, .slice an1 ns.length cn1, .slice ag1 gs.length cg1, .slice ay1 ys.length cy1, .slice ar1 rs.length cr1, .int .i64 en] 27); have H1 := hideC (H1.out.below hba); have HB := hideC (hb.alloc hb.size (.cells #[.string nm, .slice an1 ns.length cn1, .slice ag1 gs.length cg1, .slice ay1 ys.length cy1, .slice ar1 rs.length cr1, .int .i64 en] 27)); clear hb h1 hba)
      | (go_at_call 12; refine (from_some _ hs HR2.out).mono ?_; rintro e w2 ⟨⟨a, rfl, h2⟩, hb⟩; obtain ⟨an2, cn2, ag2, cg2, ay2, cy2, ar2, cr2⟩ := a; simp only [M.cellsI]; have HB := hideC (HB.out.trans (hb.mono HB.out.size)); have H1 := hideC (H1.out.below hb); have BX := hideC (B.below BX.out hb (B.isLt BX.out)); have hbx := B.isLt BX.out; have hba := (Below.refl w2.heap.size w2).alloc (Nat.le_refl _) (.cells #[.string nm, .slice an2 ns.length cn2, .slice ag2 gs.length cg2, .slice ay2 ys.length cy2, .slice ar2 rs.length cr2, .int .i64 en] 27); have HB := hideC (HB.out.alloc HB.out.size (.cells #[.string nm, .slice an2 ns.length cn2, .slice ag2 gs.length cg2, .slice ay2 ys.length cy2, .slice ar2 rs.length cr2, .int .i64 en] 27)); have BX := hideC (B.alloc BX.out (.cells #[.string nm, .slice an2 ns.length cn2, .slice ag2 gs.length cg2, .slice ay2 ys.length cy2, .slice ar2 rs.length cr2, .int .i64 en] 27)); have BY := hideC (B.new w2 #[.string nm, .slice an2 ns.length cn2, .slice ag2 gs.length cg2, .slice ay2 ys.length cy2, .slice ar2 rs.length cr2, .int .i64 en] 27); have H1 := hideC (H1.out.below hba); have H2 := hideC (h2.below hba); clear hb hba h2)
      | (go_at_call 9; refine (begun _).mono ?_; rintro e w3 ⟨rfl, hb⟩; have HB := hideC (HB.out.trans (hb.mono HB.out.size)); have BX := hideC (B.below BX.out hb (B.isLt BX.out)); have BY := hideC (B.below BY.out hb (B.isLt BY.out)); have H1 := hideC (H1.out.below hb); have H2 := hideC (H2.out.below hb); have q0 := B.cell BX.out 0 rfl; have q1 := B.cell BX.out 1 rfl; have q2 := B.cell BX.out 2 rfl; have q3 := B.cell BX.out 3 rfl; have q4 := B.cell BX.out 4 rfl; have q5 := B.cell BX.out 5 rfl; have r0 := B.cell BY.out 0 rfl; have r1 := B.cell BY.out 1 rfl; have r2 := B.cell BY.out 2 rfl; have r3 := B.cell BY.out 3 rfl; have r4 := B.cell BY.out 4 rfl; have r5 := B.cell BY.out 5 rfl; clear hb)
      | (go_at_call 13; refine (same_yes ⟨nm, ns, gs, ys, rs, en⟩ ⟨an1, cn1, ag1, cg1, ay1, cy1, ar1, cr1⟩ ⟨an2, cn2, ag2, cg2, ay2, cy2, ar2, cr2⟩ _ H1.out H2.out HFI.out).mono ?_; rintro e w4 ⟨rfl, hb⟩; have HB := hideC (HB.out.trans (hb.mono HB.out.size)); clear hb))
    go_ret
    exact ⟨rfl, HB.out⟩
end Go.Proofs.Ytafdgjpmhofinaa.W
