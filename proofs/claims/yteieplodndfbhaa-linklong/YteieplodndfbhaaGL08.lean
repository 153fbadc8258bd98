import Derived.Test.YteieplodndfbhaaGL07
import Derived.Test.YteieplodndfbhaaGL04
namespace Go.Proofs.Yteieplodndfbhaa.W
open Go.RowKit
set_option linter.unusedVariables false
set_option maxRecDepth 100000

theorem ret_i64 {a b : Int} (h : a = b) : Ending.returned (.int .i64 a) = .returned (.int .i64 b) := by rw [h]
theorem strAt_map (ys : List M.Sy) (k : Nat) (h : k < ys.length) : M.strAt (ys.map (·.name)) k = (M.syAt ys k).name := by
  unfold M.strAt M.syAt
  rw [List.getD_eq_getElem?_getD, List.getD_eq_getElem?_getD, List.getElem?_map, List.getElem?_eq_getElem h]
  rfl

theorem symNames_as (L : List ByteArray) (ys : List M.Sy) (hL : L = ys.map (·.name)) (ao : Option Addr) (cap : Nat) (w : World) (h : M.HasBy M.LieY w ao ys) (hn : ys.length ≤ 12) :
    Calls Try.prog 73 #[.slice ao ys.length cap] w fun e w' => (∃ ao' cap', e = .returned (.slice ao' L.length cap') ∧ M.HasBy M.LieS w' ao' L) ∧ Below w.heap.size w w' := by
  subst hL
  exact symNames_any ys ao cap w h hn

set_option maxHeartbeats 1000000 in
theorem check_any (i : M.Im) (a : M.At) (w : World) (h : M.HasIm w a i) (hf : M.Fit i) : Calls Try.prog 50 #[.agg (M.cellsI a i)] w fun e w' => e = .returned (.int .i64 (M.chkN i)) ∧ Below w.heap.size w w' := by
  obtain ⟨an, cn, ag, cg, ay, cy, ar, cr⟩ := a
  obtain ⟨nm, ns, gs, ys, rs, en⟩ := i
  have HI := hideC h
  have HF := hideC hf
  have FY : Hid (∀ k, k < (ys.map (·.name)).length → M.Short (M.strAt (ys.map (·.name)) k).size) := fun k hk => by
    have hk' : k < ys.length := by simpa using hk
    rw [strAt_map ys k hk']
    exact (hf.sym k hk').1
  obtain ⟨L, hL⟩ : ∃ L, L = ys.map (·.name) := ⟨_, rfl⟩
  rw [← hL] at FY
  have HL := hideC hL
  have hyl' : ys.length ≤ 12 → M.Short L.length := fun h => by rw [hL]; unfold M.Short; simp; omega
  clear hL
  clear h hf
  simp only [M.cellsI]
  have HB := hideC ((Below.refl w.heap.size w).alloc (Nat.le_refl _) (.cells #[.string nm, .slice an ns.length cn, .slice ag gs.length cg, .slice ay ys.length cy, .slice ar rs.length cr, .int .i64 en] 27))
  have BX := hideC (B.new w #[.string nm, .slice an ns.length cn, .slice ag gs.length cg, .slice ay ys.length cy, .slice ar rs.length cr, .int .i64 en] 27)
  cases e1 : M.namesB ⟨nm, ns, gs, ys, rs, en⟩
  · have HR : Hid (M.chkN ⟨nm, ns, gs, ys, rs, en⟩ = 4) := by show _ = _; simp only [M.chkN, M.rangesB, M.thereB, M.placesB, ← HL.out, e1]; rfl
    go_enter Try.func50, Try.ntmps50
    go_wp2_with (first | (go_at_call 68; refine (rightNames_any ⟨nm, ns, gs, ys, rs, en⟩ ⟨an, cn, ag, cg, ay, cy, ar, cr⟩ _ (HI.out.below HB.out) HF.out).mono ?_; rintro e w' ⟨rfl, hb⟩; rw [e1]; have HB := hideC (HB.out.trans (hb.mono HB.out.size)); have BX := hideC (B.below BX.out hb (B.isLt BX.out)); have q0 := B.cell BX.out 0 rfl; have q1 := B.cell BX.out 1 rfl; have q2 := B.cell BX.out 2 rfl; have q3 := B.cell BX.out 3 rfl; have q4 := B.cell BX.out 4 rfl; have q5 := B.cell BX.out 5 rfl; clear hb))
    go_ret
    exact ⟨ret_i64 HR.out.symm, HB.out⟩
  · skip
    cases e2 : M.countsB ⟨nm, ns, gs, ys, rs, en⟩
    · have HR : Hid (M.chkN ⟨nm, ns, gs, ys, rs, en⟩ = 2) := by show _ = _; simp only [M.chkN, M.rangesB, M.thereB, M.placesB, ← HL.out, e1, e2]; rfl
      go_enter Try.func50, Try.ntmps50
      go_wp2_with (first | (go_at_call 68; refine (rightNames_any ⟨nm, ns, gs, ys, rs, en⟩ ⟨an, cn, ag, cg, ay, cy, ar, cr⟩ _ (HI.out.below HB.out) HF.out).mono ?_; rintro e w' ⟨rfl, hb⟩; rw [e1]; have HB := hideC (HB.out.trans (hb.mono HB.out.size)); have BX := hideC (B.below BX.out hb (B.isLt BX.out)); have q0 := B.cell BX.out 0 rfl; have q1 := B.cell BX.out 1 rfl; have q2 := B.cell BX.out 2 rfl; have q3 := B.cell BX.out 3 rfl; have q4 := B.cell BX.out 4 rfl; have q5 := B.cell BX.out 5 rfl; clear hb) | (go_at_call 69; refine (rightCounts_any ⟨nm, ns, gs, ys, rs, en⟩ ⟨an, cn, ag, cg, ay, cy, ar, cr⟩ _ HF.out).mono ?_; rintro e w' ⟨rfl, hb⟩; rw [e2]; have HB := hideC (HB.out.trans (hb.mono HB.out.size)); have BX := hideC (B.below BX.out hb (B.isLt BX.out)); have q0 := B.cell BX.out 0 rfl; have q1 := B.cell BX.out 1 rfl; have q2 := B.cell BX.out 2 rfl; have q3 := B.cell BX.out 3 rfl; have q4 := B.cell BX.out 4 rfl; have q5 := B.cell BX.out 5 rfl; clear hb))
      go_ret
      exact ⟨ret_i64 HR.out.symm, HB.out⟩
    · have hcn := of_decide_eq_true e2
      simp only at hcn
      have hy12 : ys.length ≤ 12 := hcn.2.2.2.1
      have hyl := hyl' hy12
      clear hcn hyl'
      cases e3 : gs.all M.rangeB
      · have HR : Hid (M.chkN ⟨nm, ns, gs, ys, rs, en⟩ = 3) := by show _ = _; simp only [M.chkN, M.rangesB, M.thereB, M.placesB, ← HL.out, e1, e2, e3]; rfl
        go_enter Try.func50, Try.ntmps50
        go_wp2_with (first | (go_at_call 68; refine (rightNames_any ⟨nm, ns, gs, ys, rs, en⟩ ⟨an, cn, ag, cg, ay, cy, ar, cr⟩ _ (HI.out.below HB.out) HF.out).mono ?_; rintro e w' ⟨rfl, hb⟩; rw [e1]; have HB := hideC (HB.out.trans (hb.mono HB.out.size)); have BX := hideC (B.below BX.out hb (B.isLt BX.out)); have q0 := B.cell BX.out 0 rfl; have q1 := B.cell BX.out 1 rfl; have q2 := B.cell BX.out 2 rfl; have q3 := B.cell BX.out 3 rfl; have q4 := B.cell BX.out 4 rfl; have q5 := B.cell BX.out 5 rfl; clear hb) | (go_at_call 69; refine (rightCounts_any ⟨nm, ns, gs, ys, rs, en⟩ ⟨an, cn, ag, cg, ay, cy, ar, cr⟩ _ HF.out).mono ?_; rintro e w' ⟨rfl, hb⟩; rw [e2]; have HB := hideC (HB.out.trans (hb.mono HB.out.size)); have BX := hideC (B.below BX.out hb (B.isLt BX.out)); have q0 := B.cell BX.out 0 rfl; have q1 := B.cell BX.out 1 rfl; have q2 := B.cell BX.out 2 rfl; have q3 := B.cell BX.out 3 rfl; have q4 := B.cell BX.out 4 rfl; have q5 := B.cell BX.out 5 rfl; clear hb) | (go_at_call 70; refine (rightRanges_any gs ag cg _ (HI.out.below HB.out).segs HF.out.segs HF.out.seg).mono ?_; rintro e w' ⟨rfl, hb⟩; rw [e3]; have HB := hideC (HB.out.trans (hb.mono HB.out.size)); have BX := hideC (B.below BX.out hb (B.isLt BX.out)); have q0 := B.cell BX.out 0 rfl; have q1 := B.cell BX.out 1 rfl; have q2 := B.cell BX.out 2 rfl; have q3 := B.cell BX.out 3 rfl; have q4 := B.cell BX.out 4 rfl; have q5 := B.cell BX.out 5 rfl; clear hb))
        go_ret
        exact ⟨ret_i64 HR.out.symm, HB.out⟩
      · skip
        cases e4 : M.apartB gs
        · have HR : Hid (M.chkN ⟨nm, ns, gs, ys, rs, en⟩ = 5) := by show _ = _; simp only [M.chkN, M.rangesB, M.thereB, M.placesB, ← HL.out, e1, e2, e3, e4]; rfl
          go_enter Try.func50, Try.ntmps50
          go_wp2_with (first | (go_at_call 68; refine (rightNames_any ⟨nm, ns, gs, ys, rs, en⟩ ⟨an, cn, ag, cg, ay, cy, ar, cr⟩ _ (HI.out.below HB.out) HF.out).mono ?_; rintro e w' ⟨rfl, hb⟩; rw [e1]; have HB := hideC (HB.out.trans (hb.mono HB.out.size)); have BX := hideC (B.below BX.out hb (B.isLt BX.out)); have q0 := B.cell BX.out 0 rfl; have q1 := B.cell BX.out 1 rfl; have q2 := B.cell BX.out 2 rfl; have q3 := B.cell BX.out 3 rfl; have q4 := B.cell BX.out 4 rfl; have q5 := B.cell BX.out 5 rfl; clear hb) | (go_at_call 69; refine (rightCounts_any ⟨nm, ns, gs, ys, rs, en⟩ ⟨an, cn, ag, cg, ay, cy, ar, cr⟩ _ HF.out).mono ?_; rintro e w' ⟨rfl, hb⟩; rw [e2]; have HB := hideC (HB.out.trans (hb.mono HB.out.size)); have BX := hideC (B.below BX.out hb (B.isLt BX.out)); have q0 := B.cell BX.out 0 rfl; have q1 := B.cell BX.out 1 rfl; have q2 := B.cell BX.out 2 rfl; have q3 := B.cell BX.out 3 rfl; have q4 := B.cell BX.out 4 rfl; have q5 := B.cell BX.out 5 rfl; clear hb) | (go_at_call 70; refine (rightRanges_any gs ag cg _ (HI.out.below HB.out).segs HF.out.segs HF.out.seg).mono ?_; rintro e w' ⟨rfl, hb⟩; rw [e3]; have HB := hideC (HB.out.trans (hb.mono HB.out.size)); have BX := hideC (B.below BX.out hb (B.isLt BX.out)); have q0 := B.cell BX.out 0 rfl; have q1 := B.cell BX.out 1 rfl; have q2 := B.cell BX.out 2 rfl; have q3 := B.cell BX.out 3 rfl; have q4 := B.cell BX.out 4 rfl; have q5 := B.cell BX.out 5 rfl; clear hb) | (go_at_call 71; refine (overlap_any gs ag cg _ (HI.out.below HB.out).segs HF.out.segs e3).mono ?_; rintro e w' ⟨rfl, hb⟩; rw [e4]; have HB := hideC (HB.out.trans (hb.mono HB.out.size)); have BX := hideC (B.below BX.out hb (B.isLt BX.out)); have q0 := B.cell BX.out 0 rfl; have q1 := B.cell BX.out 1 rfl; have q2 := B.cell BX.out 2 rfl; have q3 := B.cell BX.out 3 rfl; have q4 := B.cell BX.out 4 rfl; have q5 := B.cell BX.out 5 rfl; clear hb))
          go_ret
          exact ⟨ret_i64 HR.out.symm, HB.out⟩
        · skip
          cases e5 : M.onceB ns
          · have HR : Hid (M.chkN ⟨nm, ns, gs, ys, rs, en⟩ = 5) := by show _ = _; simp only [M.chkN, M.rangesB, M.thereB, M.placesB, ← HL.out, e1, e2, e3, e4, e5]; rfl
            go_enter Try.func50, Try.ntmps50
            go_wp2_with (first | (go_at_call 68; refine (rightNames_any ⟨nm, ns, gs, ys, rs, en⟩ ⟨an, cn, ag, cg, ay, cy, ar, cr⟩ _ (HI.out.below HB.out) HF.out).mono ?_; rintro e w' ⟨rfl, hb⟩; rw [e1]; have HB := hideC (HB.out.trans (hb.mono HB.out.size)); have BX := hideC (B.below BX.out hb (B.isLt BX.out)); have q0 := B.cell BX.out 0 rfl; have q1 := B.cell BX.out 1 rfl; have q2 := B.cell BX.out 2 rfl; have q3 := B.cell BX.out 3 rfl; have q4 := B.cell BX.out 4 rfl; have q5 := B.cell BX.out 5 rfl; clear hb) | (go_at_call 69; refine (rightCounts_any ⟨nm, ns, gs, ys, rs, en⟩ ⟨an, cn, ag, cg, ay, cy, ar, cr⟩ _ HF.out).mono ?_; rintro e w' ⟨rfl, hb⟩; rw [e2]; have HB := hideC (HB.out.trans (hb.mono HB.out.size)); have BX := hideC (B.below BX.out hb (B.isLt BX.out)); have q0 := B.cell BX.out 0 rfl; have q1 := B.cell BX.out 1 rfl; have q2 := B.cell BX.out 2 rfl; have q3 := B.cell BX.out 3 rfl; have q4 := B.cell BX.out 4 rfl; have q5 := B.cell BX.out 5 rfl; clear hb) | (go_at_call 70; refine (rightRanges_any gs ag cg _ (HI.out.below HB.out).segs HF.out.segs HF.out.seg).mono ?_; rintro e w' ⟨rfl, hb⟩; rw [e3]; have HB := hideC (HB.out.trans (hb.mono HB.out.size)); have BX := hideC (B.below BX.out hb (B.isLt BX.out)); have q0 := B.cell BX.out 0 rfl; have q1 := B.cell BX.out 1 rfl; have q2 := B.cell BX.out 2 rfl; have q3 := B.cell BX.out 3 rfl; have q4 := B.cell BX.out 4 rfl; have q5 := B.cell BX.out 5 rfl; clear hb) | (go_at_call 71; refine (overlap_any gs ag cg _ (HI.out.below HB.out).segs HF.out.segs e3).mono ?_; rintro e w' ⟨rfl, hb⟩; rw [e4]; have HB := hideC (HB.out.trans (hb.mono HB.out.size)); have BX := hideC (B.below BX.out hb (B.isLt BX.out)); have q0 := B.cell BX.out 0 rfl; have q1 := B.cell BX.out 1 rfl; have q2 := B.cell BX.out 2 rfl; have q3 := B.cell BX.out 3 rfl; have q4 := B.cell BX.out 4 rfl; have q5 := B.cell BX.out 5 rfl; clear hb) | (go_at_call 72; refine (twice_any ns an cn _ (HI.out.below HB.out).needs HF.out.needs HF.out.need).mono ?_; rintro e w' ⟨rfl, hb⟩; rw [e5]; have HB := hideC (HB.out.trans (hb.mono HB.out.size)); have BX := hideC (B.below BX.out hb (B.isLt BX.out)); have q0 := B.cell BX.out 0 rfl; have q1 := B.cell BX.out 1 rfl; have q2 := B.cell BX.out 2 rfl; have q3 := B.cell BX.out 3 rfl; have q4 := B.cell BX.out 4 rfl; have q5 := B.cell BX.out 5 rfl; clear hb))
            go_ret
            exact ⟨ret_i64 HR.out.symm, HB.out⟩
          · skip
            cases e6 : M.onceB L
            · have HR : Hid (M.chkN ⟨nm, ns, gs, ys, rs, en⟩ = 5) := by show _ = _; simp only [M.chkN, M.rangesB, M.thereB, M.placesB, ← HL.out, e1, e2, e3, e4, e5, e6]; rfl
              go_enter Try.func50, Try.ntmps50
              go_wp2_with (first | (go_at_call 72; refine (twice_any L ao' cap' _ HY.out hyl FY.out).mono ?_; rintro e w' ⟨rfl, hb⟩; rw [e6]; have HB := hideC (HB.out.trans (hb.mono HB.out.size)); have BX := hideC (B.below BX.out hb (B.isLt BX.out)); have q0 := B.cell BX.out 0 rfl; have q1 := B.cell BX.out 1 rfl; have q2 := B.cell BX.out 2 rfl; have q3 := B.cell BX.out 3 rfl; have q4 := B.cell BX.out 4 rfl; have q5 := B.cell BX.out 5 rfl; clear hb) | (go_at_call 68; refine (rightNames_any ⟨nm, ns, gs, ys, rs, en⟩ ⟨an, cn, ag, cg, ay, cy, ar, cr⟩ _ (HI.out.below HB.out) HF.out).mono ?_; rintro e w' ⟨rfl, hb⟩; rw [e1]; have HB := hideC (HB.out.trans (hb.mono HB.out.size)); have BX := hideC (B.below BX.out hb (B.isLt BX.out)); have q0 := B.cell BX.out 0 rfl; have q1 := B.cell BX.out 1 rfl; have q2 := B.cell BX.out 2 rfl; have q3 := B.cell BX.out 3 rfl; have q4 := B.cell BX.out 4 rfl; have q5 := B.cell BX.out 5 rfl; clear hb) | (go_at_call 69; refine (rightCounts_any ⟨nm, ns, gs, ys, rs, en⟩ ⟨an, cn, ag, cg, ay, cy, ar, cr⟩ _ HF.out).mono ?_; rintro e w' ⟨rfl, hb⟩; rw [e2]; have HB := hideC (HB.out.trans (hb.mono HB.out.size)); have BX := hideC (B.below BX.out hb (B.isLt BX.out)); have q0 := B.cell BX.out 0 rfl; have q1 := B.cell BX.out 1 rfl; have q2 := B.cell BX.out 2 rfl; have q3 := B.cell BX.out 3 rfl; have q4 := B.cell BX.out 4 rfl; have q5 := B.cell BX.out 5 rfl; clear hb) | (go_at_call 70; refine (rightRanges_any gs ag cg _ (HI.out.below HB.out).segs HF.out.segs HF.out.seg).mono ?_; rintro e w' ⟨rfl, hb⟩; rw [e3]; have HB := hideC (HB.out.trans (hb.mono HB.out.size)); have BX := hideC (B.below BX.out hb (B.isLt BX.out)); have q0 := B.cell BX.out 0 rfl; have q1 := B.cell BX.out 1 rfl; have q2 := B.cell BX.out 2 rfl; have q3 := B.cell BX.out 3 rfl; have q4 := B.cell BX.out 4 rfl; have q5 := B.cell BX.out 5 rfl; clear hb) | (go_at_call 71; refine (overlap_any gs ag cg _ (HI.out.below HB.out).segs HF.out.segs e3).mono ?_; rintro e w' ⟨rfl, hb⟩; rw [e4]; have HB := hideC (HB.out.trans (hb.mono HB.out.size)); have BX := hideC (B.below BX.out hb (B.isLt BX.out)); have q0 := B.cell BX.out 0 rfl; have q1 := B.cell BX.out 1 rfl; have q2 := B.cell BX.out 2 rfl; have q3 := B.cell BX.out 3 rfl; have q4 := B.cell BX.out 4 rfl; have q5 := B.cell BX.out 5 rfl; clear hb) | (go_at_call 72; refine (twice_any ns an cn _ (HI.out.below HB.out).needs HF.out.needs HF.out.need).mono ?_; rintro e w' ⟨rfl, hb⟩; rw [e5]; have HB := hideC (HB.out.trans (hb.mono HB.out.size)); have BX := hideC (B.below BX.out hb (B.isLt BX.out)); have q0 := B.cell BX.out 0 rfl; have q1 := B.cell BX.out 1 rfl; have q2 := B.cell BX.out 2 rfl; have q3 := B.cell BX.out 3 rfl; have q4 := B.cell BX.out 4 rfl; have q5 := B.cell BX.out 5 rfl; clear hb) | (go_at_call 73; refine (symNames_as L ys HL.out ay cy _ (HI.out.below HB.out).syms hy12).mono ?_; rintro e w' ⟨⟨ao', cap', rfl, hh⟩, hb⟩; have HY := hideC hh; clear hh; have HB := hideC (HB.out.trans (hb.mono HB.out.size)); have BX := hideC (B.below BX.out hb (B.isLt BX.out)); have q0 := B.cell BX.out 0 rfl; have q1 := B.cell BX.out 1 rfl; have q2 := B.cell BX.out 2 rfl; have q3 := B.cell BX.out 3 rfl; have q4 := B.cell BX.out 4 rfl; have q5 := B.cell BX.out 5 rfl; clear hb))
              go_ret
              exact ⟨ret_i64 HR.out.symm, HB.out⟩
            · skip
              cases e7 : ys.all (fun y => M.placedB gs y.pos)
              · have HR : Hid (M.chkN ⟨nm, ns, gs, ys, rs, en⟩ = 6) := by show _ = _; simp only [M.chkN, M.rangesB, M.thereB, M.placesB, ← HL.out, e1, e2, e3, e4, e5, e6, e7]; rfl
                go_enter Try.func50, Try.ntmps50
                go_wp2_with (first | (go_at_call 72; refine (twice_any L ao' cap' _ HY.out hyl FY.out).mono ?_; rintro e w' ⟨rfl, hb⟩; rw [e6]; have HB := hideC (HB.out.trans (hb.mono HB.out.size)); have BX := hideC (B.below BX.out hb (B.isLt BX.out)); have q0 := B.cell BX.out 0 rfl; have q1 := B.cell BX.out 1 rfl; have q2 := B.cell BX.out 2 rfl; have q3 := B.cell BX.out 3 rfl; have q4 := B.cell BX.out 4 rfl; have q5 := B.cell BX.out 5 rfl; clear hb) | (go_at_call 68; refine (rightNames_any ⟨nm, ns, gs, ys, rs, en⟩ ⟨an, cn, ag, cg, ay, cy, ar, cr⟩ _ (HI.out.below HB.out) HF.out).mono ?_; rintro e w' ⟨rfl, hb⟩; rw [e1]; have HB := hideC (HB.out.trans (hb.mono HB.out.size)); have BX := hideC (B.below BX.out hb (B.isLt BX.out)); have q0 := B.cell BX.out 0 rfl; have q1 := B.cell BX.out 1 rfl; have q2 := B.cell BX.out 2 rfl; have q3 := B.cell BX.out 3 rfl; have q4 := B.cell BX.out 4 rfl; have q5 := B.cell BX.out 5 rfl; clear hb) | (go_at_call 69; refine (rightCounts_any ⟨nm, ns, gs, ys, rs, en⟩ ⟨an, cn, ag, cg, ay, cy, ar, cr⟩ _ HF.out).mono ?_; rintro e w' ⟨rfl, hb⟩; rw [e2]; have HB := hideC (HB.out.trans (hb.mono HB.out.size)); have BX := hideC (B.below BX.out hb (B.isLt BX.out)); have q0 := B.cell BX.out 0 rfl; have q1 := B.cell BX.out 1 rfl; have q2 := B.cell BX.out 2 rfl; have q3 := B.cell BX.out 3 rfl; have q4 := B.cell BX.out 4 rfl; have q5 := B.cell BX.out 5 rfl; clear hb) | (go_at_call 70; refine (rightRanges_any gs ag cg _ (HI.out.below HB.out).segs HF.out.segs HF.out.seg).mono ?_; rintro e w' ⟨rfl, hb⟩; rw [e3]; have HB := hideC (HB.out.trans (hb.mono HB.out.size)); have BX := hideC (B.below BX.out hb (B.isLt BX.out)); have q0 := B.cell BX.out 0 rfl; have q1 := B.cell BX.out 1 rfl; have q2 := B.cell BX.out 2 rfl; have q3 := B.cell BX.out 3 rfl; have q4 := B.cell BX.out 4 rfl; have q5 := B.cell BX.out 5 rfl; clear hb) | (go_at_call 71; refine (overlap_any gs ag cg _ (HI.out.below HB.out).segs HF.out.segs e3).mono ?_; rintro e w' ⟨rfl, hb⟩; rw [e4]; have HB := hideC (HB.out.trans (hb.mono HB.out.size)); have BX := hideC (B.below BX.out hb (B.isLt BX.out)); have q0 := B.cell BX.out 0 rfl; have q1 := B.cell BX.out 1 rfl; have q2 := B.cell BX.out 2 rfl; have q3 := B.cell BX.out 3 rfl; have q4 := B.cell BX.out 4 rfl; have q5 := B.cell BX.out 5 rfl; clear hb) | (go_at_call 72; refine (twice_any ns an cn _ (HI.out.below HB.out).needs HF.out.needs HF.out.need).mono ?_; rintro e w' ⟨rfl, hb⟩; rw [e5]; have HB := hideC (HB.out.trans (hb.mono HB.out.size)); have BX := hideC (B.below BX.out hb (B.isLt BX.out)); have q0 := B.cell BX.out 0 rfl; have q1 := B.cell BX.out 1 rfl; have q2 := B.cell BX.out 2 rfl; have q3 := B.cell BX.out 3 rfl; have q4 := B.cell BX.out 4 rfl; have q5 := B.cell BX.out 5 rfl; clear hb) | (go_at_call 73; refine (symNames_as L ys HL.out ay cy _ (HI.out.below HB.out).syms hy12).mono ?_; rintro e w' ⟨⟨ao', cap', rfl, hh⟩, hb⟩; have HY := hideC hh; clear hh; have HB := hideC (HB.out.trans (hb.mono HB.out.size)); have BX := hideC (B.below BX.out hb (B.isLt BX.out)); have q0 := B.cell BX.out 0 rfl; have q1 := B.cell BX.out 1 rfl; have q2 := B.cell BX.out 2 rfl; have q3 := B.cell BX.out 3 rfl; have q4 := B.cell BX.out 4 rfl; have q5 := B.cell BX.out 5 rfl; clear hb) | (go_at_call 74; refine (symsPlaced_any ⟨nm, ns, gs, ys, rs, en⟩ ⟨an, cn, ag, cg, ay, cy, ar, cr⟩ _ (HI.out.below HB.out) HF.out e3).mono ?_; rintro e w' ⟨rfl, hb⟩; rw [e7]; have HB := hideC (HB.out.trans (hb.mono HB.out.size)); have BX := hideC (B.below BX.out hb (B.isLt BX.out)); have q0 := B.cell BX.out 0 rfl; have q1 := B.cell BX.out 1 rfl; have q2 := B.cell BX.out 2 rfl; have q3 := B.cell BX.out 3 rfl; have q4 := B.cell BX.out 4 rfl; have q5 := B.cell BX.out 5 rfl; clear hb))
                go_ret
                exact ⟨ret_i64 HR.out.symm, HB.out⟩
              · skip
                cases e8 : M.relsTo ⟨nm, ns, gs, ys, rs, en⟩ rs.length
                · have HR : Hid (M.chkN ⟨nm, ns, gs, ys, rs, en⟩ = 6) := by show _ = _; simp only [M.chkN, M.rangesB, M.thereB, M.placesB, ← HL.out, e1, e2, e3, e4, e5, e6, e7, e8]; rfl
                  go_enter Try.func50, Try.ntmps50
                  go_wp2_with (first | (go_at_call 72; refine (twice_any L ao' cap' _ HY.out hyl FY.out).mono ?_; rintro e w' ⟨rfl, hb⟩; rw [e6]; have HB := hideC (HB.out.trans (hb.mono HB.out.size)); have BX := hideC (B.below BX.out hb (B.isLt BX.out)); have q0 := B.cell BX.out 0 rfl; have q1 := B.cell BX.out 1 rfl; have q2 := B.cell BX.out 2 rfl; have q3 := B.cell BX.out 3 rfl; have q4 := B.cell BX.out 4 rfl; have q5 := B.cell BX.out 5 rfl; clear hb) | (go_at_call 68; refine (rightNames_any ⟨nm, ns, gs, ys, rs, en⟩ ⟨an, cn, ag, cg, ay, cy, ar, cr⟩ _ (HI.out.below HB.out) HF.out).mono ?_; rintro e w' ⟨rfl, hb⟩; rw [e1]; have HB := hideC (HB.out.trans (hb.mono HB.out.size)); have BX := hideC (B.below BX.out hb (B.isLt BX.out)); have q0 := B.cell BX.out 0 rfl; have q1 := B.cell BX.out 1 rfl; have q2 := B.cell BX.out 2 rfl; have q3 := B.cell BX.out 3 rfl; have q4 := B.cell BX.out 4 rfl; have q5 := B.cell BX.out 5 rfl; clear hb) | (go_at_call 69; refine (rightCounts_any ⟨nm, ns, gs, ys, rs, en⟩ ⟨an, cn, ag, cg, ay, cy, ar, cr⟩ _ HF.out).mono ?_; rintro e w' ⟨rfl, hb⟩; rw [e2]; have HB := hideC (HB.out.trans (hb.mono HB.out.size)); have BX := hideC (B.below BX.out hb (B.isLt BX.out)); have q0 := B.cell BX.out 0 rfl; have q1 := B.cell BX.out 1 rfl; have q2 := B.cell BX.out 2 rfl; have q3 := B.cell BX.out 3 rfl; have q4 := B.cell BX.out 4 rfl; have q5 := B.cell BX.out 5 rfl; clear hb) | (go_at_call 70; refine (rightRanges_any gs ag cg _ (HI.out.below HB.out).segs HF.out.segs HF.out.seg).mono ?_; rintro e w' ⟨rfl, hb⟩; rw [e3]; have HB := hideC (HB.out.trans (hb.mono HB.out.size)); have BX := hideC (B.below BX.out hb (B.isLt BX.out)); have q0 := B.cell BX.out 0 rfl; have q1 := B.cell BX.out 1 rfl; have q2 := B.cell BX.out 2 rfl; have q3 := B.cell BX.out 3 rfl; have q4 := B.cell BX.out 4 rfl; have q5 := B.cell BX.out 5 rfl; clear hb) | (go_at_call 71; refine (overlap_any gs ag cg _ (HI.out.below HB.out).segs HF.out.segs e3).mono ?_; rintro e w' ⟨rfl, hb⟩; rw [e4]; have HB := hideC (HB.out.trans (hb.mono HB.out.size)); have BX := hideC (B.below BX.out hb (B.isLt BX.out)); have q0 := B.cell BX.out 0 rfl; have q1 := B.cell BX.out 1 rfl; have q2 := B.cell BX.out 2 rfl; have q3 := B.cell BX.out 3 rfl; have q4 := B.cell BX.out 4 rfl; have q5 := B.cell BX.out 5 rfl; clear hb) | (go_at_call 72; refine (twice_any ns an cn _ (HI.out.below HB.out).needs HF.out.needs HF.out.need).mono ?_; rintro e w' ⟨rfl, hb⟩; rw [e5]; have HB := hideC (HB.out.trans (hb.mono HB.out.size)); have BX := hideC (B.below BX.out hb (B.isLt BX.out)); have q0 := B.cell BX.out 0 rfl; have q1 := B.cell BX.out 1 rfl; have q2 := B.cell BX.out 2 rfl; have q3 := B.cell BX.out 3 rfl; have q4 := B.cell BX.out 4 rfl; have q5 := B.cell BX.out 5 rfl; clear hb) | (go_at_call 73; refine (symNames_as L ys HL.out ay cy _ (HI.out.below HB.out).syms hy12).mono ?_; rintro e w' ⟨⟨ao', cap', rfl, hh⟩, hb⟩; have HY := hideC hh; clear hh; have HB := hideC (HB.out.trans (hb.mono HB.out.size)); have BX := hideC (B.below BX.out hb (B.isLt BX.out)); have q0 := B.cell BX.out 0 rfl; have q1 := B.cell BX.out 1 rfl; have q2 := B.cell BX.out 2 rfl; have q3 := B.cell BX.out 3 rfl; have q4 := B.cell BX.out 4 rfl; have q5 := B.cell BX.out 5 rfl; clear hb) | (go_at_call 74; refine (symsPlaced_any ⟨nm, ns, gs, ys, rs, en⟩ ⟨an, cn, ag, cg, ay, cy, ar, cr⟩ _ (HI.out.below HB.out) HF.out e3).mono ?_; rintro e w' ⟨rfl, hb⟩; rw [e7]; have HB := hideC (HB.out.trans (hb.mono HB.out.size)); have BX := hideC (B.below BX.out hb (B.isLt BX.out)); have q0 := B.cell BX.out 0 rfl; have q1 := B.cell BX.out 1 rfl; have q2 := B.cell BX.out 2 rfl; have q3 := B.cell BX.out 3 rfl; have q4 := B.cell BX.out 4 rfl; have q5 := B.cell BX.out 5 rfl; clear hb) | (go_at_call 75; refine (relsPlaced_any ⟨nm, ns, gs, ys, rs, en⟩ ⟨an, cn, ag, cg, ay, cy, ar, cr⟩ _ (HI.out.below HB.out) HF.out e3).mono ?_; rintro e w' ⟨rfl, hb⟩; rw [e8]; have HB := hideC (HB.out.trans (hb.mono HB.out.size)); have BX := hideC (B.below BX.out hb (B.isLt BX.out)); have q0 := B.cell BX.out 0 rfl; have q1 := B.cell BX.out 1 rfl; have q2 := B.cell BX.out 2 rfl; have q3 := B.cell BX.out 3 rfl; have q4 := B.cell BX.out 4 rfl; have q5 := B.cell BX.out 5 rfl; clear hb))
                  go_ret
                  exact ⟨ret_i64 HR.out.symm, HB.out⟩
                · skip
                  cases e9 : M.entryB ⟨nm, ns, gs, ys, rs, en⟩
                  · have HR : Hid (M.chkN ⟨nm, ns, gs, ys, rs, en⟩ = 6) := by show _ = _; simp only [M.chkN, M.rangesB, M.thereB, M.placesB, ← HL.out, e1, e2, e3, e4, e5, e6, e7, e8, e9]; rfl
                    go_enter Try.func50, Try.ntmps50
                    go_wp2_with (first | (go_at_call 72; refine (twice_any L ao' cap' _ HY.out hyl FY.out).mono ?_; rintro e w' ⟨rfl, hb⟩; rw [e6]; have HB := hideC (HB.out.trans (hb.mono HB.out.size)); have BX := hideC (B.below BX.out hb (B.isLt BX.out)); have q0 := B.cell BX.out 0 rfl; have q1 := B.cell BX.out 1 rfl; have q2 := B.cell BX.out 2 rfl; have q3 := B.cell BX.out 3 rfl; have q4 := B.cell BX.out 4 rfl; have q5 := B.cell BX.out 5 rfl; clear hb) | (go_at_call 68; refine (rightNames_any ⟨nm, ns, gs, ys, rs, en⟩ ⟨an, cn, ag, cg, ay, cy, ar, cr⟩ _ (HI.out.below HB.out) HF.out).mono ?_; rintro e w' ⟨rfl, hb⟩; rw [e1]; have HB := hideC (HB.out.trans (hb.mono HB.out.size)); have BX := hideC (B.below BX.out hb (B.isLt BX.out)); have q0 := B.cell BX.out 0 rfl; have q1 := B.cell BX.out 1 rfl; have q2 := B.cell BX.out 2 rfl; have q3 := B.cell BX.out 3 rfl; have q4 := B.cell BX.out 4 rfl; have q5 := B.cell BX.out 5 rfl; clear hb) | (go_at_call 69; refine (rightCounts_any ⟨nm, ns, gs, ys, rs, en⟩ ⟨an, cn, ag, cg, ay, cy, ar, cr⟩ _ HF.out).mono ?_; rintro e w' ⟨rfl, hb⟩; rw [e2]; have HB := hideC (HB.out.trans (hb.mono HB.out.size)); have BX := hideC (B.below BX.out hb (B.isLt BX.out)); have q0 := B.cell BX.out 0 rfl; have q1 := B.cell BX.out 1 rfl; have q2 := B.cell BX.out 2 rfl; have q3 := B.cell BX.out 3 rfl; have q4 := B.cell BX.out 4 rfl; have q5 := B.cell BX.out 5 rfl; clear hb) | (go_at_call 70; refine (rightRanges_any gs ag cg _ (HI.out.below HB.out).segs HF.out.segs HF.out.seg).mono ?_; rintro e w' ⟨rfl, hb⟩; rw [e3]; have HB := hideC (HB.out.trans (hb.mono HB.out.size)); have BX := hideC (B.below BX.out hb (B.isLt BX.out)); have q0 := B.cell BX.out 0 rfl; have q1 := B.cell BX.out 1 rfl; have q2 := B.cell BX.out 2 rfl; have q3 := B.cell BX.out 3 rfl; have q4 := B.cell BX.out 4 rfl; have q5 := B.cell BX.out 5 rfl; clear hb) | (go_at_call 71; refine (overlap_any gs ag cg _ (HI.out.below HB.out).segs HF.out.segs e3).mono ?_; rintro e w' ⟨rfl, hb⟩; rw [e4]; have HB := hideC (HB.out.trans (hb.mono HB.out.size)); have BX := hideC (B.below BX.out hb (B.isLt BX.out)); have q0 := B.cell BX.out 0 rfl; have q1 := B.cell BX.out 1 rfl; have q2 := B.cell BX.out 2 rfl; have q3 := B.cell BX.out 3 rfl; have q4 := B.cell BX.out 4 rfl; have q5 := B.cell BX.out 5 rfl; clear hb) | (go_at_call 72; refine (twice_any ns an cn _ (HI.out.below HB.out).needs HF.out.needs HF.out.need).mono ?_; rintro e w' ⟨rfl, hb⟩; rw [e5]; have HB := hideC (HB.out.trans (hb.mono HB.out.size)); have BX := hideC (B.below BX.out hb (B.isLt BX.out)); have q0 := B.cell BX.out 0 rfl; have q1 := B.cell BX.out 1 rfl; have q2 := B.cell BX.out 2 rfl; have q3 := B.cell BX.out 3 rfl; have q4 := B.cell BX.out 4 rfl; have q5 := B.cell BX.out 5 rfl; clear hb) | (go_at_call 73; refine (symNames_as L ys HL.out ay cy _ (HI.out.below HB.out).syms hy12).mono ?_; rintro e w' ⟨⟨ao', cap', rfl, hh⟩, hb⟩; have HY := hideC hh; clear hh; have HB := hideC (HB.out.trans (hb.mono HB.out.size)); have BX := hideC (B.below BX.out hb (B.isLt BX.out)); have q0 := B.cell BX.out 0 rfl; have q1 := B.cell BX.out 1 rfl; have q2 := B.cell BX.out 2 rfl; have q3 := B.cell BX.out 3 rfl; have q4 := B.cell BX.out 4 rfl; have q5 := B.cell BX.out 5 rfl; clear hb) | (go_at_call 74; refine (symsPlaced_any ⟨nm, ns, gs, ys, rs, en⟩ ⟨an, cn, ag, cg, ay, cy, ar, cr⟩ _ (HI.out.below HB.out) HF.out e3).mono ?_; rintro e w' ⟨rfl, hb⟩; rw [e7]; have HB := hideC (HB.out.trans (hb.mono HB.out.size)); have BX := hideC (B.below BX.out hb (B.isLt BX.out)); have q0 := B.cell BX.out 0 rfl; have q1 := B.cell BX.out 1 rfl; have q2 := B.cell BX.out 2 rfl; have q3 := B.cell BX.out 3 rfl; have q4 := B.cell BX.out 4 rfl; have q5 := B.cell BX.out 5 rfl; clear hb) | (go_at_call 75; refine (relsPlaced_any ⟨nm, ns, gs, ys, rs, en⟩ ⟨an, cn, ag, cg, ay, cy, ar, cr⟩ _ (HI.out.below HB.out) HF.out e3).mono ?_; rintro e w' ⟨rfl, hb⟩; rw [e8]; have HB := hideC (HB.out.trans (hb.mono HB.out.size)); have BX := hideC (B.below BX.out hb (B.isLt BX.out)); have q0 := B.cell BX.out 0 rfl; have q1 := B.cell BX.out 1 rfl; have q2 := B.cell BX.out 2 rfl; have q3 := B.cell BX.out 3 rfl; have q4 := B.cell BX.out 4 rfl; have q5 := B.cell BX.out 5 rfl; clear hb) | (go_at_call 76; refine (entryPlaced_any ⟨nm, ns, gs, ys, rs, en⟩ ⟨an, cn, ag, cg, ay, cy, ar, cr⟩ _ (HI.out.below HB.out) HF.out e3).mono ?_; rintro e w' ⟨rfl, hb⟩; rw [e9]; have HB := hideC (HB.out.trans (hb.mono HB.out.size)); have BX := hideC (B.below BX.out hb (B.isLt BX.out)); have q0 := B.cell BX.out 0 rfl; have q1 := B.cell BX.out 1 rfl; have q2 := B.cell BX.out 2 rfl; have q3 := B.cell BX.out 3 rfl; have q4 := B.cell BX.out 4 rfl; have q5 := B.cell BX.out 5 rfl; clear hb))
                    go_ret
                    exact ⟨ret_i64 HR.out.symm, HB.out⟩
                  · skip
                    have HR : Hid (M.chkN ⟨nm, ns, gs, ys, rs, en⟩ = 0) := by show _ = _; simp only [M.chkN, M.rangesB, M.thereB, M.placesB, ← HL.out, e1, e2, e3, e4, e5, e6, e7, e8, e9]; rfl
                    go_enter Try.func50, Try.ntmps50
                    go_wp2_with (first | (go_at_call 72; refine (twice_any L ao' cap' _ HY.out hyl FY.out).mono ?_; rintro e w' ⟨rfl, hb⟩; rw [e6]; have HB := hideC (HB.out.trans (hb.mono HB.out.size)); have BX := hideC (B.below BX.out hb (B.isLt BX.out)); have q0 := B.cell BX.out 0 rfl; have q1 := B.cell BX.out 1 rfl; have q2 := B.cell BX.out 2 rfl; have q3 := B.cell BX.out 3 rfl; have q4 := B.cell BX.out 4 rfl; have q5 := B.cell BX.out 5 rfl; clear hb) | (go_at_call 68; refine (rightNames_any ⟨nm, ns, gs, ys, rs, en⟩ ⟨an, cn, ag, cg, ay, cy, ar, cr⟩ _ (HI.out.below HB.out) HF.out).mono ?_; rintro e w' ⟨rfl, hb⟩; rw [e1]; have HB := hideC (HB.out.trans (hb.mono HB.out.size)); have BX := hideC (B.below BX.out hb (B.isLt BX.out)); have q0 := B.cell BX.out 0 rfl; have q1 := B.cell BX.out 1 rfl; have q2 := B.cell BX.out 2 rfl; have q3 := B.cell BX.out 3 rfl; have q4 := B.cell BX.out 4 rfl; have q5 := B.cell BX.out 5 rfl; clear hb) | (go_at_call 69; refine (rightCounts_any ⟨nm, ns, gs, ys, rs, en⟩ ⟨an, cn, ag, cg, ay, cy, ar, cr⟩ _ HF.out).mono ?_; rintro e w' ⟨rfl, hb⟩; rw [e2]; have HB := hideC (HB.out.trans (hb.mono HB.out.size)); have BX := hideC (B.below BX.out hb (B.isLt BX.out)); have q0 := B.cell BX.out 0 rfl; have q1 := B.cell BX.out 1 rfl; have q2 := B.cell BX.out 2 rfl; have q3 := B.cell BX.out 3 rfl; have q4 := B.cell BX.out 4 rfl; have q5 := B.cell BX.out 5 rfl; clear hb) | (go_at_call 70; refine (rightRanges_any gs ag cg _ (HI.out.below HB.out).segs HF.out.segs HF.out.seg).mono ?_; rintro e w' ⟨rfl, hb⟩; rw [e3]; have HB := hideC (HB.out.trans (hb.mono HB.out.size)); have BX := hideC (B.below BX.out hb (B.isLt BX.out)); have q0 := B.cell BX.out 0 rfl; have q1 := B.cell BX.out 1 rfl; have q2 := B.cell BX.out 2 rfl; have q3 := B.cell BX.out 3 rfl; have q4 := B.cell BX.out 4 rfl; have q5 := B.cell BX.out 5 rfl; clear hb) | (go_at_call 71; refine (overlap_any gs ag cg _ (HI.out.below HB.out).segs HF.out.segs e3).mono ?_; rintro e w' ⟨rfl, hb⟩; rw [e4]; have HB := hideC (HB.out.trans (hb.mono HB.out.size)); have BX := hideC (B.below BX.out hb (B.isLt BX.out)); have q0 := B.cell BX.out 0 rfl; have q1 := B.cell BX.out 1 rfl; have q2 := B.cell BX.out 2 rfl; have q3 := B.cell BX.out 3 rfl; have q4 := B.cell BX.out 4 rfl; have q5 := B.cell BX.out 5 rfl; clear hb) | (go_at_call 72; refine (twice_any ns an cn _ (HI.out.below HB.out).needs HF.out.needs HF.out.need).mono ?_; rintro e w' ⟨rfl, hb⟩; rw [e5]; have HB := hideC (HB.out.trans (hb.mono HB.out.size)); have BX := hideC (B.below BX.out hb (B.isLt BX.out)); have q0 := B.cell BX.out 0 rfl; have q1 := B.cell BX.out 1 rfl; have q2 := B.cell BX.out 2 rfl; have q3 := B.cell BX.out 3 rfl; have q4 := B.cell BX.out 4 rfl; have q5 := B.cell BX.out 5 rfl; clear hb) | (go_at_call 73; refine (symNames_as L ys HL.out ay cy _ (HI.out.below HB.out).syms hy12).mono ?_; rintro e w' ⟨⟨ao', cap', rfl, hh⟩, hb⟩; have HY := hideC hh; clear hh; have HB := hideC (HB.out.trans (hb.mono HB.out.size)); have BX := hideC (B.below BX.out hb (B.isLt BX.out)); have q0 := B.cell BX.out 0 rfl; have q1 := B.cell BX.out 1 rfl; have q2 := B.cell BX.out 2 rfl; have q3 := B.cell BX.out 3 rfl; have q4 := B.cell BX.out 4 rfl; have q5 := B.cell BX.out 5 rfl; clear hb) | (go_at_call 74; refine (symsPlaced_any ⟨nm, ns, gs, ys, rs, en⟩ ⟨an, cn, ag, cg, ay, cy, ar, cr⟩ _ (HI.out.below HB.out) HF.out e3).mono ?_; rintro e w' ⟨rfl, hb⟩; rw [e7]; have HB := hideC (HB.out.trans (hb.mono HB.out.size)); have BX := hideC (B.below BX.out hb (B.isLt BX.out)); have q0 := B.cell BX.out 0 rfl; have q1 := B.cell BX.out 1 rfl; have q2 := B.cell BX.out 2 rfl; have q3 := B.cell BX.out 3 rfl; have q4 := B.cell BX.out 4 rfl; have q5 := B.cell BX.out 5 rfl; clear hb) | (go_at_call 75; refine (relsPlaced_any ⟨nm, ns, gs, ys, rs, en⟩ ⟨an, cn, ag, cg, ay, cy, ar, cr⟩ _ (HI.out.below HB.out) HF.out e3).mono ?_; rintro e w' ⟨rfl, hb⟩; rw [e8]; have HB := hideC (HB.out.trans (hb.mono HB.out.size)); have BX := hideC (B.below BX.out hb (B.isLt BX.out)); have q0 := B.cell BX.out 0 rfl; have q1 := B.cell BX.out 1 rfl; have q2 := B.cell BX.out 2 rfl; have q3 := B.cell BX.out 3 rfl; have q4 := B.cell BX.out 4 rfl; have q5 := B.cell BX.out 5 rfl; clear hb) | (go_at_call 76; refine (entryPlaced_any ⟨nm, ns, gs, ys, rs, en⟩ ⟨an, cn, ag, cg, ay, cy, ar, cr⟩ _ (HI.out.below HB.out) HF.out e3).mono ?_; rintro e w' ⟨rfl, hb⟩; rw [e9]; have HB := hideC (HB.out.trans (hb.mono HB.out.size)); have BX := hideC (B.below BX.out hb (B.isLt BX.out)); have q0 := B.cell BX.out 0 rfl; have q1 := B.cell BX.out 1 rfl; have q2 := B.cell BX.out 2 rfl; have q3 := B.cell BX.out 3 rfl; have q4 := B.cell BX.out 4 rfl; have q5 := B.cell BX.out 5 rfl; clear hb))
                    go_ret
                    exact ⟨ret_i64 HR.out.symm, HB.out⟩
end Go.Proofs.Yteieplodndfbhaa.W
/- The linker: images by their names. -/
namespace Go.Proofs.Yteieplodndfbhaa.LW
open Go.RowKit Go.WideMaps Go.Maps
open Go.Proofs.Yteieplodndfbhaa.W (hideC)
set_option linter.unusedVariables false
set_option maxRecDepth 100000

theorem zeroImg (w : World) : (zeroValue 27).run Try.prog w = .ok LM.zImg w := by kernel_rfl
/-- how byName ends -/
def OutB (l : List LM.Li) (w : World) (e : Ending) (w' : World) : Prop := Below w.heap.size w w' ∧
  if LM.byErr l = 0 then ∃ m D, e = .returned (.tuple #[.map (some m), .int .i64 0]) ∧ w'.ownsMap Try.prog 9 LM.Rv m l.length D ∧ LM.Nm l l.length D
  else e = .returned (.tuple #[.map none, .int .i64 (LM.byErr l)])

set_option maxHeartbeats 3000000 in
theorem byName_any (l : List LM.Li) (ao : Option Addr) (cap : Nat) (w : World) (h : LM.HasI w ao l) (hf : LM.FitI l) : Calls Try.prog 18 #[.slice ao l.length cap] w (OutB l w) := by
  have HH := hideC h
  have HF := hideC hf
  have hn : l.length ≤ 140737488351232 := hf.1
  clear h hf
  have hmm := @run_makeMap Try.prog
  go_enter Try.func18, Try.ntmps18
  go_wp2
  go_loopw [12] (fun i wr => ∃ k : Nat, k ≤ l.length ∧ i = .int .i64 k ∧ LM.errTo l k = 0 ∧ Below w.heap.size w wr) (fun i _ => l.length - (intOf i).toNat)
  case atStart => exact ⟨0, by omega, rfl, rfl, Below.refl _ _⟩
  case round =>
    obtain ⟨k, hk, rfl, hz, hb⟩ := hrel
    have HZ := hideC hz
    have HBr := hideC hb
    clear hz
    by_cases hlt : k < l.length
    · obtain ⟨b, off, hao, hbl, hlie⟩ := (HH.out.below hb) (by omega)
      subst hao
      obtain ⟨⟨c0, c1, c2, c3, c4, c5⟩, hi⟩ := hlie k hlt
      have hfk := HF.out.2 k hlt
      have HE : Hid (LM.errTo l (k + 1) = M.chkN (LM.liAt l k).i) := by
        show _ = _
        simp only [LM.errTo]
        rw [if_pos HZ.out]
      have HBY : Hid (M.chkN (LM.liAt l k).i ≠ 0 → LM.byErr l = M.chkN (LM.liAt l k).i) := fun g => by
        have e1 : LM.errTo l (k + 1) ≠ 0 := by rw [HE.out]; exact g
        have e2 := LM.errTo_stays l (k + 1) e1 l.length (by omega)
        unfold LM.byErr
        rw [e2, if_neg e1, HE.out]
      obtain ⟨x, hx⟩ : ∃ x, x = LM.liAt l k := ⟨_, rfl⟩
      rw [← hx] at c0 c1 c2 c3 c4 c5 hi hfk HE HBY
      clear hx hlie hb
      obtain ⟨⟨nm, ns, gs, ys, rs, en⟩, ⟨an, cn, ag, cg, ay, cy, ar, cr⟩⟩ := x
      simp only at c0 c1 c2 c3 c4 c5
      have HBA := hideC (HBr.out.alloc HBr.out.size (.cells #[.string nm, .slice an ns.length cn, .slice ag gs.length cg, .slice ay ys.length cy, .slice ar rs.length cr, .int .i64 en] 27))
      have HC : Hid (∀ W, Below wr.heap.size wr W → Calls Try.prog 50 #[.agg #[.string nm, .slice an ns.length cn, .slice ag gs.length cg, .slice ay ys.length cy, .slice ar rs.length cr, .int .i64 en]] W fun e w' => e = .returned (.int .i64 (M.chkN ⟨nm, ns, gs, ys, rs, en⟩)) ∧ Below W.heap.size W w') := fun V hb => W.check_any ⟨nm, ns, gs, ys, rs, en⟩ ⟨an, cn, ag, cg, ay, cy, ar, cr⟩ V (hi.below hb) hfk
      clear hi hfk
      obtain ⟨c, hc⟩ : ∃ c, c = M.chkN ⟨nm, ns, gs, ys, rs, en⟩ := ⟨_, rfl⟩
      simp only at HE HBY
      rw [← hc] at HC HE HBY
      clear hc
      by_cases hcz : c = 0
      · subst hcz
        clear HBY
        go_wp2_with (go_at_call 50; refine (HC.out _ ((Below.refl _ _).alloc (Nat.le_refl _) _)).mono ?_; rintro e w1 ⟨rfl, hb⟩; have HBA := hideC (HBA.out.trans (hb.mono HBA.out.size)); clear hb)
        go_roundw
        case rel => exact ⟨k + 1, by omega, by go_num, HE.out, HBA.out⟩
        case measure => simp [intOf]; omega
      · have HBE := hideC (HBY.out hcz)
        have hcz' : (c == 0) = false := by simpa using hcz
        clear HBY HE
        go_wp2_with (go_at_call 50; refine (HC.out _ ((Below.refl _ _).alloc (Nat.le_refl _) _)).mono ?_; rintro e w1 ⟨rfl, hb⟩; have HBA := hideC (HBA.out.trans (hb.mono HBA.out.size)); clear hb)
        go_ret2
        refine ⟨HBA.out, ?_⟩
        rw [HBE.out, if_neg hcz]
        rfl
    · obtain rfl : k = l.length := by omega
      clear hb
      obtain ⟨m, hm⟩ : ∃ m, m = wr.heap.size := ⟨_, rfl⟩
      have hsm : w.heap.size ≤ m := by rw [hm]; exact HBr.out.size
      have HM0 : Hid ((wr.alloc (.map #[] 0)).ownsMap Try.prog 9 LM.Rv m 0 (.map [])) := by
        rw [hm]
        exact World.ownsMap_made _ _ _ _
      have HM := hideC hm
      clear hm
      go_wp2
      rw [← HM.out]
      go_loopw [25] (fun i wi => ∃ (k : Nat) (D : DataW Value), k ≤ l.length ∧ i = .int .i64 k ∧ wi.ownsMap Try.prog 9 LM.Rv m k D ∧ LM.Nm l k D ∧ Below w.heap.size w wi) (fun i _ => l.length - (intOf i).toNat)
      case atStart => exact ⟨0, .map [], Nat.zero_le _, rfl, HM0.out, LM.nm_zero l, HBr.out.alloc HBr.out.size _⟩
      case round =>
        obtain ⟨k, D, hk, rfl, hown, hnm, hb⟩ := hrel
        have HW := hideC hown
        have HN := hideC hnm
        have HBi := hideC hb
        by_cases hlt : k < l.length
        · obtain ⟨b, off, hao, hbl, hlie⟩ := (HH.out.below hb) (by omega)
          subst hao
          obtain ⟨⟨c0, c1, c2, c3, c4, c5⟩, hi⟩ := hlie k hlt
          have hfk := (HF.out.2 k hlt).name
          have HNS := hideC (LM.nm_step hlt hown.isMap (hown.tidy W.law) hnm)
          obtain ⟨x, hx⟩ : ∃ x, x = LM.liAt l k := ⟨_, rfl⟩
          rw [← hx] at c0 c1 c2 c3 c4 c5 hfk HNS
          clear hx hlie hb hi hown hnm
          obtain ⟨⟨nm, ns, gs, ys, rs, en⟩, ⟨an, cn, ag, cg, ay, cy, ar, cr⟩⟩ := x
          simp only at c0 c1 c2 c3 c4 c5 hfk
          have hkey := W.keyS_ok hfk
          have hkm : k < maxLen := by unfold maxLen; omega
          have HBA := hideC (HBi.out.alloc HBi.out.size (.cells #[.string nm, .slice an ns.length cn, .slice ag gs.length cg, .slice ay ys.length cy, .slice ar rs.length cr, .int .i64 en] 27))
          have HWA := hideC (HW.out.alloc (.cells #[.string nm, .slice an ns.length cn, .slice ag gs.length cg, .slice ay ys.length cy, .slice ar rs.length cr, .int .i64 en] 27))
          go_wp2_with (first | (at_mapUpdate; refine wpList_mapUpdate_own _ rfl _ _ _ 52 rfl 9 27 W.law Try.underlying52 LM.Rv m k D rfl HWA.out hkm _ _ _ rfl rfl hkey _ [] rfl ?_; intro w1 hown1 hgrow1; have HW1 := hideC hown1; have HB1 := hideC (HBA.out.grown hgrow1 HBA.out.size (fun j hj => by cases hj; exact hsm)); clear hown1 hgrow1) | go_in)
          go_roundw
          case rel => exact ⟨k + 1, _, by omega, by go_num, HW1.out, HNS.out, HB1.out⟩
          case measure => simp [intOf]; omega
        · obtain rfl : k = l.length := by omega
          have hlen := hown.len Try.underlying52 3
          have HE0 := hideC HZ.out
          by_cases ho : M.onceTo (LM.namesL l) l.length = true
          · have hsz := hnm.all.2 ho
            have HBE : Hid (LM.byErr l = 0) := by
              show _ = _
              unfold LM.byErr M.onceB
              rw [if_pos HE0.out, LM.namesL_length, ho]
              rfl
            rw [hsz] at hlen
            clear hown hnm hb hsz ho
            go_wp2
            go_ret2
            refine ⟨HBi.out, ?_⟩
            rw [HBE.out, if_pos rfl]
            exact ⟨_, D, rfl, HW.out, HN.out⟩
          · have hsz : Maps.size D < l.length := by
              have h1 := hnm.le
              have h2 := hnm.all
              rcases Nat.lt_or_ge (Maps.size D) l.length with g | g
              · exact g
              · exact (ho (h2.1 (by omega))).elim
            have HBE : Hid (LM.byErr l = 5) := by
              show _ = _
              unfold LM.byErr M.onceB
              rw [if_pos HE0.out, LM.namesL_length, if_neg ho]
            obtain ⟨z, hz⟩ : ∃ z, z = Maps.size D := ⟨_, rfl⟩
            rw [← hz] at hlen hsz
            have hsz' : (z : Int) < (l.length : Int) := by omega
            clear hown hnm hb ho hz
            go_wp2
            go_ret2
            refine ⟨HBi.out, ?_⟩
            rw [HBE.out, if_neg (by decide)]
            rfl
end Go.Proofs.Yteieplodndfbhaa.LW
