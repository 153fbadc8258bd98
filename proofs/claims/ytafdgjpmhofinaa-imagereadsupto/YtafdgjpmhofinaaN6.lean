import Derived.Test.YtafdgjpmhofinaaN5
namespace Go.Proofs.Ytafdgjpmhofinaa.W
open Go.RowKit
set_option linter.unusedVariables false

/-- what Write answers: the bytes -/
def writeN (i : M.Im) : ByteArray := if M.chkN i = 0 then ⟨(bytesL i).toArray⟩ else ⟨#[]⟩
theorem ret_write {s t : ByteArray} {a b : Int} (h : s = t) (g : a = b) : Ending.returned (.tuple #[.string s, .int .i64 a]) = .returned (.tuple #[.string t, .int .i64 b]) := by rw [h, g]

set_option maxRecDepth 100000 in
set_option maxHeartbeats 1500000 in
theorem write_any (i : M.Im) (a : M.At) (w : World) (h : M.HasIm w a i) (hf : M.Fit i) :
    Calls Try.prog 6 #[.agg (M.cellsI a i)] w fun e w' => e = .returned (.tuple #[.string (writeN i), .int .i64 (M.chkN i)]) ∧ Below w.heap.size w w' := by
  have HNE := hideC (bytesL_ne i)
  have HSM := hideC (@chk_small i)
  have HCK : Hid (∀ W, Below w.heap.size w W → Calls Try.prog 10 #[.agg (M.cellsI a i)] W fun e w' => e = .returned (.int .i64 (M.chkN i)) ∧ Below W.heap.size W w') := fun W hb => check_any i a W (h.below hb) hf
  have HQM : Hid (∀ (W : World) (p : Nat), Below w.heap.size w W → w.heap.size ≤ p → Small i → Pen 44 p W none [] → Calls Try.prog 14 #[.pointer (some ⟨p, 0, none⟩), .agg (M.cellsI a i)] W fun e w' => e = .returned (.tuple #[]) ∧ ∃ r, Pen 44 p w' r (bytesL i) ∧ Below p W w') := fun W p hb hp hs hpen => image_any i a w W p h hs hb hp hpen
  have hw0 : M.chkN i ≠ 0 → writeN i = ⟨#[]⟩ := fun h => if_neg h
  have hw1 : M.chkN i = 0 → writeN i = ⟨(bytesL i).toArray⟩ := fun h => if_pos h
  have HW0 := hideC hw0
  have HW1 := hideC hw1
  clear h hf hw0 hw1
  obtain ⟨BL, hBL⟩ : ∃ BL, BL = bytesL i := ⟨_, rfl⟩
  rw [← hBL] at HNE HQM HW1
  clear hBL
  obtain ⟨C, hC⟩ : ∃ C, C = M.chkN i := ⟨_, rfl⟩
  rw [← hC] at HCK HW0 HW1 HSM
  rw [← hC]
  clear hC
  obtain ⟨an, cn, ag, cg, ay, cy, ar, cr⟩ := a
  obtain ⟨nm, ns, gs, ys, rs, en⟩ := i
  obtain ⟨WN, hWN⟩ : ∃ WN, WN = writeN ⟨nm, ns, gs, ys, rs, en⟩ := ⟨_, rfl⟩
  rw [← hWN] at HW0 HW1
  rw [← hWN]
  clear hWN
  simp only [M.cellsI] at *
  have HB := hideC ((Below.refl w.heap.size w).alloc (Nat.le_refl _) (.cells #[.string nm, .slice an ns.length cn, .slice ag gs.length cg, .slice ay ys.length cy, .slice ar rs.length cr, .int .i64 en] 27))
  have BX := hideC (B.new w #[.string nm, .slice an ns.length cn, .slice ag gs.length cg, .slice ay ys.length cy, .slice ar rs.length cr, .int .i64 en] 27)
  obtain ⟨X, hX⟩ : ∃ X : Array Value, X = #[.string nm, .slice an ns.length cn, .slice ag gs.length cg, .slice ay ys.length cy, .slice ar rs.length cr, .int .i64 en] := ⟨_, rfl⟩
  have HX := hideC hX
  rw [← hX] at BX HB HCK HQM
  clear hX
  by_cases hc : C = 0
  · subst hc
    have HS := hideC (HSM.out rfl)
    have HWR := hideC (HW1.out rfl)
    clear HSM
    go_enter Try.func6, Try.ntmps6
    go_wp2_with (first | (rw [← HX.out]; go_at_call 10; refine (HCK.out _ HB.out).mono ?_; rintro e w' ⟨rfl, hb⟩; have HB := hideC (HB.out.trans (hb.mono HB.out.size)); have BX := hideC (B.below BX.out hb (B.isLt BX.out)); have hbs := HB.out.size; have hbb := B.isLt BX.out; have q0 := B.cell BX.out 0 (by rw [HX.out]; rfl); have q1 := B.cell BX.out 1 (by rw [HX.out]; rfl); have q2 := B.cell BX.out 2 (by rw [HX.out]; rfl); have q3 := B.cell BX.out 3 (by rw [HX.out]; rfl); have q4 := B.cell BX.out 4 (by rw [HX.out]; rfl); have q5 := B.cell BX.out 5 (by rw [HX.out]; rfl); clear hb) | (go_at_call 14; rw [← HX.out]; refine (HQM.out (w'.alloc (.cells #[.slice none 0 0] 44)) w'.heap.size (HB.out.alloc HB.out.size _) HB.out.size HS.out ⟨_, B.new w' #[.slice none 0 0] 44, rfl, World.ownsRow_nil _ _ _ _⟩).mono ?_; rintro e w2 ⟨rfl, r2, hp2, hb2⟩; have HB := hideC ((HB.out.alloc HB.out.size _).trans (hb2.mono HB.out.size)); obtain ⟨ao, m, c, hpv, hcv⟩ := pen_string hp2 HNE.out; have pv := B.cell hpv 0 rfl; clear hp2 hb2 hpv))
    go_ret2
    exact ⟨ret_write HWR.out.symm rfl, HB.out⟩
  · clear HSM
    have hc' : (C != 0) = true := by simpa using hc
    go_enter Try.func6, Try.ntmps6
    go_wp2_with (rw [← HX.out]; go_at_call 10; refine (HCK.out _ HB.out).mono ?_; rintro e w' ⟨rfl, hb⟩; have HB := hideC (HB.out.trans (hb.mono HB.out.size)); have BX := hideC (B.below BX.out hb (B.isLt BX.out)); have hbs := HB.out.size; have hbb := B.isLt BX.out; have q0 := B.cell BX.out 0 (by rw [HX.out]; rfl); have q1 := B.cell BX.out 1 (by rw [HX.out]; rfl); have q2 := B.cell BX.out 2 (by rw [HX.out]; rfl); have q3 := B.cell BX.out 3 (by rw [HX.out]; rfl); have q4 := B.cell BX.out 4 (by rw [HX.out]; rfl); have q5 := B.cell BX.out 5 (by rw [HX.out]; rfl); clear hb)
    go_ret2
    exact ⟨ret_write (HW0.out hc).symm rfl, HB.out⟩
end Go.Proofs.Ytafdgjpmhofinaa.W
