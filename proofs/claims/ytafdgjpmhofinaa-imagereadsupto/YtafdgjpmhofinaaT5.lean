import Derived.Test.YtafdgjpmhofinaaT4
import Derived.Test.YtafdgjpmhofinaaR4
namespace Go.Proofs.Ytafdgjpmhofinaa.W
open Go.RowKit
set_option linter.unusedVariables false

set_option maxRecDepth 100000 in
set_option maxHeartbeats 2000000 in
theorem imageWrites_any (i : M.Im) (a : M.At) (w : World) (h : M.HasIm w a i) (hf : M.Fit i) : Calls Try.prog 3 #[.agg (M.cellsI a i)] w fun e w' => e = .returned (.bool true) ∧ Below w.heap.size w w' := by
  have HWR : Hid (∀ W, Below w.heap.size w W → Calls Try.prog 6 #[.agg (M.cellsI a i)] W fun e w' => e = .returned (.tuple #[.string (writeN i), .int .i64 (M.chkN i)]) ∧ Below W.heap.size W w') := fun W hb => write_any i a W (h.below hb) hf
  have HCI : Hid (∀ W, Below w.heap.size w W → Calls Try.prog 7 #[.agg (M.cellsI a i)] W fun e w' => e = .returned (.int .i64 (M.chkN i)) ∧ Below W.heap.size W w') := fun W hb => checkImage_any i a W (h.below hb) hf
  have HCK : Hid (∀ W, Below w.heap.size w W → Calls Try.prog 10 #[.agg (M.cellsI a i)] W fun e w' => e = .returned (.int .i64 (M.chkN i)) ∧ Below W.heap.size W w') := fun W hb => check_any i a W (h.below hb) hf
  have HIB : Hid (M.chkN i = 0 → ∀ W, Below w.heap.size w W → Calls Try.prog 8 #[.agg (M.cellsI a i)] W fun e w' => e = .returned (.string (writeN i)) ∧ Below W.heap.size W w') := fun hc W hb => by
    have := imageBytes_any i a W (h.below hb) (chk_small hc)
    rw [← write_ok hc] at this
    exact this
  have HW0 : Hid (M.chkN i ≠ 0 → writeN i = ⟨#[]⟩) := fun h => if_neg h
  clear h hf
  obtain ⟨S, hS⟩ : ∃ S, S = writeN i := ⟨_, rfl⟩
  rw [← hS] at HWR HIB HW0
  clear hS
  obtain ⟨C, hC⟩ : ∃ C, C = M.chkN i := ⟨_, rfl⟩
  rw [← hC] at HWR HCI HCK HIB HW0
  clear hC
  obtain ⟨an, cn, ag, cg, ay, cy, ar, cr⟩ := a
  obtain ⟨nm, ns, gs, ys, rs, en⟩ := i
  simp only [M.cellsI] at *
  have HB := hideC ((Below.refl w.heap.size w).alloc (Nat.le_refl _) (.cells #[.string nm, .slice an ns.length cn, .slice ag gs.length cg, .slice ay ys.length cy, .slice ar rs.length cr, .int .i64 en] 27))
  have BX := hideC (B.new w #[.string nm, .slice an ns.length cn, .slice ag gs.length cg, .slice ay ys.length cy, .slice ar rs.length cr, .int .i64 en] 27)
  obtain ⟨X, hX⟩ : ∃ X : Array Value, X = #[.string nm, .slice an ns.length cn, .slice ag gs.length cg, .slice ay ys.length cy, .slice ar rs.length cr, .int .i64 en] := ⟨_, rfl⟩
  have HX := hideC hX
  rw [← hX] at BX HB HWR HCI HCK HIB
  clear hX
  by_cases hc : C = 0
  · subst hc
    have HIC := hideC (HIB.out rfl)
    clear HW0 HIB
    go_enter Try.func3, Try.ntmps3
    go_wp2_with (first | (go_at_call 6; rw [← HX.out]; refine (HWR.out _ HB.out).mono ?_; rintro e w' ⟨rfl, hb⟩; have HB := hideC (HB.out.trans (hb.mono HB.out.size)); have BX := hideC (B.below BX.out hb (B.isLt BX.out)); have q0 := B.cell BX.out 0 (by rw [HX.out]; rfl); have q1 := B.cell BX.out 1 (by rw [HX.out]; rfl); have q2 := B.cell BX.out 2 (by rw [HX.out]; rfl); have q3 := B.cell BX.out 3 (by rw [HX.out]; rfl); have q4 := B.cell BX.out 4 (by rw [HX.out]; rfl); have q5 := B.cell BX.out 5 (by rw [HX.out]; rfl); clear hb) | (go_at_call 7; rw [← HX.out]; refine (HCI.out _ HB.out).mono ?_; rintro e w' ⟨rfl, hb⟩; have HB := hideC (HB.out.trans (hb.mono HB.out.size)); have BX := hideC (B.below BX.out hb (B.isLt BX.out)); have q0 := B.cell BX.out 0 (by rw [HX.out]; rfl); have q1 := B.cell BX.out 1 (by rw [HX.out]; rfl); have q2 := B.cell BX.out 2 (by rw [HX.out]; rfl); have q3 := B.cell BX.out 3 (by rw [HX.out]; rfl); have q4 := B.cell BX.out 4 (by rw [HX.out]; rfl); have q5 := B.cell BX.out 5 (by rw [HX.out]; rfl); clear hb) | (go_at_call 8; rw [← HX.out]; refine (HIC.out _ HB.out).mono ?_; rintro e w' ⟨rfl, hb⟩; have HB := hideC (HB.out.trans (hb.mono HB.out.size)); have BX := hideC (B.below BX.out hb (B.isLt BX.out)); have q0 := B.cell BX.out 0 (by rw [HX.out]; rfl); have q1 := B.cell BX.out 1 (by rw [HX.out]; rfl); have q2 := B.cell BX.out 2 (by rw [HX.out]; rfl); have q3 := B.cell BX.out 3 (by rw [HX.out]; rfl); have q4 := B.cell BX.out 4 (by rw [HX.out]; rfl); have q5 := B.cell BX.out 5 (by rw [HX.out]; rfl); clear hb) | (go_at_call 9; refine (begun _).mono ?_; rintro e w' ⟨rfl, hb⟩; have HB := hideC (HB.out.trans (hb.mono HB.out.size)); have BX := hideC (B.below BX.out hb (B.isLt BX.out)); have q0 := B.cell BX.out 0 (by rw [HX.out]; rfl); have q1 := B.cell BX.out 1 (by rw [HX.out]; rfl); have q2 := B.cell BX.out 2 (by rw [HX.out]; rfl); have q3 := B.cell BX.out 3 (by rw [HX.out]; rfl); have q4 := B.cell BX.out 4 (by rw [HX.out]; rfl); have q5 := B.cell BX.out 5 (by rw [HX.out]; rfl); clear hb) | (go_at_call 10; rw [← HX.out]; refine (HCK.out _ HB.out).mono ?_; rintro e w' ⟨rfl, hb⟩; have HB := hideC (HB.out.trans (hb.mono HB.out.size)); have BX := hideC (B.below BX.out hb (B.isLt BX.out)); have q0 := B.cell BX.out 0 (by rw [HX.out]; rfl); have q1 := B.cell BX.out 1 (by rw [HX.out]; rfl); have q2 := B.cell BX.out 2 (by rw [HX.out]; rfl); have q3 := B.cell BX.out 3 (by rw [HX.out]; rfl); have q4 := B.cell BX.out 4 (by rw [HX.out]; rfl); have q5 := B.cell BX.out 5 (by rw [HX.out]; rfl); clear hb))
    go_ret
    exact ⟨ret_bool (by simp), HB.out⟩
  · have HE := hideC (HW0.out hc)
    have hc' : (C == 0) = false := by simpa using hc
    obtain rfl : S = ⟨#[]⟩ := HE.out
    clear HIB HW0 HE
    go_enter Try.func3, Try.ntmps3
    go_wp2_with (first | (go_at_call 6; rw [← HX.out]; refine (HWR.out _ HB.out).mono ?_; rintro e w' ⟨rfl, hb⟩; have HB := hideC (HB.out.trans (hb.mono HB.out.size)); have BX := hideC (B.below BX.out hb (B.isLt BX.out)); have q0 := B.cell BX.out 0 (by rw [HX.out]; rfl); have q1 := B.cell BX.out 1 (by rw [HX.out]; rfl); have q2 := B.cell BX.out 2 (by rw [HX.out]; rfl); have q3 := B.cell BX.out 3 (by rw [HX.out]; rfl); have q4 := B.cell BX.out 4 (by rw [HX.out]; rfl); have q5 := B.cell BX.out 5 (by rw [HX.out]; rfl); clear hb) | (go_at_call 7; rw [← HX.out]; refine (HCI.out _ HB.out).mono ?_; rintro e w' ⟨rfl, hb⟩; have HB := hideC (HB.out.trans (hb.mono HB.out.size)); have BX := hideC (B.below BX.out hb (B.isLt BX.out)); have q0 := B.cell BX.out 0 (by rw [HX.out]; rfl); have q1 := B.cell BX.out 1 (by rw [HX.out]; rfl); have q2 := B.cell BX.out 2 (by rw [HX.out]; rfl); have q3 := B.cell BX.out 3 (by rw [HX.out]; rfl); have q4 := B.cell BX.out 4 (by rw [HX.out]; rfl); have q5 := B.cell BX.out 5 (by rw [HX.out]; rfl); clear hb) | (go_at_call 9; refine (begun _).mono ?_; rintro e w' ⟨rfl, hb⟩; have HB := hideC (HB.out.trans (hb.mono HB.out.size)); have BX := hideC (B.below BX.out hb (B.isLt BX.out)); have q0 := B.cell BX.out 0 (by rw [HX.out]; rfl); have q1 := B.cell BX.out 1 (by rw [HX.out]; rfl); have q2 := B.cell BX.out 2 (by rw [HX.out]; rfl); have q3 := B.cell BX.out 3 (by rw [HX.out]; rfl); have q4 := B.cell BX.out 4 (by rw [HX.out]; rfl); have q5 := B.cell BX.out 5 (by rw [HX.out]; rfl); clear hb) | (go_at_call 10; rw [← HX.out]; refine (HCK.out _ HB.out).mono ?_; rintro e w' ⟨rfl, hb⟩; have HB := hideC (HB.out.trans (hb.mono HB.out.size)); have BX := hideC (B.below BX.out hb (B.isLt BX.out)); have q0 := B.cell BX.out 0 (by rw [HX.out]; rfl); have q1 := B.cell BX.out 1 (by rw [HX.out]; rfl); have q2 := B.cell BX.out 2 (by rw [HX.out]; rfl); have q3 := B.cell BX.out 3 (by rw [HX.out]; rfl); have q4 := B.cell BX.out 4 (by rw [HX.out]; rfl); have q5 := B.cell BX.out 5 (by rw [HX.out]; rfl); clear hb))
    go_ret
    exact ⟨ret_bool (by simp), HB.out⟩

set_option maxRecDepth 100000 in
set_option maxHeartbeats 3000000 in
theorem imageBack_any (i : M.Im) (a : M.At) (s : ByteArray) (w : World) (h : M.HasIm w a i) (hf : M.Fit i) (hs : M.Short s.size) : Calls Try.prog 5 #[.agg (M.cellsI a i), .string s] w fun e w' => e = .returned (.bool true) ∧ Below w.heap.size w w' := by
  have HI := hideC h
  have HFI := hideC hf
  have HWR : Hid (∀ W, Below w.heap.size w W → Calls Try.prog 6 #[.agg (M.cellsI a i)] W fun e w' => e = .returned (.tuple #[.string (writeN i), .int .i64 (M.chkN i)]) ∧ Below W.heap.size W w') := fun W hb => write_any i a W (h.below hb) hf
  have HR1 : Hid (M.chkN i = 0 → ∀ W, Calls Try.prog 11 #[.string (writeN i)] W fun e w' => (∃ a, e = .returned (.tuple #[.agg (M.cellsI a i), .int .i64 0]) ∧ M.HasIm w' a i) ∧ Below W.heap.size W w') := fun hc W => read_some W (write_short hc) (read_write hc hf)
  have HRS : Hid (∀ j, readP s.data.toList = some j → M.chkN j = 0 ∧ M.Fit j ∧ writeN j = s) := fun j hj => by
    obtain ⟨h1, h2, h3⟩ := (read_iff _ _).1 hj
    have hl : (bytesL j).length = s.size := by rw [← h3]; exact (Lib.size_eq s).symm
    refine ⟨h1, fit_of h2 (chk_lim h1) (by rw [hl]; exact hs), ?_⟩
    rw [write_ok h1, ← h3]
  clear h hf
  obtain ⟨S, hS⟩ : ∃ S, S = writeN i := ⟨_, rfl⟩
  rw [← hS] at HWR HR1
  clear hS
  obtain ⟨C, hC⟩ : ∃ C, C = M.chkN i := ⟨_, rfl⟩
  rw [← hC] at HWR HR1
  clear hC
  obtain ⟨an, cn, ag, cg, ay, cy, ar, cr⟩ := a
  obtain ⟨nm, ns, gs, ys, rs, en⟩ := i
  simp only [M.cellsI] at HWR
  simp only [M.cellsI]
  have HB := hideC ((Below.refl w.heap.size w).alloc (Nat.le_refl _) (.cells #[.string nm, .slice an ns.length cn, .slice ag gs.length cg, .slice ay ys.length cy, .slice ar rs.length cr, .int .i64 en] 27))
  have BX := hideC (B.new w #[.string nm, .slice an ns.length cn, .slice ag gs.length cg, .slice ay ys.length cy, .slice ar rs.length cr, .int .i64 en] 27)
  obtain ⟨X, hX⟩ : ∃ X : Array Value, X = #[.string nm, .slice an ns.length cn, .slice ag gs.length cg, .slice ay ys.length cy, .slice ar rs.length cr, .int .i64 en] := ⟨_, rfl⟩
  have HX := hideC hX
  rw [← hX] at BX HB HWR
  clear hX
  have hml : s.size ≤ maxLen := by unfold M.Short at hs; unfold maxLen; omega
  by_cases hc : C = 0
  · subst hc
    have HRC := hideC (HR1.out rfl)
    clear HR1
    cases hr : readP s.data.toList with
    | none =>
      go_enter Try.func5, Try.ntmps5
      go_wp2_with (first | (go_at_call 11; have _ := FR; refine (read_no _ hs hr).mono ?_; rintro e w4 ⟨rfl, hb⟩; have HB := hideC (HB.out.trans (hb.mono HB.out.size)); have FN := trivial; clear hb) | (go_at_call 6; rw [← HX.out]; refine (HWR.out _ HB.out).mono ?_; rintro e w' ⟨rfl, hb⟩; have FW := trivial; have HB := hideC (HB.out.trans (hb.mono HB.out.size)); have BX := hideC (B.below BX.out hb (B.isLt BX.out)); have hbx := B.isLt BX.out; have q0 := B.cell BX.out 0 (by rw [HX.out]; rfl); have q1 := B.cell BX.out 1 (by rw [HX.out]; rfl); have q2 := B.cell BX.out 2 (by rw [HX.out]; rfl); have q3 := B.cell BX.out 3 (by rw [HX.out]; rfl); have q4 := B.cell BX.out 4 (by rw [HX.out]; rfl); have q5 := B.cell BX.out 5 (by rw [HX.out]; rfl); clear hb) | (go_at_call 11; refine (HRC.out _).mono ?_; rintro e w2 ⟨⟨a2, rfl, h2⟩, hb⟩; obtain ⟨an2, cn2, ag2, cg2, ay2, cy2, ar2, cr2⟩ := a2; simp only [M.cellsI]; have H2 := hideC h2; have FR := trivial; have HB := hideC (HB.out.trans (hb.mono HB.out.size)); have BX := hideC (B.below BX.out hb (B.isLt BX.out)); have hbx := B.isLt BX.out; have q0 := B.cell BX.out 0 (by rw [HX.out]; rfl); have q1 := B.cell BX.out 1 (by rw [HX.out]; rfl); have q2 := B.cell BX.out 2 (by rw [HX.out]; rfl); have q3 := B.cell BX.out 3 (by rw [HX.out]; rfl); have q4 := B.cell BX.out 4 (by rw [HX.out]; rfl); have q5 := B.cell BX.out 5 (by rw [HX.out]; rfl); clear h2 hb; have A2 := hideC (B.new w2 #[.string nm, .slice an2 ns.length cn2, .slice ag2 gs.length cg2, .slice ay2 ys.length cy2, .slice ar2 rs.length cr2, .int .i64 en] 27); have HA2 := hideC ((Below.refl w2.heap.size w2).alloc (Nat.le_refl _) (.cells #[.string nm, .slice an2 ns.length cn2, .slice ag2 gs.length cg2, .slice ay2 ys.length cy2, .slice ar2 rs.length cr2, .int .i64 en] 27)); have H3 := hideC (H2.out.below HA2.out)) | (go_at_call 13; refine (same_yes ⟨nm, ns, gs, ys, rs, en⟩ ⟨an2, cn2, ag2, cg2, ay2, cy2, ar2, cr2⟩ ⟨an, cn, ag, cg, ay, cy, ar, cr⟩ _ H3.out (HI.out.below (HB.out.alloc HB.out.size _)) HFI.out).mono ?_; rintro e w3 ⟨rfl, hb⟩; have HB := hideC ((HB.out.alloc HB.out.size (.cells #[.string nm, .slice an2 ns.length cn2, .slice ag2 gs.length cg2, .slice ay2 ys.length cy2, .slice ar2 rs.length cr2, .int .i64 en] 27)).trans (hb.mono (HB.out.alloc HB.out.size (.cells #[.string nm, .slice an2 ns.length cn2, .slice ag2 gs.length cg2, .slice ay2 ys.length cy2, .slice ar2 rs.length cr2, .int .i64 en] 27)).size)); clear hb) | (go_at_call 9; refine (begun _).mono ?_; rintro e w6 ⟨rfl, hb⟩; have HB := hideC ((HB.out.alloc HB.out.size (.cells #[.string ⟨#[]⟩, .slice none 0 0, .slice none 0 0, .slice none 0 0, .slice none 0 0, .int .i64 0] 27)).trans (hb.mono (HB.out.alloc HB.out.size _).size)); clear hb))
      go_ret
      exact ⟨rfl, HB.out⟩
    | some j =>
      obtain ⟨j1, j2, j3⟩ := HRS.out j hr
      have HW2 : Hid (∀ a W, M.HasIm W a j → Calls Try.prog 6 #[.agg (M.cellsI a j)] W fun e w' => e = .returned (.tuple #[.string s, .int .i64 0]) ∧ Below W.heap.size W w') := fun a W h => by
        have := write_any j a W h j2
        rw [j1, j3] at this
        exact this
      clear j1 j2 j3
      obtain ⟨nm4, ns4, gs4, ys4, rs4, en4⟩ := j
      go_enter Try.func5, Try.ntmps5
      go_wp2_with (first | (go_at_call 11; have _ := FR; refine (read_some _ hs hr).mono ?_; rintro e w4 ⟨⟨a4, rfl, h4⟩, hb⟩; obtain ⟨an4, cn4, ag4, cg4, ay4, cy4, ar4, cr4⟩ := a4; simp only [M.cellsI]; have H4 := hideC h4; have HB := hideC (HB.out.trans (hb.mono HB.out.size)); have FN := trivial; clear h4 hb; have HA4 := hideC ((Below.refl w4.heap.size w4).alloc (Nat.le_refl _) (.cells #[.string nm4, .slice an4 ns4.length cn4, .slice ag4 gs4.length cg4, .slice ay4 ys4.length cy4, .slice ar4 rs4.length cr4, .int .i64 en4] 27)); have H5 := hideC (H4.out.below HA4.out)) | (go_at_call 6; have _ := FN; refine (HW2.out ⟨an4, cn4, ag4, cg4, ay4, cy4, ar4, cr4⟩ _ H5.out).mono ?_; rintro e w5 ⟨rfl, hb⟩; have HB := hideC ((HB.out.alloc HB.out.size (.cells #[.string nm4, .slice an4 ns4.length cn4, .slice ag4 gs4.length cg4, .slice ay4 ys4.length cy4, .slice ar4 rs4.length cr4, .int .i64 en4] 27)).trans (hb.mono (HB.out.alloc HB.out.size (.cells #[.string nm4, .slice an4 ns4.length cn4, .slice ag4 gs4.length cg4, .slice ay4 ys4.length cy4, .slice ar4 rs4.length cr4, .int .i64 en4] 27)).size)); clear hb) | (go_at_call 6; rw [← HX.out]; refine (HWR.out _ HB.out).mono ?_; rintro e w' ⟨rfl, hb⟩; have FW := trivial; have HB := hideC (HB.out.trans (hb.mono HB.out.size)); have BX := hideC (B.below BX.out hb (B.isLt BX.out)); have hbx := B.isLt BX.out; have q0 := B.cell BX.out 0 (by rw [HX.out]; rfl); have q1 := B.cell BX.out 1 (by rw [HX.out]; rfl); have q2 := B.cell BX.out 2 (by rw [HX.out]; rfl); have q3 := B.cell BX.out 3 (by rw [HX.out]; rfl); have q4 := B.cell BX.out 4 (by rw [HX.out]; rfl); have q5 := B.cell BX.out 5 (by rw [HX.out]; rfl); clear hb) | (go_at_call 11; refine (HRC.out _).mono ?_; rintro e w2 ⟨⟨a2, rfl, h2⟩, hb⟩; obtain ⟨an2, cn2, ag2, cg2, ay2, cy2, ar2, cr2⟩ := a2; simp only [M.cellsI]; have H2 := hideC h2; have FR := trivial; have HB := hideC (HB.out.trans (hb.mono HB.out.size)); have BX := hideC (B.below BX.out hb (B.isLt BX.out)); have hbx := B.isLt BX.out; have q0 := B.cell BX.out 0 (by rw [HX.out]; rfl); have q1 := B.cell BX.out 1 (by rw [HX.out]; rfl); have q2 := B.cell BX.out 2 (by rw [HX.out]; rfl); have q3 := B.cell BX.out 3 (by rw [HX.out]; rfl); have q4 := B.cell BX.out 4 (by rw [HX.out]; rfl); have q5 := B.cell BX.out 5 (by rw [HX.out]; rfl); clear h2 hb; have A2 := hideC (B.new w2 #[.string nm, .slice an2 ns.length cn2, .slice ag2 gs.length cg2, .slice ay2 ys.length cy2, .slice ar2 rs.length cr2, .int .i64 en] 27); have HA2 := hideC ((Below.refl w2.heap.size w2).alloc (Nat.le_refl _) (.cells #[.string nm, .slice an2 ns.length cn2, .slice ag2 gs.length cg2, .slice ay2 ys.length cy2, .slice ar2 rs.length cr2, .int .i64 en] 27)); have H3 := hideC (H2.out.below HA2.out)) | (go_at_call 13; refine (same_yes ⟨nm, ns, gs, ys, rs, en⟩ ⟨an2, cn2, ag2, cg2, ay2, cy2, ar2, cr2⟩ ⟨an, cn, ag, cg, ay, cy, ar, cr⟩ _ H3.out (HI.out.below (HB.out.alloc HB.out.size _)) HFI.out).mono ?_; rintro e w3 ⟨rfl, hb⟩; have HB := hideC ((HB.out.alloc HB.out.size (.cells #[.string nm, .slice an2 ns.length cn2, .slice ag2 gs.length cg2, .slice ay2 ys.length cy2, .slice ar2 rs.length cr2, .int .i64 en] 27)).trans (hb.mono (HB.out.alloc HB.out.size (.cells #[.string nm, .slice an2 ns.length cn2, .slice ag2 gs.length cg2, .slice ay2 ys.length cy2, .slice ar2 rs.length cr2, .int .i64 en] 27)).size)); clear hb) | (go_at_call 9; refine (begun _).mono ?_; rintro e w6 ⟨rfl, hb⟩; have HB := hideC (HB.out.trans (hb.mono HB.out.size)); clear hb))
      go_ret
      exact ⟨ret_bool (by simp), HB.out⟩
  · have hc' : (C == 0) = false := by simpa using hc
    clear HR1
    cases hr : readP s.data.toList with
    | none =>
      go_enter Try.func5, Try.ntmps5
      go_wp2_with (first | (go_at_call 11; refine (read_no _ hs hr).mono ?_; rintro e w4 ⟨rfl, hb⟩; have HB := hideC (HB.out.trans (hb.mono HB.out.size)); have FN := trivial; clear hb) | (go_at_call 6; rw [← HX.out]; refine (HWR.out _ HB.out).mono ?_; rintro e w' ⟨rfl, hb⟩; have FW := trivial; have HB := hideC (HB.out.trans (hb.mono HB.out.size)); have BX := hideC (B.below BX.out hb (B.isLt BX.out)); have hbx := B.isLt BX.out; have q0 := B.cell BX.out 0 (by rw [HX.out]; rfl); have q1 := B.cell BX.out 1 (by rw [HX.out]; rfl); have q2 := B.cell BX.out 2 (by rw [HX.out]; rfl); have q3 := B.cell BX.out 3 (by rw [HX.out]; rfl); have q4 := B.cell BX.out 4 (by rw [HX.out]; rfl); have q5 := B.cell BX.out 5 (by rw [HX.out]; rfl); clear hb) | (go_at_call 9; refine (begun _).mono ?_; rintro e w6 ⟨rfl, hb⟩; have HB := hideC ((HB.out.alloc HB.out.size (.cells #[.string ⟨#[]⟩, .slice none 0 0, .slice none 0 0, .slice none 0 0, .slice none 0 0, .int .i64 0] 27)).trans (hb.mono (HB.out.alloc HB.out.size _).size)); clear hb))
      go_ret
      exact ⟨rfl, HB.out⟩
    | some j =>
      obtain ⟨j1, j2, j3⟩ := HRS.out j hr
      have HW2 : Hid (∀ a W, M.HasIm W a j → Calls Try.prog 6 #[.agg (M.cellsI a j)] W fun e w' => e = .returned (.tuple #[.string s, .int .i64 0]) ∧ Below W.heap.size W w') := fun a W h => by
        have := write_any j a W h j2
        rw [j1, j3] at this
        exact this
      clear j1 j2 j3
      obtain ⟨nm4, ns4, gs4, ys4, rs4, en4⟩ := j
      go_enter Try.func5, Try.ntmps5
      go_wp2_with (first | (go_at_call 11; refine (read_some _ hs hr).mono ?_; rintro e w4 ⟨⟨a4, rfl, h4⟩, hb⟩; obtain ⟨an4, cn4, ag4, cg4, ay4, cy4, ar4, cr4⟩ := a4; simp only [M.cellsI]; have H4 := hideC h4; have HB := hideC (HB.out.trans (hb.mono HB.out.size)); have FN := trivial; clear h4 hb; have HA4 := hideC ((Below.refl w4.heap.size w4).alloc (Nat.le_refl _) (.cells #[.string nm4, .slice an4 ns4.length cn4, .slice ag4 gs4.length cg4, .slice ay4 ys4.length cy4, .slice ar4 rs4.length cr4, .int .i64 en4] 27)); have H5 := hideC (H4.out.below HA4.out)) | (go_at_call 6; have _ := FN; refine (HW2.out ⟨an4, cn4, ag4, cg4, ay4, cy4, ar4, cr4⟩ _ H5.out).mono ?_; rintro e w5 ⟨rfl, hb⟩; have HB := hideC ((HB.out.alloc HB.out.size (.cells #[.string nm4, .slice an4 ns4.length cn4, .slice ag4 gs4.length cg4, .slice ay4 ys4.length cy4, .slice ar4 rs4.length cr4, .int .i64 en4] 27)).trans (hb.mono (HB.out.alloc HB.out.size (.cells #[.string nm4, .slice an4 ns4.length cn4, .slice ag4 gs4.length cg4, .slice ay4 ys4.length cy4, .slice ar4 rs4.length cr4, .int .i64 en4] 27)).size)); clear hb) | (go_at_call 6; rw [← HX.out]; refine (HWR.out _ HB.out).mono ?_; rintro e w' ⟨rfl, hb⟩; have FW := trivial; have HB := hideC (HB.out.trans (hb.mono HB.out.size)); have BX := hideC (B.below BX.out hb (B.isLt BX.out)); have hbx := B.isLt BX.out; have q0 := B.cell BX.out 0 (by rw [HX.out]; rfl); have q1 := B.cell BX.out 1 (by rw [HX.out]; rfl); have q2 := B.cell BX.out 2 (by rw [HX.out]; rfl); have q3 := B.cell BX.out 3 (by rw [HX.out]; rfl); have q4 := B.cell BX.out 4 (by rw [HX.out]; rfl); have q5 := B.cell BX.out 5 (by rw [HX.out]; rfl); clear hb) | (go_at_call 9; refine (begun _).mono ?_; rintro e w6 ⟨rfl, hb⟩; have HB := hideC (HB.out.trans (hb.mono HB.out.size)); clear hb))
      go_ret
      exact ⟨ret_bool (by simp), HB.out⟩
end Go.Proofs.Ytafdgjpmhofinaa.W
