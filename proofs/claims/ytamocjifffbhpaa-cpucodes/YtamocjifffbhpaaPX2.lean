import Derived.Test.YtamocjifffbhpaaPX0
namespace Go.Proofs.Ytamocjifffbhpaa.PW
open Go.RowKit
set_option linter.unusedVariables false
set_option maxRecDepth 100000

set_option maxHeartbeats 4000000 in
theorem codes_any (i : PM.Ins) (s : ByteArray) (w : World) (hs : s.size ≤ maxLen) (hG : ∀ w : World, Calls Try.prog 11 #[] w fun e w' => e = .returned (.bool true) ∧ Below w.heap.size w w') : Calls Try.prog 3 #[.agg i.cells, .string s] w fun e w' => e = .returned (.bool true) ∧ Below w.heap.size w w' := by
  obtain ⟨o, a, b, c, m⟩ := i
  unfold PM.Ins.cells
  simp only
  by_cases hf : PM.Ins.fits ⟨o, a, b, c, m⟩
  · by_cases h8 : s.size = 8
    · have HE : Hid (∀ V, Calls Try.prog 6 #[.agg #[.int .i64 o, .int .i64 a, .int .i64 b, .int .i64 c, .int .i64 m]] V fun e w' => e = .returned (.tuple #[.string (PM.Ins.bytes ⟨o, a, b, c, m⟩), .int .i64 0]) ∧ Below V.heap.size V w') := fun V => by
        have h := encode_any ⟨o, a, b, c, m⟩ V
        rw [if_pos hf] at h
        exact h
      have HR : Hid (∀ V, Calls Try.prog 8 #[.agg #[.int .i64 o, .int .i64 a, .int .i64 b, .int .i64 c, .int .i64 m]] V fun e w' => e = .returned (.int .i64 0) ∧ Below V.heap.size V w') := fun V => by
        have h := error_any ⟨o, a, b, c, m⟩ V
        rw [if_pos hf] at h
        exact h
      have HI : Hid (∀ V, Calls Try.prog 9 #[.agg #[.int .i64 o, .int .i64 a, .int .i64 b, .int .i64 c, .int .i64 m]] V fun e w' => e = .returned (.string (PM.Ins.bytes ⟨o, a, b, c, m⟩)) ∧ Below V.heap.size V w') := fun V => instr_any ⟨o, a, b, c, m⟩ V
      obtain ⟨SI, hSI⟩ : ∃ SI, SI = PM.Ins.bytes ⟨o, a, b, c, m⟩ := ⟨_, rfl⟩
      rw [← hSI] at HE HI
      clear hSI
      have HD := hideC (fun V => decode_yes s V h8)
      have HF := hideC (fun V => from_any s V h8)
      obtain ⟨⟨xo, xa, xb, xc, xm⟩, hx⟩ : ∃ x, x = PM.ins s := ⟨_, rfl⟩
      rw [← hx] at HD HF
      clear hx
      unfold PM.Ins.cells at HD HF
      simp only at HD HF
      have hq : (s.size : Int) = 8 := by omega
      have HG := hideC hG
      have HB0 := hideC ((Below.refl w.heap.size w).alloc (Nat.le_refl _) (.cells #[.int .i64 o, .int .i64 a, .int .i64 b, .int .i64 c, .int .i64 m] 23))
      have BI := hideC (B.new w #[.int .i64 o, .int .i64 a, .int .i64 b, .int .i64 c, .int .i64 m] 23)
      clear hf h8 hs hG
      go_enter Try.func3, Try.ntmps3
      go_wp2_with fail
      refine (HE.out _).mono ?_
      rintro e w1 ⟨rfl, hb1⟩
      have HB1 := hideC (HB0.out.trans (hb1.mono HB0.out.size))
      have BI1 := hideC (B.below BI.out hb1 (B.isLt BI.out))
      clear hb1 HB0 BI HE
      go_wp2_with fail
      refine (HD.out _).mono ?_
      rintro e w2 ⟨rfl, hb2⟩
      have HB2 := hideC (HB1.out.trans (hb2.mono HB1.out.size))
      have BI2 := hideC (B.below BI1.out hb2 (B.isLt BI1.out))
      have HA2 := hideC (HB2.out.alloc HB2.out.size (.cells #[.int .i64 xo, .int .i64 xa, .int .i64 xb, .int .i64 xc, .int .i64 xm] 23))
      have BIA := hideC (B.alloc BI2.out (.cells #[.int .i64 xo, .int .i64 xa, .int .i64 xb, .int .i64 xc, .int .i64 xm] 23))
      have BXA := hideC (B.new w2 #[.int .i64 xo, .int .i64 xa, .int .i64 xb, .int .i64 xc, .int .i64 xm] 23)
      have l2 := B.isLt BI2.out
      clear hb2 HB1 BI1 HD
      have j0 : w2.cell? ⟨w.heap.size, 0, none⟩ = some (.int .i64 o) := B.cell BI2.out 0 rfl
      have j1 : w2.cell? ⟨w.heap.size, 1, none⟩ = some (.int .i64 a) := B.cell BI2.out 1 rfl
      have j2 : w2.cell? ⟨w.heap.size, 2, none⟩ = some (.int .i64 b) := B.cell BI2.out 2 rfl
      have j3 : w2.cell? ⟨w.heap.size, 3, none⟩ = some (.int .i64 c) := B.cell BI2.out 3 rfl
      have j4 : w2.cell? ⟨w.heap.size, 4, none⟩ = some (.int .i64 m) := B.cell BI2.out 4 rfl
      go_wp2_with fail
      refine (HR.out _).mono ?_
      rintro e w3 ⟨rfl, hb3⟩
      have HB3 := hideC (HA2.out.trans (hb3.mono HA2.out.size))
      have BI3 := hideC (B.below BIA.out hb3 (B.isLt BIA.out))
      have BX3 := hideC (B.below BXA.out hb3 (B.isLt BXA.out))
      clear hb3 HA2 BIA BXA j0 j1 j2 j3 j4 l2 HB2 BI2 HR
      have j0 : w3.cell? ⟨w.heap.size, 0, none⟩ = some (.int .i64 o) := B.cell BI3.out 0 rfl
      have j1 : w3.cell? ⟨w.heap.size, 1, none⟩ = some (.int .i64 a) := B.cell BI3.out 1 rfl
      have j2 : w3.cell? ⟨w.heap.size, 2, none⟩ = some (.int .i64 b) := B.cell BI3.out 2 rfl
      have j3 : w3.cell? ⟨w.heap.size, 3, none⟩ = some (.int .i64 c) := B.cell BI3.out 3 rfl
      have j4 : w3.cell? ⟨w.heap.size, 4, none⟩ = some (.int .i64 m) := B.cell BI3.out 4 rfl
      go_wp2_with fail
      refine (HI.out _).mono ?_
      rintro e w4 ⟨rfl, hb4⟩
      have HB4 := hideC (HB3.out.trans (hb4.mono HB3.out.size))
      have BX4 := hideC (B.below BX3.out hb4 (B.isLt BX3.out))
      clear hb4 HB3 BI3 BX3 j0 j1 j2 j3 j4 HI
      have HA4 := hideC (HB4.out.alloc HB4.out.size (.cells #[.int .i64 0, .int .i64 0, .int .i64 0, .int .i64 0, .int .i64 0] 23))
      have BXB := hideC (B.alloc BX4.out (.cells #[.int .i64 0, .int .i64 0, .int .i64 0, .int .i64 0, .int .i64 0] 23))
      have BYB := hideC (B.new w4 #[.int .i64 0, .int .i64 0, .int .i64 0, .int .i64 0, .int .i64 0] 23)
      have lx := B.isLt BX4.out
      go_wp2_with fail
      refine (HF.out _).mono ?_
      rintro e w5 ⟨rfl, hb5⟩
      have HB5 := hideC (HA4.out.trans (hb5.mono HA4.out.size))
      have BX5 := hideC (B.below BXB.out hb5 (B.isLt BXB.out))
      have BY5 := hideC (B.below BYB.out hb5 (B.isLt BYB.out))
      have sC := HB4.out.size
      clear hb5 HA4 BXB BYB HF
      obtain ⟨z0, z1, z2, z3, z4, zu, zl⟩ := five BY5.out
      have BX6 := hideC (set5_other BX5.out w4.heap.size (by omega) (.int .i64 xo) (.int .i64 xa) (.int .i64 xb) (.int .i64 xc) (.int .i64 xm))
      have BY6 := hideC (set5_block BY5.out (.int .i64 xo) (.int .i64 xa) (.int .i64 xb) (.int .i64 xc) (.int .i64 xm))
      have HB6 := hideC (set5_below HB5.out sC (.int .i64 xo) (.int .i64 xa) (.int .i64 xb) (.int .i64 xc) (.int .i64 xm))
      clear lx
      go_wp2_with fail
      refine (HG.out _).mono ?_
      rintro e w7 ⟨rfl, hb7⟩
      have HB7 := hideC (HB6.out.trans (hb7.mono HB6.out.size))
      have BX7 := hideC (B.below BX6.out hb7 (B.isLt BX6.out))
      have BY7 := hideC (B.below BY6.out hb7 (B.isLt BY6.out))
      clear hb7 BX6 BY6 HB6 BX5 BY5 z0 z1 z2 z3 z4 zu zl
      have x0 : w7.cell? ⟨w2.heap.size, 0, none⟩ = some (.int .i64 xo) := B.cell BX7.out 0 rfl
      have x1 : w7.cell? ⟨w2.heap.size, 1, none⟩ = some (.int .i64 xa) := B.cell BX7.out 1 rfl
      have x2 : w7.cell? ⟨w2.heap.size, 2, none⟩ = some (.int .i64 xb) := B.cell BX7.out 2 rfl
      have x3 : w7.cell? ⟨w2.heap.size, 3, none⟩ = some (.int .i64 xc) := B.cell BX7.out 3 rfl
      have x4 : w7.cell? ⟨w2.heap.size, 4, none⟩ = some (.int .i64 xm) := B.cell BX7.out 4 rfl
      have y0 : w7.cell? ⟨w4.heap.size, 0, none⟩ = some (.int .i64 xo) := B.cell BY7.out 0 rfl
      have y1 : w7.cell? ⟨w4.heap.size, 1, none⟩ = some (.int .i64 xa) := B.cell BY7.out 1 rfl
      have y2 : w7.cell? ⟨w4.heap.size, 2, none⟩ = some (.int .i64 xb) := B.cell BY7.out 2 rfl
      have y3 : w7.cell? ⟨w4.heap.size, 3, none⟩ = some (.int .i64 xc) := B.cell BY7.out 3 rfl
      have y4 : w7.cell? ⟨w4.heap.size, 4, none⟩ = some (.int .i64 xm) := B.cell BY7.out 4 rfl
      go_wp2
      go_ret
      exact ⟨by simp, HB7.out⟩
    · have HE : Hid (∀ V, Calls Try.prog 6 #[.agg #[.int .i64 o, .int .i64 a, .int .i64 b, .int .i64 c, .int .i64 m]] V fun e w' => e = .returned (.tuple #[.string (PM.Ins.bytes ⟨o, a, b, c, m⟩), .int .i64 0]) ∧ Below V.heap.size V w') := fun V => by
        have h := encode_any ⟨o, a, b, c, m⟩ V
        rw [if_pos hf] at h
        exact h
      have HR : Hid (∀ V, Calls Try.prog 8 #[.agg #[.int .i64 o, .int .i64 a, .int .i64 b, .int .i64 c, .int .i64 m]] V fun e w' => e = .returned (.int .i64 0) ∧ Below V.heap.size V w') := fun V => by
        have h := error_any ⟨o, a, b, c, m⟩ V
        rw [if_pos hf] at h
        exact h
      have HI : Hid (∀ V, Calls Try.prog 9 #[.agg #[.int .i64 o, .int .i64 a, .int .i64 b, .int .i64 c, .int .i64 m]] V fun e w' => e = .returned (.string (PM.Ins.bytes ⟨o, a, b, c, m⟩)) ∧ Below V.heap.size V w') := fun V => instr_any ⟨o, a, b, c, m⟩ V
      obtain ⟨SI, hSI⟩ : ∃ SI, SI = PM.Ins.bytes ⟨o, a, b, c, m⟩ := ⟨_, rfl⟩
      rw [← hSI] at HE HI
      clear hSI
      have HD := hideC (fun V => decode_no s V hs h8)
      unfold PM.Ins.cells at HD
      simp only at HD
      have hq : decide ((s.size : Int) = 8) = false := by simp; omega
      have hq2 : ((s.size : Int) == 8) = false := by simp; omega
      have HG := hideC hG
      have HB0 := hideC ((Below.refl w.heap.size w).alloc (Nat.le_refl _) (.cells #[.int .i64 o, .int .i64 a, .int .i64 b, .int .i64 c, .int .i64 m] 23))
      have BI := hideC (B.new w #[.int .i64 o, .int .i64 a, .int .i64 b, .int .i64 c, .int .i64 m] 23)
      clear hf h8 hs hG
      go_enter Try.func3, Try.ntmps3
      go_wp2_with fail
      refine (HE.out _).mono ?_
      rintro e w1 ⟨rfl, hb1⟩
      have HB1 := hideC (HB0.out.trans (hb1.mono HB0.out.size))
      have BI1 := hideC (B.below BI.out hb1 (B.isLt BI.out))
      clear hb1 HB0 BI HE
      go_wp2_with fail
      refine (HD.out _).mono ?_
      rintro e w2 ⟨rfl, hb2⟩
      have HB2 := hideC (HB1.out.trans (hb2.mono HB1.out.size))
      have BI2 := hideC (B.below BI1.out hb2 (B.isLt BI1.out))
      have HA2 := hideC (HB2.out.alloc HB2.out.size (.cells #[.int .i64 0, .int .i64 0, .int .i64 0, .int .i64 0, .int .i64 0] 23))
      have BIA := hideC (B.alloc BI2.out (.cells #[.int .i64 0, .int .i64 0, .int .i64 0, .int .i64 0, .int .i64 0] 23))
      have BXA := hideC (B.new w2 #[.int .i64 0, .int .i64 0, .int .i64 0, .int .i64 0, .int .i64 0] 23)
      have l2 := B.isLt BI2.out
      clear hb2 HB1 BI1 HD
      have j0 : w2.cell? ⟨w.heap.size, 0, none⟩ = some (.int .i64 o) := B.cell BI2.out 0 rfl
      have j1 : w2.cell? ⟨w.heap.size, 1, none⟩ = some (.int .i64 a) := B.cell BI2.out 1 rfl
      have j2 : w2.cell? ⟨w.heap.size, 2, none⟩ = some (.int .i64 b) := B.cell BI2.out 2 rfl
      have j3 : w2.cell? ⟨w.heap.size, 3, none⟩ = some (.int .i64 c) := B.cell BI2.out 3 rfl
      have j4 : w2.cell? ⟨w.heap.size, 4, none⟩ = some (.int .i64 m) := B.cell BI2.out 4 rfl
      go_wp2_with fail
      refine (HR.out _).mono ?_
      rintro e w3 ⟨rfl, hb3⟩
      have HB3 := hideC (HA2.out.trans (hb3.mono HA2.out.size))
      have BI3 := hideC (B.below BIA.out hb3 (B.isLt BIA.out))
      have BX3 := hideC (B.below BXA.out hb3 (B.isLt BXA.out))
      clear hb3 HA2 BIA BXA j0 j1 j2 j3 j4 l2 HB2 BI2 HR
      have j0 : w3.cell? ⟨w.heap.size, 0, none⟩ = some (.int .i64 o) := B.cell BI3.out 0 rfl
      have j1 : w3.cell? ⟨w.heap.size, 1, none⟩ = some (.int .i64 a) := B.cell BI3.out 1 rfl
      have j2 : w3.cell? ⟨w.heap.size, 2, none⟩ = some (.int .i64 b) := B.cell BI3.out 2 rfl
      have j3 : w3.cell? ⟨w.heap.size, 3, none⟩ = some (.int .i64 c) := B.cell BI3.out 3 rfl
      have j4 : w3.cell? ⟨w.heap.size, 4, none⟩ = some (.int .i64 m) := B.cell BI3.out 4 rfl
      go_wp2_with fail
      refine (HI.out _).mono ?_
      rintro e w4 ⟨rfl, hb4⟩
      have HB4 := hideC (HB3.out.trans (hb4.mono HB3.out.size))
      have BX4 := hideC (B.below BX3.out hb4 (B.isLt BX3.out))
      clear hb4 HB3 BI3 BX3 j0 j1 j2 j3 j4 HI
      have HA4 := hideC (HB4.out.alloc HB4.out.size (.cells #[.int .i64 0, .int .i64 0, .int .i64 0, .int .i64 0, .int .i64 0] 23))
      have BXB := hideC (B.alloc BX4.out (.cells #[.int .i64 0, .int .i64 0, .int .i64 0, .int .i64 0, .int .i64 0] 23))
      have BYB := hideC (B.new w4 #[.int .i64 0, .int .i64 0, .int .i64 0, .int .i64 0, .int .i64 0] 23)
      go_wp2_with fail
      refine (HG.out _).mono ?_
      rintro e w7 ⟨rfl, hb7⟩
      have HB7 := hideC (HA4.out.trans (hb7.mono HA4.out.size))
      have BX7 := hideC (B.below BXB.out hb7 (B.isLt BXB.out))
      have BY7 := hideC (B.below BYB.out hb7 (B.isLt BYB.out))
      clear hb7 HA4 BXB BYB
      have x0 : w7.cell? ⟨w2.heap.size, 0, none⟩ = some (.int .i64 0) := B.cell BX7.out 0 rfl
      have x1 : w7.cell? ⟨w2.heap.size, 1, none⟩ = some (.int .i64 0) := B.cell BX7.out 1 rfl
      have x2 : w7.cell? ⟨w2.heap.size, 2, none⟩ = some (.int .i64 0) := B.cell BX7.out 2 rfl
      have x3 : w7.cell? ⟨w2.heap.size, 3, none⟩ = some (.int .i64 0) := B.cell BX7.out 3 rfl
      have x4 : w7.cell? ⟨w2.heap.size, 4, none⟩ = some (.int .i64 0) := B.cell BX7.out 4 rfl
      have y0 : w7.cell? ⟨w4.heap.size, 0, none⟩ = some (.int .i64 0) := B.cell BY7.out 0 rfl
      have y1 : w7.cell? ⟨w4.heap.size, 1, none⟩ = some (.int .i64 0) := B.cell BY7.out 1 rfl
      have y2 : w7.cell? ⟨w4.heap.size, 2, none⟩ = some (.int .i64 0) := B.cell BY7.out 2 rfl
      have y3 : w7.cell? ⟨w4.heap.size, 3, none⟩ = some (.int .i64 0) := B.cell BY7.out 3 rfl
      have y4 : w7.cell? ⟨w4.heap.size, 4, none⟩ = some (.int .i64 0) := B.cell BY7.out 4 rfl
      go_wp2
      go_ret
      exact ⟨by simp, HB7.out⟩
  · by_cases h8 : s.size = 8
    · have HE : Hid (∀ V, Calls Try.prog 6 #[.agg #[.int .i64 o, .int .i64 a, .int .i64 b, .int .i64 c, .int .i64 m]] V fun e w' => e = .returned (.tuple #[.string ⟨#[]⟩, .int .i64 3]) ∧ Below V.heap.size V w') := fun V => by
        have h := encode_any ⟨o, a, b, c, m⟩ V
        rw [if_neg hf] at h
        exact h
      have HR : Hid (∀ V, Calls Try.prog 8 #[.agg #[.int .i64 o, .int .i64 a, .int .i64 b, .int .i64 c, .int .i64 m]] V fun e w' => e = .returned (.int .i64 3) ∧ Below V.heap.size V w') := fun V => by
        have h := error_any ⟨o, a, b, c, m⟩ V
        rw [if_neg hf] at h
        exact h
      have HD := hideC (fun V => decode_yes s V h8)
      have HF := hideC (fun V => from_any s V h8)
      obtain ⟨⟨xo, xa, xb, xc, xm⟩, hx⟩ : ∃ x, x = PM.ins s := ⟨_, rfl⟩
      rw [← hx] at HD HF
      clear hx
      unfold PM.Ins.cells at HD HF
      simp only at HD HF
      have hq : (s.size : Int) = 8 := by omega
      have HG := hideC hG
      have HB0 := hideC ((Below.refl w.heap.size w).alloc (Nat.le_refl _) (.cells #[.int .i64 o, .int .i64 a, .int .i64 b, .int .i64 c, .int .i64 m] 23))
      have BI := hideC (B.new w #[.int .i64 o, .int .i64 a, .int .i64 b, .int .i64 c, .int .i64 m] 23)
      clear hf h8 hs hG
      go_enter Try.func3, Try.ntmps3
      go_wp2_with fail
      refine (HE.out _).mono ?_
      rintro e w1 ⟨rfl, hb1⟩
      have HB1 := hideC (HB0.out.trans (hb1.mono HB0.out.size))
      have BI1 := hideC (B.below BI.out hb1 (B.isLt BI.out))
      clear hb1 HB0 BI HE
      go_wp2_with fail
      refine (HD.out _).mono ?_
      rintro e w2 ⟨rfl, hb2⟩
      have HB2 := hideC (HB1.out.trans (hb2.mono HB1.out.size))
      have BI2 := hideC (B.below BI1.out hb2 (B.isLt BI1.out))
      have HA2 := hideC (HB2.out.alloc HB2.out.size (.cells #[.int .i64 xo, .int .i64 xa, .int .i64 xb, .int .i64 xc, .int .i64 xm] 23))
      have BIA := hideC (B.alloc BI2.out (.cells #[.int .i64 xo, .int .i64 xa, .int .i64 xb, .int .i64 xc, .int .i64 xm] 23))
      have BXA := hideC (B.new w2 #[.int .i64 xo, .int .i64 xa, .int .i64 xb, .int .i64 xc, .int .i64 xm] 23)
      have l2 := B.isLt BI2.out
      clear hb2 HB1 BI1 HD
      have j0 : w2.cell? ⟨w.heap.size, 0, none⟩ = some (.int .i64 o) := B.cell BI2.out 0 rfl
      have j1 : w2.cell? ⟨w.heap.size, 1, none⟩ = some (.int .i64 a) := B.cell BI2.out 1 rfl
      have j2 : w2.cell? ⟨w.heap.size, 2, none⟩ = some (.int .i64 b) := B.cell BI2.out 2 rfl
      have j3 : w2.cell? ⟨w.heap.size, 3, none⟩ = some (.int .i64 c) := B.cell BI2.out 3 rfl
      have j4 : w2.cell? ⟨w.heap.size, 4, none⟩ = some (.int .i64 m) := B.cell BI2.out 4 rfl
      go_wp2_with fail
      refine (HR.out _).mono ?_
      rintro e w3 ⟨rfl, hb3⟩
      have HB3 := hideC (HA2.out.trans (hb3.mono HA2.out.size))
      have BI3 := hideC (B.below BIA.out hb3 (B.isLt BIA.out))
      have BX3 := hideC (B.below BXA.out hb3 (B.isLt BXA.out))
      clear hb3 HA2 BIA BXA j0 j1 j2 j3 j4 l2 HB2 BI2 HR
      have HA4 := hideC (HB3.out.alloc HB3.out.size (.cells #[.int .i64 0, .int .i64 0, .int .i64 0, .int .i64 0, .int .i64 0] 23))
      have BXB := hideC (B.alloc BX3.out (.cells #[.int .i64 0, .int .i64 0, .int .i64 0, .int .i64 0, .int .i64 0] 23))
      have BYB := hideC (B.new w3 #[.int .i64 0, .int .i64 0, .int .i64 0, .int .i64 0, .int .i64 0] 23)
      have lx := B.isLt BX3.out
      go_wp2_with fail
      refine (HF.out _).mono ?_
      rintro e w5 ⟨rfl, hb5⟩
      have HB5 := hideC (HA4.out.trans (hb5.mono HA4.out.size))
      have BX5 := hideC (B.below BXB.out hb5 (B.isLt BXB.out))
      have BY5 := hideC (B.below BYB.out hb5 (B.isLt BYB.out))
      have sC := HB3.out.size
      clear hb5 HA4 BXB BYB HF
      obtain ⟨z0, z1, z2, z3, z4, zu, zl⟩ := five BY5.out
      have BX6 := hideC (set5_other BX5.out w3.heap.size (by omega) (.int .i64 xo) (.int .i64 xa) (.int .i64 xb) (.int .i64 xc) (.int .i64 xm))
      have BY6 := hideC (set5_block BY5.out (.int .i64 xo) (.int .i64 xa) (.int .i64 xb) (.int .i64 xc) (.int .i64 xm))
      have HB6 := hideC (set5_below HB5.out sC (.int .i64 xo) (.int .i64 xa) (.int .i64 xb) (.int .i64 xc) (.int .i64 xm))
      clear lx
      go_wp2_with fail
      refine (HG.out _).mono ?_
      rintro e w7 ⟨rfl, hb7⟩
      have HB7 := hideC (HB6.out.trans (hb7.mono HB6.out.size))
      have BX7 := hideC (B.below BX6.out hb7 (B.isLt BX6.out))
      have BY7 := hideC (B.below BY6.out hb7 (B.isLt BY6.out))
      clear hb7 BX6 BY6 HB6 BX5 BY5 z0 z1 z2 z3 z4 zu zl
      have x0 : w7.cell? ⟨w2.heap.size, 0, none⟩ = some (.int .i64 xo) := B.cell BX7.out 0 rfl
      have x1 : w7.cell? ⟨w2.heap.size, 1, none⟩ = some (.int .i64 xa) := B.cell BX7.out 1 rfl
      have x2 : w7.cell? ⟨w2.heap.size, 2, none⟩ = some (.int .i64 xb) := B.cell BX7.out 2 rfl
      have x3 : w7.cell? ⟨w2.heap.size, 3, none⟩ = some (.int .i64 xc) := B.cell BX7.out 3 rfl
      have x4 : w7.cell? ⟨w2.heap.size, 4, none⟩ = some (.int .i64 xm) := B.cell BX7.out 4 rfl
      have y0 : w7.cell? ⟨w3.heap.size, 0, none⟩ = some (.int .i64 xo) := B.cell BY7.out 0 rfl
      have y1 : w7.cell? ⟨w3.heap.size, 1, none⟩ = some (.int .i64 xa) := B.cell BY7.out 1 rfl
      have y2 : w7.cell? ⟨w3.heap.size, 2, none⟩ = some (.int .i64 xb) := B.cell BY7.out 2 rfl
      have y3 : w7.cell? ⟨w3.heap.size, 3, none⟩ = some (.int .i64 xc) := B.cell BY7.out 3 rfl
      have y4 : w7.cell? ⟨w3.heap.size, 4, none⟩ = some (.int .i64 xm) := B.cell BY7.out 4 rfl
      go_wp2
      go_ret
      exact ⟨by simp, HB7.out⟩
    · have HE : Hid (∀ V, Calls Try.prog 6 #[.agg #[.int .i64 o, .int .i64 a, .int .i64 b, .int .i64 c, .int .i64 m]] V fun e w' => e = .returned (.tuple #[.string ⟨#[]⟩, .int .i64 3]) ∧ Below V.heap.size V w') := fun V => by
        have h := encode_any ⟨o, a, b, c, m⟩ V
        rw [if_neg hf] at h
        exact h
      have HR : Hid (∀ V, Calls Try.prog 8 #[.agg #[.int .i64 o, .int .i64 a, .int .i64 b, .int .i64 c, .int .i64 m]] V fun e w' => e = .returned (.int .i64 3) ∧ Below V.heap.size V w') := fun V => by
        have h := error_any ⟨o, a, b, c, m⟩ V
        rw [if_neg hf] at h
        exact h
      have HD := hideC (fun V => decode_no s V hs h8)
      unfold PM.Ins.cells at HD
      simp only at HD
      have hq : decide ((s.size : Int) = 8) = false := by simp; omega
      have hq2 : ((s.size : Int) == 8) = false := by simp; omega
      have HG := hideC hG
      have HB0 := hideC ((Below.refl w.heap.size w).alloc (Nat.le_refl _) (.cells #[.int .i64 o, .int .i64 a, .int .i64 b, .int .i64 c, .int .i64 m] 23))
      have BI := hideC (B.new w #[.int .i64 o, .int .i64 a, .int .i64 b, .int .i64 c, .int .i64 m] 23)
      clear hf h8 hs hG
      go_enter Try.func3, Try.ntmps3
      go_wp2_with fail
      refine (HE.out _).mono ?_
      rintro e w1 ⟨rfl, hb1⟩
      have HB1 := hideC (HB0.out.trans (hb1.mono HB0.out.size))
      have BI1 := hideC (B.below BI.out hb1 (B.isLt BI.out))
      clear hb1 HB0 BI HE
      go_wp2_with fail
      refine (HD.out _).mono ?_
      rintro e w2 ⟨rfl, hb2⟩
      have HB2 := hideC (HB1.out.trans (hb2.mono HB1.out.size))
      have BI2 := hideC (B.below BI1.out hb2 (B.isLt BI1.out))
      have HA2 := hideC (HB2.out.alloc HB2.out.size (.cells #[.int .i64 0, .int .i64 0, .int .i64 0, .int .i64 0, .int .i64 0] 23))
      have BIA := hideC (B.alloc BI2.out (.cells #[.int .i64 0, .int .i64 0, .int .i64 0, .int .i64 0, .int .i64 0] 23))
      have BXA := hideC (B.new w2 #[.int .i64 0, .int .i64 0, .int .i64 0, .int .i64 0, .int .i64 0] 23)
      have l2 := B.isLt BI2.out
      clear hb2 HB1 BI1 HD
      have j0 : w2.cell? ⟨w.heap.size, 0, none⟩ = some (.int .i64 o) := B.cell BI2.out 0 rfl
      have j1 : w2.cell? ⟨w.heap.size, 1, none⟩ = some (.int .i64 a) := B.cell BI2.out 1 rfl
      have j2 : w2.cell? ⟨w.heap.size, 2, none⟩ = some (.int .i64 b) := B.cell BI2.out 2 rfl
      have j3 : w2.cell? ⟨w.heap.size, 3, none⟩ = some (.int .i64 c) := B.cell BI2.out 3 rfl
      have j4 : w2.cell? ⟨w.heap.size, 4, none⟩ = some (.int .i64 m) := B.cell BI2.out 4 rfl
      go_wp2_with fail
      refine (HR.out _).mono ?_
      rintro e w3 ⟨rfl, hb3⟩
      have HB3 := hideC (HA2.out.trans (hb3.mono HA2.out.size))
      have BI3 := hideC (B.below BIA.out hb3 (B.isLt BIA.out))
      have BX3 := hideC (B.below BXA.out hb3 (B.isLt BXA.out))
      clear hb3 HA2 BIA BXA j0 j1 j2 j3 j4 l2 HB2 BI2 HR
      have HA4 := hideC (HB3.out.alloc HB3.out.size (.cells #[.int .i64 0, .int .i64 0, .int .i64 0, .int .i64 0, .int .i64 0] 23))
      have BXB := hideC (B.alloc BX3.out (.cells #[.int .i64 0, .int .i64 0, .int .i64 0, .int .i64 0, .int .i64 0] 23))
      have BYB := hideC (B.new w3 #[.int .i64 0, .int .i64 0, .int .i64 0, .int .i64 0, .int .i64 0] 23)
      go_wp2_with fail
      refine (HG.out _).mono ?_
      rintro e w7 ⟨rfl, hb7⟩
      have HB7 := hideC (HA4.out.trans (hb7.mono HA4.out.size))
      have BX7 := hideC (B.below BXB.out hb7 (B.isLt BXB.out))
      have BY7 := hideC (B.below BYB.out hb7 (B.isLt BYB.out))
      clear hb7 HA4 BXB BYB
      have x0 : w7.cell? ⟨w2.heap.size, 0, none⟩ = some (.int .i64 0) := B.cell BX7.out 0 rfl
      have x1 : w7.cell? ⟨w2.heap.size, 1, none⟩ = some (.int .i64 0) := B.cell BX7.out 1 rfl
      have x2 : w7.cell? ⟨w2.heap.size, 2, none⟩ = some (.int .i64 0) := B.cell BX7.out 2 rfl
      have x3 : w7.cell? ⟨w2.heap.size, 3, none⟩ = some (.int .i64 0) := B.cell BX7.out 3 rfl
      have x4 : w7.cell? ⟨w2.heap.size, 4, none⟩ = some (.int .i64 0) := B.cell BX7.out 4 rfl
      have y0 : w7.cell? ⟨w3.heap.size, 0, none⟩ = some (.int .i64 0) := B.cell BY7.out 0 rfl
      have y1 : w7.cell? ⟨w3.heap.size, 1, none⟩ = some (.int .i64 0) := B.cell BY7.out 1 rfl
      have y2 : w7.cell? ⟨w3.heap.size, 2, none⟩ = some (.int .i64 0) := B.cell BY7.out 2 rfl
      have y3 : w7.cell? ⟨w3.heap.size, 3, none⟩ = some (.int .i64 0) := B.cell BY7.out 3 rfl
      have y4 : w7.cell? ⟨w3.heap.size, 4, none⟩ = some (.int .i64 0) := B.cell BY7.out 4 rfl
      go_wp2
      go_ret
      exact ⟨by simp, HB7.out⟩
end Go.Proofs.Ytamocjifffbhpaa.PW
