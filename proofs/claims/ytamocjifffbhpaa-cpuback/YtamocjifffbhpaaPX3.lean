import Derived.Test.YtamocjifffbhpaaPX0
namespace Go.Proofs.Ytamocjifffbhpaa.PW
open Go.RowKit
set_option linter.unusedVariables false
set_option maxRecDepth 100000

set_option maxHeartbeats 4000000 in
theorem back_any (i : PM.Ins) (s : ByteArray) (w : World) (hs : s.size ≤ maxLen) (hG : ∀ w : World, Calls Try.prog 11 #[] w fun e w' => e = .returned (.bool true) ∧ Below w.heap.size w w') : Calls Try.prog 5 #[.agg i.cells, .string s] w fun e w' => e = .returned (.bool true) ∧ Below w.heap.size w w' := by
  obtain ⟨o, a, b, c, m⟩ := i
  unfold PM.Ins.cells
  simp only
  by_cases hf : PM.Ins.fits ⟨o, a, b, c, m⟩
  · by_cases h8 : s.size = 8
    · have HE : Hid (∀ V, Calls Try.prog 6 #[.agg #[.int .i64 o, .int .i64 a, .int .i64 b, .int .i64 c, .int .i64 m]] V fun e w' => e = .returned (.tuple #[.string (PM.Ins.bytes ⟨o, a, b, c, m⟩), .int .i64 0]) ∧ Below V.heap.size V w') := fun V => by
        have h := encode_any ⟨o, a, b, c, m⟩ V
        rw [if_pos hf] at h
        exact h
      have HD1 : Hid (∀ V, Calls Try.prog 7 #[.string (PM.Ins.bytes ⟨o, a, b, c, m⟩)] V fun e w' => e = .returned (.tuple #[.agg #[.int .i64 o, .int .i64 a, .int .i64 b, .int .i64 c, .int .i64 m], .int .i64 0]) ∧ Below V.heap.size V w') := fun V => by
        have h := decode_yes (PM.Ins.bytes ⟨o, a, b, c, m⟩) V (PM.bytes_size _)
        rw [PM.ins_bytes _ hf] at h
        exact h
      obtain ⟨SI, hSI⟩ : ∃ SI, SI = PM.Ins.bytes ⟨o, a, b, c, m⟩ := ⟨_, rfl⟩
      rw [← hSI] at HE HD1
      clear hSI
      have HD := hideC (fun V => decode_yes s V h8)
      have HE2 : Hid (∀ V, Calls Try.prog 6 #[.agg (PM.ins s).cells] V fun e w' => e = .returned (.tuple #[.string s, .int .i64 0]) ∧ Below V.heap.size V w') := fun V => by
        have h := encode_any (PM.ins s) V
        rw [if_pos (PM.ins_fits s h8), PM.bytes_ins s h8] at h
        exact h
      obtain ⟨⟨xo, xa, xb, xc, xm⟩, hx⟩ : ∃ x, x = PM.ins s := ⟨_, rfl⟩
      rw [← hx] at HD HE2
      clear hx
      unfold PM.Ins.cells at HD HE2
      simp only at HD HE2
      have HG := hideC hG
      have HB0 := hideC ((Below.refl w.heap.size w).alloc (Nat.le_refl _) (.cells #[.int .i64 o, .int .i64 a, .int .i64 b, .int .i64 c, .int .i64 m] 23))
      have BI := hideC (B.new w #[.int .i64 o, .int .i64 a, .int .i64 b, .int .i64 c, .int .i64 m] 23)
      clear hf h8 hs hG
      go_enter Try.func5, Try.ntmps5
      go_wp2_with fail
      refine (HE.out _).mono ?_
      rintro e w1 ⟨rfl, hb1⟩
      have HB1 := hideC (HB0.out.trans (hb1.mono HB0.out.size))
      have BI1 := hideC (B.below BI.out hb1 (B.isLt BI.out))
      clear hb1 HB0 BI HE
      go_wp2_with fail
      refine (HD1.out _).mono ?_
      rintro e w2 ⟨rfl, hb2⟩
      have HB2 := hideC (HB1.out.trans (hb2.mono HB1.out.size))
      have BI2 := hideC (B.below BI1.out hb2 (B.isLt BI1.out))
      have HA2 := hideC (HB2.out.alloc HB2.out.size (.cells #[.int .i64 o, .int .i64 a, .int .i64 b, .int .i64 c, .int .i64 m] 23))
      have l2 := B.isLt BI2.out
      clear hb2 HB1 BI1 HD1
      have j0 : w2.cell? ⟨w.heap.size, 0, none⟩ = some (.int .i64 o) := B.cell BI2.out 0 rfl
      have j1 : w2.cell? ⟨w.heap.size, 1, none⟩ = some (.int .i64 a) := B.cell BI2.out 1 rfl
      have j2 : w2.cell? ⟨w.heap.size, 2, none⟩ = some (.int .i64 b) := B.cell BI2.out 2 rfl
      have j3 : w2.cell? ⟨w.heap.size, 3, none⟩ = some (.int .i64 c) := B.cell BI2.out 3 rfl
      have j4 : w2.cell? ⟨w.heap.size, 4, none⟩ = some (.int .i64 m) := B.cell BI2.out 4 rfl
      go_wp2_with fail
      refine (HD.out _).mono ?_
      rintro e w3 ⟨rfl, hb3⟩
      have HB3 := hideC (HA2.out.trans (hb3.mono HA2.out.size))
      have HA3 := hideC (HB3.out.alloc HB3.out.size (.cells #[.int .i64 xo, .int .i64 xa, .int .i64 xb, .int .i64 xc, .int .i64 xm] 23))
      clear hb3 HD
      go_wp2_with fail
      refine (HE2.out _).mono ?_
      rintro e w4 ⟨rfl, hb4⟩
      have HB4 := hideC (HA3.out.trans (hb4.mono HA3.out.size))
      clear hb4 HE2
      go_wp2_with fail
      refine (HG.out _).mono ?_
      rintro e w5 ⟨rfl, hb5⟩
      have HB5 := hideC (HB4.out.trans (hb5.mono HB4.out.size))
      clear hb5
      go_wp2
      go_ret
      exact ⟨by simp, HB5.out⟩
    · have HE : Hid (∀ V, Calls Try.prog 6 #[.agg #[.int .i64 o, .int .i64 a, .int .i64 b, .int .i64 c, .int .i64 m]] V fun e w' => e = .returned (.tuple #[.string (PM.Ins.bytes ⟨o, a, b, c, m⟩), .int .i64 0]) ∧ Below V.heap.size V w') := fun V => by
        have h := encode_any ⟨o, a, b, c, m⟩ V
        rw [if_pos hf] at h
        exact h
      have HD1 : Hid (∀ V, Calls Try.prog 7 #[.string (PM.Ins.bytes ⟨o, a, b, c, m⟩)] V fun e w' => e = .returned (.tuple #[.agg #[.int .i64 o, .int .i64 a, .int .i64 b, .int .i64 c, .int .i64 m], .int .i64 0]) ∧ Below V.heap.size V w') := fun V => by
        have h := decode_yes (PM.Ins.bytes ⟨o, a, b, c, m⟩) V (PM.bytes_size _)
        rw [PM.ins_bytes _ hf] at h
        exact h
      obtain ⟨SI, hSI⟩ : ∃ SI, SI = PM.Ins.bytes ⟨o, a, b, c, m⟩ := ⟨_, rfl⟩
      rw [← hSI] at HE HD1
      clear hSI
      have HD := hideC (fun V => decode_no s V hs h8)
      unfold PM.Ins.cells at HD
      simp only at HD
      have HG := hideC hG
      have HB0 := hideC ((Below.refl w.heap.size w).alloc (Nat.le_refl _) (.cells #[.int .i64 o, .int .i64 a, .int .i64 b, .int .i64 c, .int .i64 m] 23))
      have BI := hideC (B.new w #[.int .i64 o, .int .i64 a, .int .i64 b, .int .i64 c, .int .i64 m] 23)
      clear hf h8 hs hG
      go_enter Try.func5, Try.ntmps5
      go_wp2_with fail
      refine (HE.out _).mono ?_
      rintro e w1 ⟨rfl, hb1⟩
      have HB1 := hideC (HB0.out.trans (hb1.mono HB0.out.size))
      have BI1 := hideC (B.below BI.out hb1 (B.isLt BI.out))
      clear hb1 HB0 BI HE
      go_wp2_with fail
      refine (HD1.out _).mono ?_
      rintro e w2 ⟨rfl, hb2⟩
      have HB2 := hideC (HB1.out.trans (hb2.mono HB1.out.size))
      have BI2 := hideC (B.below BI1.out hb2 (B.isLt BI1.out))
      have HA2 := hideC (HB2.out.alloc HB2.out.size (.cells #[.int .i64 o, .int .i64 a, .int .i64 b, .int .i64 c, .int .i64 m] 23))
      have l2 := B.isLt BI2.out
      clear hb2 HB1 BI1 HD1
      have j0 : w2.cell? ⟨w.heap.size, 0, none⟩ = some (.int .i64 o) := B.cell BI2.out 0 rfl
      have j1 : w2.cell? ⟨w.heap.size, 1, none⟩ = some (.int .i64 a) := B.cell BI2.out 1 rfl
      have j2 : w2.cell? ⟨w.heap.size, 2, none⟩ = some (.int .i64 b) := B.cell BI2.out 2 rfl
      have j3 : w2.cell? ⟨w.heap.size, 3, none⟩ = some (.int .i64 c) := B.cell BI2.out 3 rfl
      have j4 : w2.cell? ⟨w.heap.size, 4, none⟩ = some (.int .i64 m) := B.cell BI2.out 4 rfl
      go_wp2_with fail
      refine (HD.out _).mono ?_
      rintro e w3 ⟨rfl, hb3⟩
      have HB3 := hideC (HA2.out.trans (hb3.mono HA2.out.size))
      have HA3 := hideC (HB3.out.alloc HB3.out.size (.cells #[.int .i64 0, .int .i64 0, .int .i64 0, .int .i64 0, .int .i64 0] 23))
      clear hb3 HD
      go_wp2_with fail
      refine (HG.out _).mono ?_
      rintro e w5 ⟨rfl, hb5⟩
      have HB5 := hideC (HA3.out.trans (hb5.mono HA3.out.size))
      clear hb5
      go_wp2
      go_ret
      exact ⟨by simp, HB5.out⟩
  · by_cases h8 : s.size = 8
    · have HE : Hid (∀ V, Calls Try.prog 6 #[.agg #[.int .i64 o, .int .i64 a, .int .i64 b, .int .i64 c, .int .i64 m]] V fun e w' => e = .returned (.tuple #[.string ⟨#[]⟩, .int .i64 3]) ∧ Below V.heap.size V w') := fun V => by
        have h := encode_any ⟨o, a, b, c, m⟩ V
        rw [if_neg hf] at h
        exact h
      have HD := hideC (fun V => decode_yes s V h8)
      have HE2 : Hid (∀ V, Calls Try.prog 6 #[.agg (PM.ins s).cells] V fun e w' => e = .returned (.tuple #[.string s, .int .i64 0]) ∧ Below V.heap.size V w') := fun V => by
        have h := encode_any (PM.ins s) V
        rw [if_pos (PM.ins_fits s h8), PM.bytes_ins s h8] at h
        exact h
      obtain ⟨⟨xo, xa, xb, xc, xm⟩, hx⟩ : ∃ x, x = PM.ins s := ⟨_, rfl⟩
      rw [← hx] at HD HE2
      clear hx
      unfold PM.Ins.cells at HD HE2
      simp only at HD HE2
      have HG := hideC hG
      have HB0 := hideC ((Below.refl w.heap.size w).alloc (Nat.le_refl _) (.cells #[.int .i64 o, .int .i64 a, .int .i64 b, .int .i64 c, .int .i64 m] 23))
      have BI := hideC (B.new w #[.int .i64 o, .int .i64 a, .int .i64 b, .int .i64 c, .int .i64 m] 23)
      clear hf h8 hs hG
      go_enter Try.func5, Try.ntmps5
      go_wp2_with fail
      refine (HE.out _).mono ?_
      rintro e w1 ⟨rfl, hb1⟩
      have HB1 := hideC (HB0.out.trans (hb1.mono HB0.out.size))
      have BI1 := hideC (B.below BI.out hb1 (B.isLt BI.out))
      clear hb1 HB0 BI HE
      go_wp2_with fail
      refine (HD.out _).mono ?_
      rintro e w3 ⟨rfl, hb3⟩
      have HB3 := hideC (HB1.out.trans (hb3.mono HB1.out.size))
      have HA3 := hideC (HB3.out.alloc HB3.out.size (.cells #[.int .i64 xo, .int .i64 xa, .int .i64 xb, .int .i64 xc, .int .i64 xm] 23))
      clear hb3 HD
      go_wp2_with fail
      refine (HE2.out _).mono ?_
      rintro e w4 ⟨rfl, hb4⟩
      have HB4 := hideC (HA3.out.trans (hb4.mono HA3.out.size))
      clear hb4 HE2
      go_wp2_with fail
      refine (HG.out _).mono ?_
      rintro e w5 ⟨rfl, hb5⟩
      have HB5 := hideC (HB4.out.trans (hb5.mono HB4.out.size))
      clear hb5
      go_wp2
      go_ret
      exact ⟨by simp, HB5.out⟩
    · have HE : Hid (∀ V, Calls Try.prog 6 #[.agg #[.int .i64 o, .int .i64 a, .int .i64 b, .int .i64 c, .int .i64 m]] V fun e w' => e = .returned (.tuple #[.string ⟨#[]⟩, .int .i64 3]) ∧ Below V.heap.size V w') := fun V => by
        have h := encode_any ⟨o, a, b, c, m⟩ V
        rw [if_neg hf] at h
        exact h
      have HD := hideC (fun V => decode_no s V hs h8)
      unfold PM.Ins.cells at HD
      simp only at HD
      have HG := hideC hG
      have HB0 := hideC ((Below.refl w.heap.size w).alloc (Nat.le_refl _) (.cells #[.int .i64 o, .int .i64 a, .int .i64 b, .int .i64 c, .int .i64 m] 23))
      have BI := hideC (B.new w #[.int .i64 o, .int .i64 a, .int .i64 b, .int .i64 c, .int .i64 m] 23)
      clear hf h8 hs hG
      go_enter Try.func5, Try.ntmps5
      go_wp2_with fail
      refine (HE.out _).mono ?_
      rintro e w1 ⟨rfl, hb1⟩
      have HB1 := hideC (HB0.out.trans (hb1.mono HB0.out.size))
      have BI1 := hideC (B.below BI.out hb1 (B.isLt BI.out))
      clear hb1 HB0 BI HE
      go_wp2_with fail
      refine (HD.out _).mono ?_
      rintro e w3 ⟨rfl, hb3⟩
      have HB3 := hideC (HB1.out.trans (hb3.mono HB1.out.size))
      have HA3 := hideC (HB3.out.alloc HB3.out.size (.cells #[.int .i64 0, .int .i64 0, .int .i64 0, .int .i64 0, .int .i64 0] 23))
      clear hb3 HD
      go_wp2_with fail
      refine (HG.out _).mono ?_
      rintro e w5 ⟨rfl, hb5⟩
      have HB5 := hideC (HA3.out.trans (hb5.mono HA3.out.size))
      clear hb5
      go_wp2
      go_ret
      exact ⟨by simp, HB5.out⟩
end Go.Proofs.Ytamocjifffbhpaa.PW
