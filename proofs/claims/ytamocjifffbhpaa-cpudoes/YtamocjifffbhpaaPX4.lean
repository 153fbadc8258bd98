import Derived.Test.YtamocjifffbhpaaPX5
namespace Go.Proofs.Ytamocjifffbhpaa.PW
open Go.RowKit
set_option linter.unusedVariables false
set_option maxRecDepth 100000

theorem ask_five (p : PM.Pr) (i : PM.Ins) : ∃ k0 k1 k2 k3 k4 : Int, PM.askN p i = #[.int .i64 k0, .int .i64 k1, .int .i64 k2, .int .i64 k3, .int .i64 k4] := by
  unfold PM.askN
  split
  · exact ⟨_, _, _, _, _, rfl⟩
  · split
    · exact ⟨_, _, _, _, _, rfl⟩
    · split
      · exact ⟨_, _, _, _, _, rfl⟩
      · split
        · exact ⟨_, _, _, _, _, rfl⟩
        · exact ⟨_, _, _, _, _, rfl⟩
set_option maxHeartbeats 8000000 in
theorem does_any (p : PM.Pr) (s : ByteArray) (v : Int) (w : World) (hs : s.size ≤ maxLen) (hG : ∀ w : World, Calls Try.prog 11 #[] w fun e w' => e = .returned (.bool true) ∧ Below w.heap.size w w') : Calls Try.prog 4 #[.agg p.row, .string s, .int .i64 v] w fun e w' => e = .returned (.bool true) ∧ Below w.heap.size w w' := by
  unfold PM.Pr.row
  by_cases h8 : s.size = 8
  · cases hb : (PM.ins s).bad
    · have hfit := PM.ins_fits s h8
      have HA := hideC (fun V => ask_yes p s V h8)
      have HD := hideC (fun V => done_yes p s v V h8 hb)
      have HAR := hideC (fun V => askR_any p (PM.ins s) V hfit hb)
      have HDR := hideC (fun V => doneR_any p (PM.ins s) v V hfit hb)
      have HF := hideC (fun V => from_any s V h8)
      have HK := hideC (isBadR_any (PM.ins s))
      have hq : (s.size : Int) = 8 := by omega
      rw [hb] at HK
      obtain ⟨k0, k1, k2, k3, k4, hk⟩ := ask_five p (PM.ins s)
      rw [hk] at HA HAR
      obtain ⟨R, hR⟩ : ∃ R, R = PM.doneN p (PM.ins s) v := ⟨_, rfl⟩
      rw [← hR] at HD HDR
      obtain ⟨⟨xo, xa, xb, xc, xm⟩, hx⟩ : ∃ x, x = PM.ins s := ⟨_, rfl⟩
      rw [← hx] at HF HK HAR HDR
      clear hx hb hk hR hfit
      unfold PM.Ins.cells at HF HK HAR HDR
      simp only at HF HK HAR HDR
      unfold PM.Pr.val PM.Pr.row at HA HAR
      unfold PM.Pr.row at HD HDR
      unfold PM.Pr.val PM.Pr.row at HD
      have HG := hideC hG
      have heq8 := equal8
      have HB0 := hideC ((Below.refl w.heap.size w).alloc (Nat.le_refl _) (.cells #[.int .i64 (p.r 0), .int .i64 (p.r 1), .int .i64 (p.r 2), .int .i64 (p.r 3), .int .i64 (p.r 4), .int .i64 (p.r 5), .int .i64 (p.r 6), .int .i64 (p.r 7), .int .i64 p.pc, .int .i64 p.st, .int .i64 p.cd, .int .i64 p.fk, .int .i64 p.fa] 38))
      have BP := hideC (B.new w #[.int .i64 (p.r 0), .int .i64 (p.r 1), .int .i64 (p.r 2), .int .i64 (p.r 3), .int .i64 (p.r 4), .int .i64 (p.r 5), .int .i64 (p.r 6), .int .i64 (p.r 7), .int .i64 p.pc, .int .i64 p.st, .int .i64 p.cd, .int .i64 p.fk, .int .i64 p.fa] 38)
      clear h8 hs hG
      go_enter Try.func4, Try.ntmps4
      go_wp2_with fail
      refine (HA.out _).mono ?_
      rintro e w1 ⟨rfl, hb1⟩
      have HB1 := hideC (HB0.out.trans (hb1.mono HB0.out.size))
      have BP1 := hideC (B.below BP.out hb1 (B.isLt BP.out))
      have HA1 := hideC (HB1.out.alloc HB1.out.size (.cells #[.int .i64 k0, .int .i64 k1, .int .i64 k2, .int .i64 k3, .int .i64 k4] 40))
      have BPA := hideC (B.alloc BP1.out (.cells #[.int .i64 k0, .int .i64 k1, .int .i64 k2, .int .i64 k3, .int .i64 k4] 40))
      have BAA := hideC (B.new w1 #[.int .i64 k0, .int .i64 k1, .int .i64 k2, .int .i64 k3, .int .i64 k4] 40)
      have l1 := B.isLt BP1.out
      clear hb1 HB0 BP HA
      have p0 : w1.cell? ⟨w.heap.size, 0, none⟩ = some (.int .i64 (p.r 0)) := B.cell BP1.out 0 rfl
      have p1 : w1.cell? ⟨w.heap.size, 1, none⟩ = some (.int .i64 (p.r 1)) := B.cell BP1.out 1 rfl
      have p2 : w1.cell? ⟨w.heap.size, 2, none⟩ = some (.int .i64 (p.r 2)) := B.cell BP1.out 2 rfl
      have p3 : w1.cell? ⟨w.heap.size, 3, none⟩ = some (.int .i64 (p.r 3)) := B.cell BP1.out 3 rfl
      have p4 : w1.cell? ⟨w.heap.size, 4, none⟩ = some (.int .i64 (p.r 4)) := B.cell BP1.out 4 rfl
      have p5 : w1.cell? ⟨w.heap.size, 5, none⟩ = some (.int .i64 (p.r 5)) := B.cell BP1.out 5 rfl
      have p6 : w1.cell? ⟨w.heap.size, 6, none⟩ = some (.int .i64 (p.r 6)) := B.cell BP1.out 6 rfl
      have p7 : w1.cell? ⟨w.heap.size, 7, none⟩ = some (.int .i64 (p.r 7)) := B.cell BP1.out 7 rfl
      have p8 : w1.cell? ⟨w.heap.size, 8, none⟩ = some (.int .i64 p.pc) := B.cell BP1.out 8 rfl
      have p9 : w1.cell? ⟨w.heap.size, 9, none⟩ = some (.int .i64 p.st) := B.cell BP1.out 9 rfl
      have p10 : w1.cell? ⟨w.heap.size, 10, none⟩ = some (.int .i64 p.cd) := B.cell BP1.out 10 rfl
      have p11 : w1.cell? ⟨w.heap.size, 11, none⟩ = some (.int .i64 p.fk) := B.cell BP1.out 11 rfl
      have p12 : w1.cell? ⟨w.heap.size, 12, none⟩ = some (.int .i64 p.fa) := B.cell BP1.out 12 rfl
      go_wp2_with fail
      refine (HD.out _).mono ?_
      rintro e w2 ⟨rfl, hb2⟩
      have HB2 := hideC (HA1.out.trans (hb2.mono HA1.out.size))
      have BP2 := hideC (B.below BPA.out hb2 (B.isLt BPA.out))
      have BA2 := hideC (B.below BAA.out hb2 (B.isLt BAA.out))
      have HA2 := hideC (HB2.out.alloc HB2.out.size (.cells #[.int .i64 (R.r 0), .int .i64 (R.r 1), .int .i64 (R.r 2), .int .i64 (R.r 3), .int .i64 (R.r 4), .int .i64 (R.r 5), .int .i64 (R.r 6), .int .i64 (R.r 7), .int .i64 R.pc, .int .i64 R.st, .int .i64 R.cd, .int .i64 R.fk, .int .i64 R.fa] 38))
      have BPB := hideC (B.alloc BP2.out (.cells #[.int .i64 (R.r 0), .int .i64 (R.r 1), .int .i64 (R.r 2), .int .i64 (R.r 3), .int .i64 (R.r 4), .int .i64 (R.r 5), .int .i64 (R.r 6), .int .i64 (R.r 7), .int .i64 R.pc, .int .i64 R.st, .int .i64 R.cd, .int .i64 R.fk, .int .i64 R.fa] 38))
      have BAB := hideC (B.alloc BA2.out (.cells #[.int .i64 (R.r 0), .int .i64 (R.r 1), .int .i64 (R.r 2), .int .i64 (R.r 3), .int .i64 (R.r 4), .int .i64 (R.r 5), .int .i64 (R.r 6), .int .i64 (R.r 7), .int .i64 R.pc, .int .i64 R.st, .int .i64 R.cd, .int .i64 R.fk, .int .i64 R.fa] 38))
      have BQB := hideC (B.new w2 #[.int .i64 (R.r 0), .int .i64 (R.r 1), .int .i64 (R.r 2), .int .i64 (R.r 3), .int .i64 (R.r 4), .int .i64 (R.r 5), .int .i64 (R.r 6), .int .i64 (R.r 7), .int .i64 R.pc, .int .i64 R.st, .int .i64 R.cd, .int .i64 R.fk, .int .i64 R.fa] 38)
      clear hb2 HA1 BPA BAA HD l1 p0 p1 p2 p3 p4 p5 p6 p7 p8 p9 p10 p11 p12
      have HF1 := hideC (HA2.out)
      go_wp2_with fail
      refine (HF.out _).mono ?_
      rintro e w3 ⟨rfl, hb3⟩
      have HB3 := hideC (HA2.out.trans (hb3.mono HA2.out.size))
      have BP3 := hideC (B.below BPB.out hb3 (B.isLt BPB.out))
      have BA3 := hideC (B.below BAB.out hb3 (B.isLt BAB.out))
      have BQ3 := hideC (B.below BQB.out hb3 (B.isLt BQB.out))
      have HA3 := hideC (HB3.out.alloc HB3.out.size (.cells #[.int .i64 xo, .int .i64 xa, .int .i64 xb, .int .i64 xc, .int .i64 xm] 23))
      have BPC := hideC (B.alloc BP3.out (.cells #[.int .i64 xo, .int .i64 xa, .int .i64 xb, .int .i64 xc, .int .i64 xm] 23))
      have BAC := hideC (B.alloc BA3.out (.cells #[.int .i64 xo, .int .i64 xa, .int .i64 xb, .int .i64 xc, .int .i64 xm] 23))
      have BQC := hideC (B.alloc BQ3.out (.cells #[.int .i64 xo, .int .i64 xa, .int .i64 xb, .int .i64 xc, .int .i64 xm] 23))
      have BIC := hideC (B.new w3 #[.int .i64 xo, .int .i64 xa, .int .i64 xb, .int .i64 xc, .int .i64 xm] 23)
      clear hb3 HF1 HA2 BPB BAB BQB HF
      go_wp2_with fail
      refine (HK.out _).mono ?_
      rintro e w4 ⟨rfl, hb4⟩
      have HB4 := hideC (HA3.out.trans (hb4.mono HA3.out.size))
      have BP4 := hideC (B.below BPC.out hb4 (B.isLt BPC.out))
      have BA4 := hideC (B.below BAC.out hb4 (B.isLt BAC.out))
      have BQ4 := hideC (B.below BQC.out hb4 (B.isLt BQC.out))
      have BI4 := hideC (B.below BIC.out hb4 (B.isLt BIC.out))
      clear hb4 HA3 BPC BAC BQC BIC HK
      have lp := B.isLt BP4.out
      have la := B.isLt BA4.out
      have lq := B.isLt BQ4.out
      have li := B.isLt BI4.out
      have p0 : ∀ x : Q.Kin w4.heap.size w4, x.world.cell? ⟨w.heap.size, 0, none⟩ = some (.int .i64 (p.r 0)) := fun x => by rw [Q.cell_kin x _ _ lp]; exact B.cell BP4.out 0 rfl
      have p1 : ∀ x : Q.Kin w4.heap.size w4, x.world.cell? ⟨w.heap.size, 1, none⟩ = some (.int .i64 (p.r 1)) := fun x => by rw [Q.cell_kin x _ _ lp]; exact B.cell BP4.out 1 rfl
      have p2 : ∀ x : Q.Kin w4.heap.size w4, x.world.cell? ⟨w.heap.size, 2, none⟩ = some (.int .i64 (p.r 2)) := fun x => by rw [Q.cell_kin x _ _ lp]; exact B.cell BP4.out 2 rfl
      have p3 : ∀ x : Q.Kin w4.heap.size w4, x.world.cell? ⟨w.heap.size, 3, none⟩ = some (.int .i64 (p.r 3)) := fun x => by rw [Q.cell_kin x _ _ lp]; exact B.cell BP4.out 3 rfl
      have p4 : ∀ x : Q.Kin w4.heap.size w4, x.world.cell? ⟨w.heap.size, 4, none⟩ = some (.int .i64 (p.r 4)) := fun x => by rw [Q.cell_kin x _ _ lp]; exact B.cell BP4.out 4 rfl
      have p5 : ∀ x : Q.Kin w4.heap.size w4, x.world.cell? ⟨w.heap.size, 5, none⟩ = some (.int .i64 (p.r 5)) := fun x => by rw [Q.cell_kin x _ _ lp]; exact B.cell BP4.out 5 rfl
      have p6 : ∀ x : Q.Kin w4.heap.size w4, x.world.cell? ⟨w.heap.size, 6, none⟩ = some (.int .i64 (p.r 6)) := fun x => by rw [Q.cell_kin x _ _ lp]; exact B.cell BP4.out 6 rfl
      have p7 : ∀ x : Q.Kin w4.heap.size w4, x.world.cell? ⟨w.heap.size, 7, none⟩ = some (.int .i64 (p.r 7)) := fun x => by rw [Q.cell_kin x _ _ lp]; exact B.cell BP4.out 7 rfl
      have p8 : ∀ x : Q.Kin w4.heap.size w4, x.world.cell? ⟨w.heap.size, 8, none⟩ = some (.int .i64 p.pc) := fun x => by rw [Q.cell_kin x _ _ lp]; exact B.cell BP4.out 8 rfl
      have p9 : ∀ x : Q.Kin w4.heap.size w4, x.world.cell? ⟨w.heap.size, 9, none⟩ = some (.int .i64 p.st) := fun x => by rw [Q.cell_kin x _ _ lp]; exact B.cell BP4.out 9 rfl
      have p10 : ∀ x : Q.Kin w4.heap.size w4, x.world.cell? ⟨w.heap.size, 10, none⟩ = some (.int .i64 p.cd) := fun x => by rw [Q.cell_kin x _ _ lp]; exact B.cell BP4.out 10 rfl
      have p11 : ∀ x : Q.Kin w4.heap.size w4, x.world.cell? ⟨w.heap.size, 11, none⟩ = some (.int .i64 p.fk) := fun x => by rw [Q.cell_kin x _ _ lp]; exact B.cell BP4.out 11 rfl
      have p12 : ∀ x : Q.Kin w4.heap.size w4, x.world.cell? ⟨w.heap.size, 12, none⟩ = some (.int .i64 p.fa) := fun x => by rw [Q.cell_kin x _ _ lp]; exact B.cell BP4.out 12 rfl
      have x0 : ∀ x : Q.Kin w4.heap.size w4, x.world.cell? ⟨w1.heap.size, 0, none⟩ = some (.int .i64 k0) := fun x => by rw [Q.cell_kin x _ _ la]; exact B.cell BA4.out 0 rfl
      have x1 : ∀ x : Q.Kin w4.heap.size w4, x.world.cell? ⟨w1.heap.size, 1, none⟩ = some (.int .i64 k1) := fun x => by rw [Q.cell_kin x _ _ la]; exact B.cell BA4.out 1 rfl
      have x2 : ∀ x : Q.Kin w4.heap.size w4, x.world.cell? ⟨w1.heap.size, 2, none⟩ = some (.int .i64 k2) := fun x => by rw [Q.cell_kin x _ _ la]; exact B.cell BA4.out 2 rfl
      have x3 : ∀ x : Q.Kin w4.heap.size w4, x.world.cell? ⟨w1.heap.size, 3, none⟩ = some (.int .i64 k3) := fun x => by rw [Q.cell_kin x _ _ la]; exact B.cell BA4.out 3 rfl
      have x4 : ∀ x : Q.Kin w4.heap.size w4, x.world.cell? ⟨w1.heap.size, 4, none⟩ = some (.int .i64 k4) := fun x => by rw [Q.cell_kin x _ _ la]; exact B.cell BA4.out 4 rfl
      have y0 : ∀ x : Q.Kin w4.heap.size w4, x.world.cell? ⟨w2.heap.size, 0, none⟩ = some (.int .i64 (R.r 0)) := fun x => by rw [Q.cell_kin x _ _ lq]; exact B.cell BQ4.out 0 rfl
      have y1 : ∀ x : Q.Kin w4.heap.size w4, x.world.cell? ⟨w2.heap.size, 1, none⟩ = some (.int .i64 (R.r 1)) := fun x => by rw [Q.cell_kin x _ _ lq]; exact B.cell BQ4.out 1 rfl
      have y2 : ∀ x : Q.Kin w4.heap.size w4, x.world.cell? ⟨w2.heap.size, 2, none⟩ = some (.int .i64 (R.r 2)) := fun x => by rw [Q.cell_kin x _ _ lq]; exact B.cell BQ4.out 2 rfl
      have y3 : ∀ x : Q.Kin w4.heap.size w4, x.world.cell? ⟨w2.heap.size, 3, none⟩ = some (.int .i64 (R.r 3)) := fun x => by rw [Q.cell_kin x _ _ lq]; exact B.cell BQ4.out 3 rfl
      have y4 : ∀ x : Q.Kin w4.heap.size w4, x.world.cell? ⟨w2.heap.size, 4, none⟩ = some (.int .i64 (R.r 4)) := fun x => by rw [Q.cell_kin x _ _ lq]; exact B.cell BQ4.out 4 rfl
      have y5 : ∀ x : Q.Kin w4.heap.size w4, x.world.cell? ⟨w2.heap.size, 5, none⟩ = some (.int .i64 (R.r 5)) := fun x => by rw [Q.cell_kin x _ _ lq]; exact B.cell BQ4.out 5 rfl
      have y6 : ∀ x : Q.Kin w4.heap.size w4, x.world.cell? ⟨w2.heap.size, 6, none⟩ = some (.int .i64 (R.r 6)) := fun x => by rw [Q.cell_kin x _ _ lq]; exact B.cell BQ4.out 6 rfl
      have y7 : ∀ x : Q.Kin w4.heap.size w4, x.world.cell? ⟨w2.heap.size, 7, none⟩ = some (.int .i64 (R.r 7)) := fun x => by rw [Q.cell_kin x _ _ lq]; exact B.cell BQ4.out 7 rfl
      have y8 : ∀ x : Q.Kin w4.heap.size w4, x.world.cell? ⟨w2.heap.size, 8, none⟩ = some (.int .i64 R.pc) := fun x => by rw [Q.cell_kin x _ _ lq]; exact B.cell BQ4.out 8 rfl
      have y9 : ∀ x : Q.Kin w4.heap.size w4, x.world.cell? ⟨w2.heap.size, 9, none⟩ = some (.int .i64 R.st) := fun x => by rw [Q.cell_kin x _ _ lq]; exact B.cell BQ4.out 9 rfl
      have y10 : ∀ x : Q.Kin w4.heap.size w4, x.world.cell? ⟨w2.heap.size, 10, none⟩ = some (.int .i64 R.cd) := fun x => by rw [Q.cell_kin x _ _ lq]; exact B.cell BQ4.out 10 rfl
      have y11 : ∀ x : Q.Kin w4.heap.size w4, x.world.cell? ⟨w2.heap.size, 11, none⟩ = some (.int .i64 R.fk) := fun x => by rw [Q.cell_kin x _ _ lq]; exact B.cell BQ4.out 11 rfl
      have y12 : ∀ x : Q.Kin w4.heap.size w4, x.world.cell? ⟨w2.heap.size, 12, none⟩ = some (.int .i64 R.fa) := fun x => by rw [Q.cell_kin x _ _ lq]; exact B.cell BQ4.out 12 rfl
      have i0 : ∀ x : Q.Kin w4.heap.size w4, x.world.cell? ⟨w3.heap.size, 0, none⟩ = some (.int .i64 xo) := fun x => by rw [Q.cell_kin x _ _ li]; exact B.cell BI4.out 0 rfl
      have i1 : ∀ x : Q.Kin w4.heap.size w4, x.world.cell? ⟨w3.heap.size, 1, none⟩ = some (.int .i64 xa) := fun x => by rw [Q.cell_kin x _ _ li]; exact B.cell BI4.out 1 rfl
      have i2 : ∀ x : Q.Kin w4.heap.size w4, x.world.cell? ⟨w3.heap.size, 2, none⟩ = some (.int .i64 xb) := fun x => by rw [Q.cell_kin x _ _ li]; exact B.cell BI4.out 2 rfl
      have i3 : ∀ x : Q.Kin w4.heap.size w4, x.world.cell? ⟨w3.heap.size, 3, none⟩ = some (.int .i64 xc) := fun x => by rw [Q.cell_kin x _ _ li]; exact B.cell BI4.out 3 rfl
      have i4 : ∀ x : Q.Kin w4.heap.size w4, x.world.cell? ⟨w3.heap.size, 4, none⟩ = some (.int .i64 xm) := fun x => by rw [Q.cell_kin x _ _ li]; exact B.cell BI4.out 4 rfl
      have hkin := Q.kin_some w4
      go_wp2_with fail
      refine Q.region_kin (by kernel_rfl) (by kernel_rfl) ?_
      repeat (first | go_big_quiet_step (first | (go_at_call 11; with_reducible exact Q.calls_kin HG.out _) | (go_at_call 15; with_reducible exact Q.calls_kin HAR.out _) | (go_at_call 16; with_reducible exact Q.calls_kin HDR.out _)) | quiet_step (first | (go_at_call 11; with_reducible exact Q.calls_kin HG.out _) | (go_at_call 15; with_reducible exact Q.calls_kin HAR.out _) | (go_at_call 16; with_reducible exact Q.calls_kin HDR.out _)))
      refine wpQuiet_nil ?_
      intro _ hw'
      obtain ⟨x, hw''⟩ := hw'
      subst hw''
      go_wp2
      go_ret
      exact ⟨by simp, HB4.out.trans (x.keeps.mono HB4.out.size)⟩
    · have HA := hideC (fun V => ask_yes p s V h8)
      have HD := hideC (fun V => done_bad p s v V h8 hb)
      have ha : PM.askN p (PM.ins s) = #[.int .i64 4, .int .i64 0, .int .i64 0, .int .i64 0, .int .i64 0] := by unfold PM.askN; rw [hb]; rfl
      rw [ha] at HA
      have HF := hideC (fun V => from_any s V h8)
      have HK := hideC (isBadR_any (PM.ins s))
      have hq : (s.size : Int) = 8 := by omega
      rw [hb] at HK
      obtain ⟨⟨xo, xa, xb, xc, xm⟩, hx⟩ : ∃ x, x = PM.ins s := ⟨_, rfl⟩
      rw [← hx] at HF HK
      clear hx ha hb
      unfold PM.Ins.cells at HF HK
      simp only at HF HK
      unfold PM.Pr.val PM.Pr.row at HA HD
      have HG := hideC hG
      have heq8 := equal8
      have HB0 := hideC ((Below.refl w.heap.size w).alloc (Nat.le_refl _) (.cells #[.int .i64 (p.r 0), .int .i64 (p.r 1), .int .i64 (p.r 2), .int .i64 (p.r 3), .int .i64 (p.r 4), .int .i64 (p.r 5), .int .i64 (p.r 6), .int .i64 (p.r 7), .int .i64 p.pc, .int .i64 p.st, .int .i64 p.cd, .int .i64 p.fk, .int .i64 p.fa] 38))
      have BP := hideC (B.new w #[.int .i64 (p.r 0), .int .i64 (p.r 1), .int .i64 (p.r 2), .int .i64 (p.r 3), .int .i64 (p.r 4), .int .i64 (p.r 5), .int .i64 (p.r 6), .int .i64 (p.r 7), .int .i64 p.pc, .int .i64 p.st, .int .i64 p.cd, .int .i64 p.fk, .int .i64 p.fa] 38)
      clear h8 hs hG
      go_enter Try.func4, Try.ntmps4
      go_wp2_with fail
      refine (HA.out _).mono ?_
      rintro e w1 ⟨rfl, hb1⟩
      have HB1 := hideC (HB0.out.trans (hb1.mono HB0.out.size))
      have BP1 := hideC (B.below BP.out hb1 (B.isLt BP.out))
      have HA1 := hideC (HB1.out.alloc HB1.out.size (.cells #[.int .i64 4, .int .i64 0, .int .i64 0, .int .i64 0, .int .i64 0] 40))
      have BPA := hideC (B.alloc BP1.out (.cells #[.int .i64 4, .int .i64 0, .int .i64 0, .int .i64 0, .int .i64 0] 40))
      have BAA := hideC (B.new w1 #[.int .i64 4, .int .i64 0, .int .i64 0, .int .i64 0, .int .i64 0] 40)
      have l1 := B.isLt BP1.out
      clear hb1 HB0 BP HA
      have p0 : w1.cell? ⟨w.heap.size, 0, none⟩ = some (.int .i64 (p.r 0)) := B.cell BP1.out 0 rfl
      have p1 : w1.cell? ⟨w.heap.size, 1, none⟩ = some (.int .i64 (p.r 1)) := B.cell BP1.out 1 rfl
      have p2 : w1.cell? ⟨w.heap.size, 2, none⟩ = some (.int .i64 (p.r 2)) := B.cell BP1.out 2 rfl
      have p3 : w1.cell? ⟨w.heap.size, 3, none⟩ = some (.int .i64 (p.r 3)) := B.cell BP1.out 3 rfl
      have p4 : w1.cell? ⟨w.heap.size, 4, none⟩ = some (.int .i64 (p.r 4)) := B.cell BP1.out 4 rfl
      have p5 : w1.cell? ⟨w.heap.size, 5, none⟩ = some (.int .i64 (p.r 5)) := B.cell BP1.out 5 rfl
      have p6 : w1.cell? ⟨w.heap.size, 6, none⟩ = some (.int .i64 (p.r 6)) := B.cell BP1.out 6 rfl
      have p7 : w1.cell? ⟨w.heap.size, 7, none⟩ = some (.int .i64 (p.r 7)) := B.cell BP1.out 7 rfl
      have p8 : w1.cell? ⟨w.heap.size, 8, none⟩ = some (.int .i64 p.pc) := B.cell BP1.out 8 rfl
      have p9 : w1.cell? ⟨w.heap.size, 9, none⟩ = some (.int .i64 p.st) := B.cell BP1.out 9 rfl
      have p10 : w1.cell? ⟨w.heap.size, 10, none⟩ = some (.int .i64 p.cd) := B.cell BP1.out 10 rfl
      have p11 : w1.cell? ⟨w.heap.size, 11, none⟩ = some (.int .i64 p.fk) := B.cell BP1.out 11 rfl
      have p12 : w1.cell? ⟨w.heap.size, 12, none⟩ = some (.int .i64 p.fa) := B.cell BP1.out 12 rfl
      go_wp2_with fail
      refine (HD.out _).mono ?_
      rintro e w2 ⟨rfl, hb2⟩
      have HB2 := hideC (HA1.out.trans (hb2.mono HA1.out.size))
      have BP2 := hideC (B.below BPA.out hb2 (B.isLt BPA.out))
      have BA2 := hideC (B.below BAA.out hb2 (B.isLt BAA.out))
      have HA2 := hideC (HB2.out.alloc HB2.out.size (.cells #[.int .i64 0, .int .i64 0, .int .i64 0, .int .i64 0, .int .i64 0, .int .i64 0, .int .i64 0, .int .i64 0, .int .i64 0, .int .i64 0, .int .i64 0, .int .i64 0, .int .i64 0] 38))
      have BPB := hideC (B.alloc BP2.out (.cells #[.int .i64 0, .int .i64 0, .int .i64 0, .int .i64 0, .int .i64 0, .int .i64 0, .int .i64 0, .int .i64 0, .int .i64 0, .int .i64 0, .int .i64 0, .int .i64 0, .int .i64 0] 38))
      have BAB := hideC (B.alloc BA2.out (.cells #[.int .i64 0, .int .i64 0, .int .i64 0, .int .i64 0, .int .i64 0, .int .i64 0, .int .i64 0, .int .i64 0, .int .i64 0, .int .i64 0, .int .i64 0, .int .i64 0, .int .i64 0] 38))
      have BQB := hideC (B.new w2 #[.int .i64 0, .int .i64 0, .int .i64 0, .int .i64 0, .int .i64 0, .int .i64 0, .int .i64 0, .int .i64 0, .int .i64 0, .int .i64 0, .int .i64 0, .int .i64 0, .int .i64 0] 38)
      clear hb2 HA1 BPA BAA HD l1 p0 p1 p2 p3 p4 p5 p6 p7 p8 p9 p10 p11 p12
      have HF1 := hideC (HA2.out)
      go_wp2_with fail
      refine (HF.out _).mono ?_
      rintro e w3 ⟨rfl, hb3⟩
      have HB3 := hideC (HA2.out.trans (hb3.mono HA2.out.size))
      have BP3 := hideC (B.below BPB.out hb3 (B.isLt BPB.out))
      have BA3 := hideC (B.below BAB.out hb3 (B.isLt BAB.out))
      have BQ3 := hideC (B.below BQB.out hb3 (B.isLt BQB.out))
      have HA3 := hideC (HB3.out.alloc HB3.out.size (.cells #[.int .i64 xo, .int .i64 xa, .int .i64 xb, .int .i64 xc, .int .i64 xm] 23))
      have BPC := hideC (B.alloc BP3.out (.cells #[.int .i64 xo, .int .i64 xa, .int .i64 xb, .int .i64 xc, .int .i64 xm] 23))
      have BAC := hideC (B.alloc BA3.out (.cells #[.int .i64 xo, .int .i64 xa, .int .i64 xb, .int .i64 xc, .int .i64 xm] 23))
      have BQC := hideC (B.alloc BQ3.out (.cells #[.int .i64 xo, .int .i64 xa, .int .i64 xb, .int .i64 xc, .int .i64 xm] 23))
      have BIC := hideC (B.new w3 #[.int .i64 xo, .int .i64 xa, .int .i64 xb, .int .i64 xc, .int .i64 xm] 23)
      clear hb3 HF1 HA2 BPB BAB BQB HF
      go_wp2_with fail
      refine (HK.out _).mono ?_
      rintro e w4 ⟨rfl, hb4⟩
      have HB4 := hideC (HA3.out.trans (hb4.mono HA3.out.size))
      have BP4 := hideC (B.below BPC.out hb4 (B.isLt BPC.out))
      have BA4 := hideC (B.below BAC.out hb4 (B.isLt BAC.out))
      have BQ4 := hideC (B.below BQC.out hb4 (B.isLt BQC.out))
      have BI4 := hideC (B.below BIC.out hb4 (B.isLt BIC.out))
      clear hb4 HA3 BPC BAC BQC BIC HK
      go_wp2_with fail
      refine (HG.out _).mono ?_
      rintro e w9 ⟨rfl, hb9⟩
      have HB9 := hideC (HB4.out.trans (hb9.mono HB4.out.size))
      have BA9 := hideC (B.below BA4.out hb9 (B.isLt BA4.out))
      have BQ9 := hideC (B.below BQ4.out hb9 (B.isLt BQ4.out))
      clear hb9
      have x0 : w9.cell? ⟨w1.heap.size, 0, none⟩ = some (.int .i64 4) := B.cell BA9.out 0 rfl
      have x1 : w9.cell? ⟨w1.heap.size, 1, none⟩ = some (.int .i64 0) := B.cell BA9.out 1 rfl
      have x2 : w9.cell? ⟨w1.heap.size, 2, none⟩ = some (.int .i64 0) := B.cell BA9.out 2 rfl
      have x3 : w9.cell? ⟨w1.heap.size, 3, none⟩ = some (.int .i64 0) := B.cell BA9.out 3 rfl
      have x4 : w9.cell? ⟨w1.heap.size, 4, none⟩ = some (.int .i64 0) := B.cell BA9.out 4 rfl
      have y0 : w9.cell? ⟨w2.heap.size, 0, none⟩ = some (.int .i64 0) := B.cell BQ9.out 0 rfl
      have y1 : w9.cell? ⟨w2.heap.size, 1, none⟩ = some (.int .i64 0) := B.cell BQ9.out 1 rfl
      have y2 : w9.cell? ⟨w2.heap.size, 2, none⟩ = some (.int .i64 0) := B.cell BQ9.out 2 rfl
      have y3 : w9.cell? ⟨w2.heap.size, 3, none⟩ = some (.int .i64 0) := B.cell BQ9.out 3 rfl
      have y4 : w9.cell? ⟨w2.heap.size, 4, none⟩ = some (.int .i64 0) := B.cell BQ9.out 4 rfl
      have y5 : w9.cell? ⟨w2.heap.size, 5, none⟩ = some (.int .i64 0) := B.cell BQ9.out 5 rfl
      have y6 : w9.cell? ⟨w2.heap.size, 6, none⟩ = some (.int .i64 0) := B.cell BQ9.out 6 rfl
      have y7 : w9.cell? ⟨w2.heap.size, 7, none⟩ = some (.int .i64 0) := B.cell BQ9.out 7 rfl
      have y8 : w9.cell? ⟨w2.heap.size, 8, none⟩ = some (.int .i64 0) := B.cell BQ9.out 8 rfl
      have y9 : w9.cell? ⟨w2.heap.size, 9, none⟩ = some (.int .i64 0) := B.cell BQ9.out 9 rfl
      have y10 : w9.cell? ⟨w2.heap.size, 10, none⟩ = some (.int .i64 0) := B.cell BQ9.out 10 rfl
      have y11 : w9.cell? ⟨w2.heap.size, 11, none⟩ = some (.int .i64 0) := B.cell BQ9.out 11 rfl
      have y12 : w9.cell? ⟨w2.heap.size, 12, none⟩ = some (.int .i64 0) := B.cell BQ9.out 12 rfl
      go_wp2
      go_ret
      exact ⟨by simp, HB9.out⟩
  · have HA := hideC (fun V => ask_no p s V hs h8)
    have HD := hideC (fun V => done_no p s v V hs h8)
    unfold PM.Pr.val PM.Pr.row at HA HD
    have hq : decide ((s.size : Int) = 8) = false := by simp; omega
    have hq2 : ((s.size : Int) != 8) = true := by simp; omega
    have HG := hideC hG
    have heq8 := equal8
    have HB0 := hideC ((Below.refl w.heap.size w).alloc (Nat.le_refl _) (.cells #[.int .i64 (p.r 0), .int .i64 (p.r 1), .int .i64 (p.r 2), .int .i64 (p.r 3), .int .i64 (p.r 4), .int .i64 (p.r 5), .int .i64 (p.r 6), .int .i64 (p.r 7), .int .i64 p.pc, .int .i64 p.st, .int .i64 p.cd, .int .i64 p.fk, .int .i64 p.fa] 38))
    have BP := hideC (B.new w #[.int .i64 (p.r 0), .int .i64 (p.r 1), .int .i64 (p.r 2), .int .i64 (p.r 3), .int .i64 (p.r 4), .int .i64 (p.r 5), .int .i64 (p.r 6), .int .i64 (p.r 7), .int .i64 p.pc, .int .i64 p.st, .int .i64 p.cd, .int .i64 p.fk, .int .i64 p.fa] 38)
    clear h8 hs hG
    go_enter Try.func4, Try.ntmps4
    go_wp2_with fail
    refine (HA.out _).mono ?_
    rintro e w1 ⟨rfl, hb1⟩
    have HB1 := hideC (HB0.out.trans (hb1.mono HB0.out.size))
    have BP1 := hideC (B.below BP.out hb1 (B.isLt BP.out))
    have HA1 := hideC (HB1.out.alloc HB1.out.size (.cells #[.int .i64 0, .int .i64 0, .int .i64 0, .int .i64 0, .int .i64 0] 40))
    have BPA := hideC (B.alloc BP1.out (.cells #[.int .i64 0, .int .i64 0, .int .i64 0, .int .i64 0, .int .i64 0] 40))
    have BAA := hideC (B.new w1 #[.int .i64 0, .int .i64 0, .int .i64 0, .int .i64 0, .int .i64 0] 40)
    have l1 := B.isLt BP1.out
    clear hb1 HB0 BP HA
    have p0 : w1.cell? ⟨w.heap.size, 0, none⟩ = some (.int .i64 (p.r 0)) := B.cell BP1.out 0 rfl
    have p1 : w1.cell? ⟨w.heap.size, 1, none⟩ = some (.int .i64 (p.r 1)) := B.cell BP1.out 1 rfl
    have p2 : w1.cell? ⟨w.heap.size, 2, none⟩ = some (.int .i64 (p.r 2)) := B.cell BP1.out 2 rfl
    have p3 : w1.cell? ⟨w.heap.size, 3, none⟩ = some (.int .i64 (p.r 3)) := B.cell BP1.out 3 rfl
    have p4 : w1.cell? ⟨w.heap.size, 4, none⟩ = some (.int .i64 (p.r 4)) := B.cell BP1.out 4 rfl
    have p5 : w1.cell? ⟨w.heap.size, 5, none⟩ = some (.int .i64 (p.r 5)) := B.cell BP1.out 5 rfl
    have p6 : w1.cell? ⟨w.heap.size, 6, none⟩ = some (.int .i64 (p.r 6)) := B.cell BP1.out 6 rfl
    have p7 : w1.cell? ⟨w.heap.size, 7, none⟩ = some (.int .i64 (p.r 7)) := B.cell BP1.out 7 rfl
    have p8 : w1.cell? ⟨w.heap.size, 8, none⟩ = some (.int .i64 p.pc) := B.cell BP1.out 8 rfl
    have p9 : w1.cell? ⟨w.heap.size, 9, none⟩ = some (.int .i64 p.st) := B.cell BP1.out 9 rfl
    have p10 : w1.cell? ⟨w.heap.size, 10, none⟩ = some (.int .i64 p.cd) := B.cell BP1.out 10 rfl
    have p11 : w1.cell? ⟨w.heap.size, 11, none⟩ = some (.int .i64 p.fk) := B.cell BP1.out 11 rfl
    have p12 : w1.cell? ⟨w.heap.size, 12, none⟩ = some (.int .i64 p.fa) := B.cell BP1.out 12 rfl
    go_wp2_with fail
    refine (HD.out _).mono ?_
    rintro e w2 ⟨rfl, hb2⟩
    have HB2 := hideC (HA1.out.trans (hb2.mono HA1.out.size))
    have BP2 := hideC (B.below BPA.out hb2 (B.isLt BPA.out))
    have BA2 := hideC (B.below BAA.out hb2 (B.isLt BAA.out))
    have HA2 := hideC (HB2.out.alloc HB2.out.size (.cells #[.int .i64 0, .int .i64 0, .int .i64 0, .int .i64 0, .int .i64 0, .int .i64 0, .int .i64 0, .int .i64 0, .int .i64 0, .int .i64 0, .int .i64 0, .int .i64 0, .int .i64 0] 38))
    have BPB := hideC (B.alloc BP2.out (.cells #[.int .i64 0, .int .i64 0, .int .i64 0, .int .i64 0, .int .i64 0, .int .i64 0, .int .i64 0, .int .i64 0, .int .i64 0, .int .i64 0, .int .i64 0, .int .i64 0, .int .i64 0] 38))
    have BAB := hideC (B.alloc BA2.out (.cells #[.int .i64 0, .int .i64 0, .int .i64 0, .int .i64 0, .int .i64 0, .int .i64 0, .int .i64 0, .int .i64 0, .int .i64 0, .int .i64 0, .int .i64 0, .int .i64 0, .int .i64 0] 38))
    have BQB := hideC (B.new w2 #[.int .i64 0, .int .i64 0, .int .i64 0, .int .i64 0, .int .i64 0, .int .i64 0, .int .i64 0, .int .i64 0, .int .i64 0, .int .i64 0, .int .i64 0, .int .i64 0, .int .i64 0] 38)
    clear hb2 HA1 BPA BAA HD l1 p0 p1 p2 p3 p4 p5 p6 p7 p8 p9 p10 p11 p12
    go_wp2_with fail
    refine (HG.out _).mono ?_
    rintro e w9 ⟨rfl, hb9⟩
    have HB9 := hideC (HA2.out.trans (hb9.mono HA2.out.size))
    have BA9 := hideC (B.below BAB.out hb9 (B.isLt BAB.out))
    have BQ9 := hideC (B.below BQB.out hb9 (B.isLt BQB.out))
    clear hb9
    have x0 : w9.cell? ⟨w1.heap.size, 0, none⟩ = some (.int .i64 0) := B.cell BA9.out 0 rfl
    have x1 : w9.cell? ⟨w1.heap.size, 1, none⟩ = some (.int .i64 0) := B.cell BA9.out 1 rfl
    have x2 : w9.cell? ⟨w1.heap.size, 2, none⟩ = some (.int .i64 0) := B.cell BA9.out 2 rfl
    have x3 : w9.cell? ⟨w1.heap.size, 3, none⟩ = some (.int .i64 0) := B.cell BA9.out 3 rfl
    have x4 : w9.cell? ⟨w1.heap.size, 4, none⟩ = some (.int .i64 0) := B.cell BA9.out 4 rfl
    have y0 : w9.cell? ⟨w2.heap.size, 0, none⟩ = some (.int .i64 0) := B.cell BQ9.out 0 rfl
    have y1 : w9.cell? ⟨w2.heap.size, 1, none⟩ = some (.int .i64 0) := B.cell BQ9.out 1 rfl
    have y2 : w9.cell? ⟨w2.heap.size, 2, none⟩ = some (.int .i64 0) := B.cell BQ9.out 2 rfl
    have y3 : w9.cell? ⟨w2.heap.size, 3, none⟩ = some (.int .i64 0) := B.cell BQ9.out 3 rfl
    have y4 : w9.cell? ⟨w2.heap.size, 4, none⟩ = some (.int .i64 0) := B.cell BQ9.out 4 rfl
    have y5 : w9.cell? ⟨w2.heap.size, 5, none⟩ = some (.int .i64 0) := B.cell BQ9.out 5 rfl
    have y6 : w9.cell? ⟨w2.heap.size, 6, none⟩ = some (.int .i64 0) := B.cell BQ9.out 6 rfl
    have y7 : w9.cell? ⟨w2.heap.size, 7, none⟩ = some (.int .i64 0) := B.cell BQ9.out 7 rfl
    have y8 : w9.cell? ⟨w2.heap.size, 8, none⟩ = some (.int .i64 0) := B.cell BQ9.out 8 rfl
    have y9 : w9.cell? ⟨w2.heap.size, 9, none⟩ = some (.int .i64 0) := B.cell BQ9.out 9 rfl
    have y10 : w9.cell? ⟨w2.heap.size, 10, none⟩ = some (.int .i64 0) := B.cell BQ9.out 10 rfl
    have y11 : w9.cell? ⟨w2.heap.size, 11, none⟩ = some (.int .i64 0) := B.cell BQ9.out 11 rfl
    have y12 : w9.cell? ⟨w2.heap.size, 12, none⟩ = some (.int .i64 0) := B.cell BQ9.out 12 rfl
    go_wp2
    go_ret
    exact ⟨by simp, HB9.out⟩
end Go.Proofs.Ytamocjifffbhpaa.PW
