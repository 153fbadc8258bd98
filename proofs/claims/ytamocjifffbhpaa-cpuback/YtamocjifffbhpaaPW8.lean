import Derived.Test.YtamocjifffbhpaaPW6
namespace Go.Proofs.Ytamocjifffbhpaa.PW
open Go.RowKit
set_option linter.unusedVariables false
set_option maxRecDepth 100000

def kindN (i : PM.Ins) : Int := if i.bad then 4 else if i.op = 9 then 1 else if i.op = 10 then 2 else if i.op = 16 then 3 else 0
set_option maxHeartbeats 400000 in
theorem kindOf_any (i : PM.Ins) (w : World) (hi : i.fits) : Calls Try.prog 22 #[.agg i.cells] w fun e w' => e = .returned (.int .i64 (kindN i)) ∧ Below w.heap.size w w' := by
  have HB := hideC (fun V => isBad_any i V hi)
  have HK : Hid (kindN i = if i.bad then 4 else if i.op = 9 then 1 else if i.op = 10 then 2 else if i.op = 16 then 3 else 0) := rfl
  obtain ⟨op, a, b, c, m⟩ := i
  unfold PM.Ins.cells at HB ⊢
  simp only at HB HK ⊢
  obtain ⟨K, hK⟩ : ∃ K, K = kindN ⟨op, a, b, c, m⟩ := ⟨_, rfl⟩
  obtain ⟨D, hD⟩ : ∃ D, D = PM.Ins.bad ⟨op, a, b, c, m⟩ := ⟨_, rfl⟩
  rw [← hK] at HK ⊢
  rw [← hD] at HK HB
  clear hK hD hi
  have HB0 := hideC ((Below.refl w.heap.size w).alloc (Nat.le_refl _) (.cells #[.int .i64 op, .int .i64 a, .int .i64 b, .int .i64 c, .int .i64 m] 23))
  have BX := hideC (B.new w #[.int .i64 op, .int .i64 a, .int .i64 b, .int .i64 c, .int .i64 m] 23)
  cases D
  · simp only [Bool.false_eq_true, if_false] at HK
    by_cases h1 : op = 9
    · subst h1
      obtain rfl : K = 1 := by rw [HK.out]; rfl
      go_enter Try.func22, Try.ntmps22
      go_wp2_with fail
      refine (HB.out _).mono ?_
      rintro e w1 ⟨rfl, hb1⟩
      have HB1 := hideC (HB0.out.trans (hb1.mono HB0.out.size))
      have c0 := B.cell (B.below BX.out hb1 (B.isLt BX.out)) 0 rfl
      clear hb1
      go_wp2
      go_ret
      exact ⟨rfl, HB1.out⟩
    · by_cases h2 : op = 10
      · subst h2
        obtain rfl : K = 2 := by rw [HK.out]; rfl
        go_enter Try.func22, Try.ntmps22
        go_wp2_with fail
        refine (HB.out _).mono ?_
        rintro e w1 ⟨rfl, hb1⟩
        have HB1 := hideC (HB0.out.trans (hb1.mono HB0.out.size))
        have c0 := B.cell (B.below BX.out hb1 (B.isLt BX.out)) 0 rfl
        clear hb1
        go_wp2
        go_ret
        exact ⟨rfl, HB1.out⟩
      · by_cases h3 : op = 16
        · subst h3
          obtain rfl : K = 3 := by rw [HK.out]; rfl
          go_enter Try.func22, Try.ntmps22
          go_wp2_with fail
          refine (HB.out _).mono ?_
          rintro e w1 ⟨rfl, hb1⟩
          have HB1 := hideC (HB0.out.trans (hb1.mono HB0.out.size))
          have c0 := B.cell (B.below BX.out hb1 (B.isLt BX.out)) 0 rfl
          clear hb1
          go_wp2
          go_ret
          exact ⟨rfl, HB1.out⟩
        · obtain rfl : K = 0 := by rw [HK.out, if_neg h1, if_neg h2, if_neg h3]
          go_enter Try.func22, Try.ntmps22
          go_wp2_with fail
          refine (HB.out _).mono ?_
          rintro e w1 ⟨rfl, hb1⟩
          have HB1 := hideC (HB0.out.trans (hb1.mono HB0.out.size))
          have c0 := B.cell (B.below BX.out hb1 (B.isLt BX.out)) 0 rfl
          clear hb1
          go_wp2
          go_ret
          exact ⟨rfl, HB1.out⟩
  · simp only [if_true] at HK
    obtain rfl : K = 4 := HK.out
    go_enter Try.func22, Try.ntmps22
    go_wp2_with fail
    refine (HB.out _).mono ?_
    rintro e w1 ⟨rfl, hb1⟩
    have HB1 := hideC (HB0.out.trans (hb1.mono HB0.out.size))
    clear hb1
    go_wp2
    go_ret
    exact ⟨rfl, HB1.out⟩
end Go.Proofs.Ytamocjifffbhpaa.PW
