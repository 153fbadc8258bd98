import Derived.Test.YtklobjfhjlkgfaaDoorGA04
/- The reference's InstrText: the roads of an instruction that is not bad. -/
namespace Go.Proofs.YtklobjfhjlkgfaaDoor.TW
open Go.RowKit
set_option linter.unusedVariables false
set_option maxRecDepth 100000
set_option linter.unusedSimpArgs false

theorem plain_op (i : PM.Ins) : (plainN i).op = i.op := by
  unfold plainN
  repeat' split
  all_goals rfl
theorem four_ne {a b c m a2 b2 c2 m2 o : Int} (h : (⟨o, a2, b2, c2, m2⟩ : PM.Ins) ≠ ⟨o, a, b, c, m⟩) : a2 ≠ a ∨ (a2 = a ∧ b2 ≠ b) ∨ (a2 = a ∧ b2 = b ∧ c2 ≠ c) ∨ (a2 = a ∧ b2 = b ∧ c2 = c ∧ m2 ≠ m) := by
  by_cases h1 : a2 = a
  · by_cases h2 : b2 = b
    · by_cases h3 : c2 = c
      · by_cases h4 : m2 = m
        · subst h1; subst h2; subst h3; subst h4; exact (h rfl).elim
        · exact .inr (.inr (.inr ⟨h1, h2, h3, h4⟩))
      · exact .inr (.inr (.inl ⟨h1, h2, h3⟩))
    · exact .inr (.inl ⟨h1, h2⟩)
  · exact .inl h1
set_option maxHeartbeats 4000000 in
theorem text_raw (i : PM.Ins) (w : World) (h : i.bad = false) (hp : plainN i ≠ i) (hf : i.fits) : Calls Tryd.prog 8 #[.agg i.cells] w fun e w' => e = .returned (.string (textN i)) ∧ Below w.heap.size w w' := by
  have HT : Hid (textN i = wordsS rawS [i.op, i.a, i.b, i.c, i.m]) := by
    show _ = _
    unfold textN isRaw
    rw [h, decide_eq_true hp]
    rfl
  have HBD : Hid (∀ V, Calls Tryd.prog 23 #[.agg i.cells] V fun e w' => e = .returned (.bool false) ∧ Below V.heap.size V w') := fun V => by
    have hh := PW.isBadR_any i V
    rw [h] at hh
    exact hh
  have HPL := hideC (plain_any i)
  obtain ⟨⟨o2, a2', b2, c2', m2⟩, hpl⟩ : ∃ p, p = plainN i := ⟨_, rfl⟩
  have ho2 : o2 = i.op := by rw [← plain_op i, ← hpl]
  rw [← hpl] at HPL hp
  clear hpl
  obtain ⟨R, hR⟩ : ∃ R, R = textN i := ⟨_, rfl⟩
  rw [← hR] at HT ⊢
  obtain ⟨op, a, b, c, m⟩ := i
  unfold PM.Ins.fits PM.Byt at hf
  simp only at hf HT
  simp only [PM.Ins.cells] at HBD HPL ⊢
  clear h hR
  simp only at ho2
  have ho3 := ho2.symm
  subst ho3
  have hd := four_ne hp
  clear hp
  have HB0 := hideC ((Below.refl w.heap.size w).alloc (Nat.le_refl _) (.cells #[.int .i64 op, .int .i64 a, .int .i64 b, .int .i64 c, .int .i64 m] 23))
  have BX := hideC (B.new w #[.int .i64 op, .int .i64 a, .int .i64 b, .int .i64 c, .int .i64 m] 23)
  obtain ⟨V0, hV0⟩ : ∃ V0, V0 = w.alloc (.cells #[.int .i64 op, .int .i64 a, .int .i64 b, .int .i64 c, .int .i64 m] 23) := ⟨_, rfl⟩
  have HV0 := hideC hV0
  rw [← hV0] at HB0 BX
  clear hV0
  rcases hd with h1 | ⟨h2, h1⟩ | ⟨h2, h3, h1⟩ | ⟨h2, h3, h4, h1⟩
  all_goals
    have hbq := beq_eq_false_iff_ne.2 h1
    try have hb2 := beq_iff_eq.2 h2
    try have hb3 := beq_iff_eq.2 h3
    try have hb4 := beq_iff_eq.2 h4
    clear h1
    try clear h2
    try clear h3
    try clear h4
    go_enter Tryd.func8, Tryd.ntmps8
    go_wp2_with fail
    rw [← HV0.out]
    have hkin := Q.kin_some V0
    have HU : Hid (∀ x : Q.Kin V0.heap.size V0, x.world.heap[w.heap.size]? = some (.cells #[.int .i64 op, .int .i64 a, .int .i64 b, .int .i64 c, .int .i64 m] 23 (0, 0))) := fun x => B.below BX.out x.keeps (B.isLt BX.out)
    have a0 : ∀ x : Q.Kin V0.heap.size V0, x.world.cell? ⟨w.heap.size, 0, none⟩ = some (.int .i64 op) := fun x => B.cell (HU.out x) 0 rfl
    have a1 : ∀ x : Q.Kin V0.heap.size V0, x.world.cell? ⟨w.heap.size, 1, none⟩ = some (.int .i64 a) := fun x => B.cell (HU.out x) 1 rfl
    have a2 : ∀ x : Q.Kin V0.heap.size V0, x.world.cell? ⟨w.heap.size, 2, none⟩ = some (.int .i64 b) := fun x => B.cell (HU.out x) 2 rfl
    have a3 : ∀ x : Q.Kin V0.heap.size V0, x.world.cell? ⟨w.heap.size, 3, none⟩ = some (.int .i64 c) := fun x => B.cell (HU.out x) 3 rfl
    have a4 : ∀ x : Q.Kin V0.heap.size V0, x.world.cell? ⟨w.heap.size, 4, none⟩ = some (.int .i64 m) := fun x => B.cell (HU.out x) 4 rfl
    have HBD2 : Hid (∀ V, Below V0.heap.size V0 V → Calls Tryd.prog 23 #[.agg #[.int .i64 op, .int .i64 a, .int .i64 b, .int .i64 c, .int .i64 m]] V fun e w' => e = .returned (.bool false) ∧ Below V.heap.size V w') := fun V _ => HBD.out V
    have HPL2 : Hid (∀ V, Below V0.heap.size V0 V → Calls Tryd.prog 24 #[.agg #[.int .i64 op, .int .i64 a, .int .i64 b, .int .i64 c, .int .i64 m]] V fun e w' => e = .returned (.agg #[.int .i64 op, .int .i64 a2', .int .i64 b2, .int .i64 c2', .int .i64 m2]) ∧ Below V.heap.size V w') := fun V _ => HPL.out V
    refine Q.region_kin (by kernel_rfl) (by kernel_rfl) ?_
    repeat (first | go_big_quiet_step ((first | (go_at_call 23; with_reducible exact calls_belowT HBD2.out _) | (go_at_call 24; with_reducible exact calls_belowT HPL2.out _))) | quiet_step ((first | (go_at_call 23; with_reducible exact calls_belowT HBD2.out _) | (go_at_call 24; with_reducible exact calls_belowT HPL2.out _))))
    refine wpQuiet_nil ?_
    intro _ hw'
    obtain ⟨x, hw''⟩ := hw'
    subst hw''
    have HKX := hideC (add_below HB0.out x.keeps)
    have HB5 := hideC (HU.out x)
    clear a0 a1 a2 a3 a4 hkin HBD2 HU BX
    obtain ⟨w1, hw1⟩ : ∃ w1, w1 = x.world := ⟨_, rfl⟩
    rw [← hw1] at HKX HB5 ⊢
    clear hw1 x
    have c0 := B.cell HB5.out 0 rfl
    have c1 := B.cell HB5.out 1 rfl
    have c2 := B.cell HB5.out 2 rfl
    have c3 := B.cell HB5.out 3 rfl
    have c4 := B.cell HB5.out 4 rfl
    have HWD : Hid (Calls Tryd.prog 25 #[.string rawS, .slice (some ⟨w1.heap.size, 0, none⟩) 5 5] (w1.alloc (.cells #[.int .i64 op, .int .i64 a, .int .i64 b, .int .i64 c, .int .i64 m] 3)) fun e w' => e = .returned (.string R) ∧ Below (w1.alloc (.cells #[.int .i64 op, .int .i64 a, .int .i64 b, .int .i64 c, .int .i64 m] 3)).heap.size (w1.alloc (.cells #[.int .i64 op, .int .i64 a, .int .i64 b, .int .i64 c, .int .i64 m] 3)) w') := by
      rw [HT.out]
      have HN := B.new w1 #[.int .i64 op, .int .i64 a, .int .i64 b, .int .i64 c, .int .i64 m] 3
      refine words_any rawS [op, a, b, c, m] w1.heap.size 0 5 _ (fun k hk => ?_) (by simp) (fun k hk => ?_) (by decide) (by simp)
      · rw [Nat.zero_add]
        match k, hk with
        | 0, _ => exact B.cell HN 0 rfl
        | 1, _ => exact B.cell HN 1 rfl
        | 2, _ => exact B.cell HN 2 rfl
        | 3, _ => exact B.cell HN 3 rfl
        | 4, _ => exact B.cell HN 4 rfl
      · unfold I64
        match k, hk with
        | 0, _ => simp; omega
        | 1, _ => simp; omega
        | 2, _ => simp; omega
        | 3, _ => simp; omega
        | 4, _ => simp; omega
    have HBA := hideC (HKX.out.alloc HKX.out.size (.cells #[.int .i64 op, .int .i64 a, .int .i64 b, .int .i64 c, .int .i64 m] 3))
    go_wp2_with (go_at_call 25; refine HWD.out.mono ?_; rintro e w2 ⟨rfl, hb2⟩; have HB2 := hideC (add_below HBA.out hb2); clear hb2)
    go_ret
    exact ⟨rfl, HB2.out⟩
end Go.Proofs.YtklobjfhjlkgfaaDoor.TW
