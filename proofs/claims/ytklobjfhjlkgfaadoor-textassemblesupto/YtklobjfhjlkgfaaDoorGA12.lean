import Derived.Test.YtklobjfhjlkgfaaDoorGA11
/- The reference's InstrText: a call. -/
namespace Go.Proofs.YtklobjfhjlkgfaaDoor.TW
open Go.RowKit
set_option linter.unusedVariables false
set_option maxRecDepth 100000
set_option linter.unusedSimpArgs false

theorem callNames_own (w : World) : Calls Tryd.prog 27 #[] w fun e w' => e = .returned (.slice (some ⟨w.heap.size, 0, none⟩) 7 7) ∧ w'.heap[w.heap.size]? = some (.cells (strC callL) 9 (0, 0)) ∧ Below w.heap.size w w' :=
  (callNames_any w).mono fun e w' ⟨he, hw⟩ => ⟨he, by rw [hw]; exact B.new w (strC callL) 9, by rw [hw]; exact (Below.refl _ _).alloc (Nat.le_refl _) _⟩
set_option maxHeartbeats 4000000 in
theorem call_1 (w : World) (hb : ∀ V, Calls Tryd.prog 23 #[.agg #[.int .i64 16, .int .i64 0, .int .i64 0, .int .i64 0, .int .i64 1]] V fun e w' => e = .returned (.bool false) ∧ Below V.heap.size V w') :
    Calls Tryd.prog 8 #[.agg #[.int .i64 16, .int .i64 0, .int .i64 0, .int .i64 0, .int .i64 1]] w fun e w' => e = .returned (.string (callL.getD 1 (str []))) ∧ Below w.heap.size w w' := by
  have HBD := hideC hb
  have HPL : Hid (∀ V, Calls Tryd.prog 24 #[.agg #[.int .i64 16, .int .i64 0, .int .i64 0, .int .i64 0, .int .i64 1]] V fun e w' => e = .returned (.agg #[.int .i64 16, .int .i64 0, .int .i64 0, .int .i64 0, .int .i64 1]) ∧ Below V.heap.size V w') := fun V => plain_16 0 0 0 1 V
  have HN16 : Hid ((strC opL)[16]? = some (.string (str []))) := rfl
  obtain ⟨NM, hNM⟩ : ∃ NM, NM = callL.getD 1 (str []) := ⟨_, rfl⟩
  have HNM : Hid ((strC callL)[1]? = some (.string NM)) := by rw [hNM]; rfl
  obtain ⟨N0, hN0⟩ : ∃ N0, N0 = str [] := ⟨_, rfl⟩
  rw [← hN0] at HN16
  rw [← hNM]
  clear hb hNM hN0
  have HB0 := hideC ((Below.refl w.heap.size w).alloc (Nat.le_refl _) (.cells #[.int .i64 16, .int .i64 0, .int .i64 0, .int .i64 0, .int .i64 1] 23))
  have BX := hideC (B.new w #[.int .i64 16, .int .i64 0, .int .i64 0, .int .i64 0, .int .i64 1] 23)
  obtain ⟨V0, hV0⟩ : ∃ V0, V0 = w.alloc (.cells #[.int .i64 16, .int .i64 0, .int .i64 0, .int .i64 0, .int .i64 1] 23) := ⟨_, rfl⟩
  have HV0 := hideC hV0
  rw [← hV0] at HB0 BX
  clear hV0
  go_enter Tryd.func8, Tryd.ntmps8
  go_wp2_with fail
  rw [← HV0.out]
  have hkin := Q.kin_some V0
  have HU : Hid (∀ x : Q.Kin V0.heap.size V0, x.world.heap[w.heap.size]? = some (.cells #[.int .i64 16, .int .i64 0, .int .i64 0, .int .i64 0, .int .i64 1] 23 (0, 0))) := fun x => B.below BX.out x.keeps (B.isLt BX.out)
  have a0 : ∀ x : Q.Kin V0.heap.size V0, x.world.cell? ⟨w.heap.size, 0, none⟩ = some (.int .i64 16) := fun x => B.cell (HU.out x) 0 rfl
  have a1 : ∀ x : Q.Kin V0.heap.size V0, x.world.cell? ⟨w.heap.size, 1, none⟩ = some (.int .i64 0) := fun x => B.cell (HU.out x) 1 rfl
  have a2 : ∀ x : Q.Kin V0.heap.size V0, x.world.cell? ⟨w.heap.size, 2, none⟩ = some (.int .i64 0) := fun x => B.cell (HU.out x) 2 rfl
  have a3 : ∀ x : Q.Kin V0.heap.size V0, x.world.cell? ⟨w.heap.size, 3, none⟩ = some (.int .i64 0) := fun x => B.cell (HU.out x) 3 rfl
  have a4 : ∀ x : Q.Kin V0.heap.size V0, x.world.cell? ⟨w.heap.size, 4, none⟩ = some (.int .i64 1) := fun x => B.cell (HU.out x) 4 rfl
  have HBD2 : Hid (∀ V, Below V0.heap.size V0 V → Calls Tryd.prog 23 #[.agg #[.int .i64 16, .int .i64 0, .int .i64 0, .int .i64 0, .int .i64 1]] V fun e w' => e = .returned (.bool false) ∧ Below V.heap.size V w') := fun V _ => HBD.out V
  have HPL2 : Hid (∀ V, Below V0.heap.size V0 V → Calls Tryd.prog 24 #[.agg #[.int .i64 16, .int .i64 0, .int .i64 0, .int .i64 0, .int .i64 1]] V fun e w' => e = .returned (.agg #[.int .i64 16, .int .i64 0, .int .i64 0, .int .i64 0, .int .i64 1]) ∧ Below V.heap.size V w') := fun V _ => HPL.out V
  refine Q.region_kin (by kernel_rfl) (by kernel_rfl) ?_
  repeat (first | go_big_quiet_step ((first | (go_at_call 23; with_reducible exact calls_belowT HBD2.out _) | (go_at_call 24; with_reducible exact calls_belowT HPL2.out _))) | quiet_step ((first | (go_at_call 23; with_reducible exact calls_belowT HBD2.out _) | (go_at_call 24; with_reducible exact calls_belowT HPL2.out _))))
  refine wpQuiet_nil ?_
  intro _ hw'
  obtain ⟨x, hw''⟩ := hw'
  subst hw''
  have HKX := hideC (add_below HB0.out x.keeps)
  have HB5 := hideC (HU.out x)
  clear a0 a1 a2 a3 a4 hkin HBD2 HPL2 HU BX HBD HPL
  obtain ⟨w1, hw1⟩ : ∃ w1, w1 = x.world := ⟨_, rfl⟩
  rw [← hw1] at HKX HB5 ⊢
  clear hw1 x
  have c0 : w1.cell? ⟨w.heap.size, 0, none⟩ = some (.int .i64 16) := B.cell HB5.out 0 rfl
  have hlt := B.isLt HB5.out
  have HBd := hideC ((Below.refl w1.heap.size w1).drew)
  go_wp2_with fail
  go_region_law (go_simp; go_at_call 26; refine (opNames_own _).mono ?_; rintro e w2 ⟨rfl, hn2, hb2⟩; have HB2 := hideC (HBd.out.trans (hb2.mono HBd.out.size)); have n0 : w2.cell? ⟨w1.heap.size, 16, none⟩ = some (.string N0) := B.cell hn2 16 HN16.out; have HBX2 := hideC (B.below HB5.out HB2.out (B.isLt HB5.out)); have d0 : w2.cell? ⟨w.heap.size, 0, none⟩ = some (.int .i64 16) := B.cell HBX2.out 0 rfl; clear hn2 hb2; go_simp)
  all_goals
    have e0 : w2.cell? ⟨w.heap.size, 0, none⟩ = some (.int .i64 16) := B.cell HBX2.out 0 rfl
    have e4 : w2.cell? ⟨w.heap.size, 4, none⟩ = some (.int .i64 1) := B.cell HBX2.out 4 rfl
    have HBA := hideC (add_below HKX.out HB2.out)
    have HBe := hideC ((Below.refl w2.heap.size w2).drew)
    clear n0 d0 c0
    go_wp2_with fail
    go_region_law (go_simp; go_at_call 27; refine (callNames_own _).mono ?_; rintro e w3 ⟨rfl, hn3, hb3⟩; have HB3 := hideC (HBe.out.trans (hb3.mono HBe.out.size)); have n3 : w3.cell? ⟨w2.heap.size, 1, none⟩ = some (.string NM) := B.cell hn3 1 HNM.out; have HBX3 := hideC (B.below HBX2.out HB3.out (B.isLt HBX2.out)); have f4 : w3.cell? ⟨w.heap.size, 4, none⟩ = some (.int .i64 1) := B.cell HBX3.out 4 rfl; clear hn3 hb3; go_simp)
    all_goals
      have HB9 := hideC (add_below HBA.out HB3.out)
      go_wp2
      go_ret
      exact ⟨rfl, HB9.out⟩
set_option maxHeartbeats 4000000 in
theorem call_2 (w : World) (hb : ∀ V, Calls Tryd.prog 23 #[.agg #[.int .i64 16, .int .i64 0, .int .i64 0, .int .i64 0, .int .i64 2]] V fun e w' => e = .returned (.bool false) ∧ Below V.heap.size V w') :
    Calls Tryd.prog 8 #[.agg #[.int .i64 16, .int .i64 0, .int .i64 0, .int .i64 0, .int .i64 2]] w fun e w' => e = .returned (.string (callL.getD 2 (str []))) ∧ Below w.heap.size w w' := by
  have HBD := hideC hb
  have HPL : Hid (∀ V, Calls Tryd.prog 24 #[.agg #[.int .i64 16, .int .i64 0, .int .i64 0, .int .i64 0, .int .i64 2]] V fun e w' => e = .returned (.agg #[.int .i64 16, .int .i64 0, .int .i64 0, .int .i64 0, .int .i64 2]) ∧ Below V.heap.size V w') := fun V => plain_16 0 0 0 2 V
  have HN16 : Hid ((strC opL)[16]? = some (.string (str []))) := rfl
  obtain ⟨NM, hNM⟩ : ∃ NM, NM = callL.getD 2 (str []) := ⟨_, rfl⟩
  have HNM : Hid ((strC callL)[2]? = some (.string NM)) := by rw [hNM]; rfl
  obtain ⟨N0, hN0⟩ : ∃ N0, N0 = str [] := ⟨_, rfl⟩
  rw [← hN0] at HN16
  rw [← hNM]
  clear hb hNM hN0
  have HB0 := hideC ((Below.refl w.heap.size w).alloc (Nat.le_refl _) (.cells #[.int .i64 16, .int .i64 0, .int .i64 0, .int .i64 0, .int .i64 2] 23))
  have BX := hideC (B.new w #[.int .i64 16, .int .i64 0, .int .i64 0, .int .i64 0, .int .i64 2] 23)
  obtain ⟨V0, hV0⟩ : ∃ V0, V0 = w.alloc (.cells #[.int .i64 16, .int .i64 0, .int .i64 0, .int .i64 0, .int .i64 2] 23) := ⟨_, rfl⟩
  have HV0 := hideC hV0
  rw [← hV0] at HB0 BX
  clear hV0
  go_enter Tryd.func8, Tryd.ntmps8
  go_wp2_with fail
  rw [← HV0.out]
  have hkin := Q.kin_some V0
  have HU : Hid (∀ x : Q.Kin V0.heap.size V0, x.world.heap[w.heap.size]? = some (.cells #[.int .i64 16, .int .i64 0, .int .i64 0, .int .i64 0, .int .i64 2] 23 (0, 0))) := fun x => B.below BX.out x.keeps (B.isLt BX.out)
  have a0 : ∀ x : Q.Kin V0.heap.size V0, x.world.cell? ⟨w.heap.size, 0, none⟩ = some (.int .i64 16) := fun x => B.cell (HU.out x) 0 rfl
  have a1 : ∀ x : Q.Kin V0.heap.size V0, x.world.cell? ⟨w.heap.size, 1, none⟩ = some (.int .i64 0) := fun x => B.cell (HU.out x) 1 rfl
  have a2 : ∀ x : Q.Kin V0.heap.size V0, x.world.cell? ⟨w.heap.size, 2, none⟩ = some (.int .i64 0) := fun x => B.cell (HU.out x) 2 rfl
  have a3 : ∀ x : Q.Kin V0.heap.size V0, x.world.cell? ⟨w.heap.size, 3, none⟩ = some (.int .i64 0) := fun x => B.cell (HU.out x) 3 rfl
  have a4 : ∀ x : Q.Kin V0.heap.size V0, x.world.cell? ⟨w.heap.size, 4, none⟩ = some (.int .i64 2) := fun x => B.cell (HU.out x) 4 rfl
  have HBD2 : Hid (∀ V, Below V0.heap.size V0 V → Calls Tryd.prog 23 #[.agg #[.int .i64 16, .int .i64 0, .int .i64 0, .int .i64 0, .int .i64 2]] V fun e w' => e = .returned (.bool false) ∧ Below V.heap.size V w') := fun V _ => HBD.out V
  have HPL2 : Hid (∀ V, Below V0.heap.size V0 V → Calls Tryd.prog 24 #[.agg #[.int .i64 16, .int .i64 0, .int .i64 0, .int .i64 0, .int .i64 2]] V fun e w' => e = .returned (.agg #[.int .i64 16, .int .i64 0, .int .i64 0, .int .i64 0, .int .i64 2]) ∧ Below V.heap.size V w') := fun V _ => HPL.out V
  refine Q.region_kin (by kernel_rfl) (by kernel_rfl) ?_
  repeat (first | go_big_quiet_step ((first | (go_at_call 23; with_reducible exact calls_belowT HBD2.out _) | (go_at_call 24; with_reducible exact calls_belowT HPL2.out _))) | quiet_step ((first | (go_at_call 23; with_reducible exact calls_belowT HBD2.out _) | (go_at_call 24; with_reducible exact calls_belowT HPL2.out _))))
  refine wpQuiet_nil ?_
  intro _ hw'
  obtain ⟨x, hw''⟩ := hw'
  subst hw''
  have HKX := hideC (add_below HB0.out x.keeps)
  have HB5 := hideC (HU.out x)
  clear a0 a1 a2 a3 a4 hkin HBD2 HPL2 HU BX HBD HPL
  obtain ⟨w1, hw1⟩ : ∃ w1, w1 = x.world := ⟨_, rfl⟩
  rw [← hw1] at HKX HB5 ⊢
  clear hw1 x
  have c0 : w1.cell? ⟨w.heap.size, 0, none⟩ = some (.int .i64 16) := B.cell HB5.out 0 rfl
  have hlt := B.isLt HB5.out
  have HBd := hideC ((Below.refl w1.heap.size w1).drew)
  go_wp2_with fail
  go_region_law (go_simp; go_at_call 26; refine (opNames_own _).mono ?_; rintro e w2 ⟨rfl, hn2, hb2⟩; have HB2 := hideC (HBd.out.trans (hb2.mono HBd.out.size)); have n0 : w2.cell? ⟨w1.heap.size, 16, none⟩ = some (.string N0) := B.cell hn2 16 HN16.out; have HBX2 := hideC (B.below HB5.out HB2.out (B.isLt HB5.out)); have d0 : w2.cell? ⟨w.heap.size, 0, none⟩ = some (.int .i64 16) := B.cell HBX2.out 0 rfl; clear hn2 hb2; go_simp)
  all_goals
    have e0 : w2.cell? ⟨w.heap.size, 0, none⟩ = some (.int .i64 16) := B.cell HBX2.out 0 rfl
    have e4 : w2.cell? ⟨w.heap.size, 4, none⟩ = some (.int .i64 2) := B.cell HBX2.out 4 rfl
    have HBA := hideC (add_below HKX.out HB2.out)
    have HBe := hideC ((Below.refl w2.heap.size w2).drew)
    clear n0 d0 c0
    go_wp2_with fail
    go_region_law (go_simp; go_at_call 27; refine (callNames_own _).mono ?_; rintro e w3 ⟨rfl, hn3, hb3⟩; have HB3 := hideC (HBe.out.trans (hb3.mono HBe.out.size)); have n3 : w3.cell? ⟨w2.heap.size, 2, none⟩ = some (.string NM) := B.cell hn3 2 HNM.out; have HBX3 := hideC (B.below HBX2.out HB3.out (B.isLt HBX2.out)); have f4 : w3.cell? ⟨w.heap.size, 4, none⟩ = some (.int .i64 2) := B.cell HBX3.out 4 rfl; clear hn3 hb3; go_simp)
    all_goals
      have HB9 := hideC (add_below HBA.out HB3.out)
      go_wp2
      go_ret
      exact ⟨rfl, HB9.out⟩
set_option maxHeartbeats 4000000 in
theorem call_3 (w : World) (hb : ∀ V, Calls Tryd.prog 23 #[.agg #[.int .i64 16, .int .i64 0, .int .i64 0, .int .i64 0, .int .i64 3]] V fun e w' => e = .returned (.bool false) ∧ Below V.heap.size V w') :
    Calls Tryd.prog 8 #[.agg #[.int .i64 16, .int .i64 0, .int .i64 0, .int .i64 0, .int .i64 3]] w fun e w' => e = .returned (.string (callL.getD 3 (str []))) ∧ Below w.heap.size w w' := by
  have HBD := hideC hb
  have HPL : Hid (∀ V, Calls Tryd.prog 24 #[.agg #[.int .i64 16, .int .i64 0, .int .i64 0, .int .i64 0, .int .i64 3]] V fun e w' => e = .returned (.agg #[.int .i64 16, .int .i64 0, .int .i64 0, .int .i64 0, .int .i64 3]) ∧ Below V.heap.size V w') := fun V => plain_16 0 0 0 3 V
  have HN16 : Hid ((strC opL)[16]? = some (.string (str []))) := rfl
  obtain ⟨NM, hNM⟩ : ∃ NM, NM = callL.getD 3 (str []) := ⟨_, rfl⟩
  have HNM : Hid ((strC callL)[3]? = some (.string NM)) := by rw [hNM]; rfl
  obtain ⟨N0, hN0⟩ : ∃ N0, N0 = str [] := ⟨_, rfl⟩
  rw [← hN0] at HN16
  rw [← hNM]
  clear hb hNM hN0
  have HB0 := hideC ((Below.refl w.heap.size w).alloc (Nat.le_refl _) (.cells #[.int .i64 16, .int .i64 0, .int .i64 0, .int .i64 0, .int .i64 3] 23))
  have BX := hideC (B.new w #[.int .i64 16, .int .i64 0, .int .i64 0, .int .i64 0, .int .i64 3] 23)
  obtain ⟨V0, hV0⟩ : ∃ V0, V0 = w.alloc (.cells #[.int .i64 16, .int .i64 0, .int .i64 0, .int .i64 0, .int .i64 3] 23) := ⟨_, rfl⟩
  have HV0 := hideC hV0
  rw [← hV0] at HB0 BX
  clear hV0
  go_enter Tryd.func8, Tryd.ntmps8
  go_wp2_with fail
  rw [← HV0.out]
  have hkin := Q.kin_some V0
  have HU : Hid (∀ x : Q.Kin V0.heap.size V0, x.world.heap[w.heap.size]? = some (.cells #[.int .i64 16, .int .i64 0, .int .i64 0, .int .i64 0, .int .i64 3] 23 (0, 0))) := fun x => B.below BX.out x.keeps (B.isLt BX.out)
  have a0 : ∀ x : Q.Kin V0.heap.size V0, x.world.cell? ⟨w.heap.size, 0, none⟩ = some (.int .i64 16) := fun x => B.cell (HU.out x) 0 rfl
  have a1 : ∀ x : Q.Kin V0.heap.size V0, x.world.cell? ⟨w.heap.size, 1, none⟩ = some (.int .i64 0) := fun x => B.cell (HU.out x) 1 rfl
  have a2 : ∀ x : Q.Kin V0.heap.size V0, x.world.cell? ⟨w.heap.size, 2, none⟩ = some (.int .i64 0) := fun x => B.cell (HU.out x) 2 rfl
  have a3 : ∀ x : Q.Kin V0.heap.size V0, x.world.cell? ⟨w.heap.size, 3, none⟩ = some (.int .i64 0) := fun x => B.cell (HU.out x) 3 rfl
  have a4 : ∀ x : Q.Kin V0.heap.size V0, x.world.cell? ⟨w.heap.size, 4, none⟩ = some (.int .i64 3) := fun x => B.cell (HU.out x) 4 rfl
  have HBD2 : Hid (∀ V, Below V0.heap.size V0 V → Calls Tryd.prog 23 #[.agg #[.int .i64 16, .int .i64 0, .int .i64 0, .int .i64 0, .int .i64 3]] V fun e w' => e = .returned (.bool false) ∧ Below V.heap.size V w') := fun V _ => HBD.out V
  have HPL2 : Hid (∀ V, Below V0.heap.size V0 V → Calls Tryd.prog 24 #[.agg #[.int .i64 16, .int .i64 0, .int .i64 0, .int .i64 0, .int .i64 3]] V fun e w' => e = .returned (.agg #[.int .i64 16, .int .i64 0, .int .i64 0, .int .i64 0, .int .i64 3]) ∧ Below V.heap.size V w') := fun V _ => HPL.out V
  refine Q.region_kin (by kernel_rfl) (by kernel_rfl) ?_
  repeat (first | go_big_quiet_step ((first | (go_at_call 23; with_reducible exact calls_belowT HBD2.out _) | (go_at_call 24; with_reducible exact calls_belowT HPL2.out _))) | quiet_step ((first | (go_at_call 23; with_reducible exact calls_belowT HBD2.out _) | (go_at_call 24; with_reducible exact calls_belowT HPL2.out _))))
  refine wpQuiet_nil ?_
  intro _ hw'
  obtain ⟨x, hw''⟩ := hw'
  subst hw''
  have HKX := hideC (add_below HB0.out x.keeps)
  have HB5 := hideC (HU.out x)
  clear a0 a1 a2 a3 a4 hkin HBD2 HPL2 HU BX HBD HPL
  obtain ⟨w1, hw1⟩ : ∃ w1, w1 = x.world := ⟨_, rfl⟩
  rw [← hw1] at HKX HB5 ⊢
  clear hw1 x
  have c0 : w1.cell? ⟨w.heap.size, 0, none⟩ = some (.int .i64 16) := B.cell HB5.out 0 rfl
  have hlt := B.isLt HB5.out
  have HBd := hideC ((Below.refl w1.heap.size w1).drew)
  go_wp2_with fail
  go_region_law (go_simp; go_at_call 26; refine (opNames_own _).mono ?_; rintro e w2 ⟨rfl, hn2, hb2⟩; have HB2 := hideC (HBd.out.trans (hb2.mono HBd.out.size)); have n0 : w2.cell? ⟨w1.heap.size, 16, none⟩ = some (.string N0) := B.cell hn2 16 HN16.out; have HBX2 := hideC (B.below HB5.out HB2.out (B.isLt HB5.out)); have d0 : w2.cell? ⟨w.heap.size, 0, none⟩ = some (.int .i64 16) := B.cell HBX2.out 0 rfl; clear hn2 hb2; go_simp)
  all_goals
    have e0 : w2.cell? ⟨w.heap.size, 0, none⟩ = some (.int .i64 16) := B.cell HBX2.out 0 rfl
    have e4 : w2.cell? ⟨w.heap.size, 4, none⟩ = some (.int .i64 3) := B.cell HBX2.out 4 rfl
    have HBA := hideC (add_below HKX.out HB2.out)
    have HBe := hideC ((Below.refl w2.heap.size w2).drew)
    clear n0 d0 c0
    go_wp2_with fail
    go_region_law (go_simp; go_at_call 27; refine (callNames_own _).mono ?_; rintro e w3 ⟨rfl, hn3, hb3⟩; have HB3 := hideC (HBe.out.trans (hb3.mono HBe.out.size)); have n3 : w3.cell? ⟨w2.heap.size, 3, none⟩ = some (.string NM) := B.cell hn3 3 HNM.out; have HBX3 := hideC (B.below HBX2.out HB3.out (B.isLt HBX2.out)); have f4 : w3.cell? ⟨w.heap.size, 4, none⟩ = some (.int .i64 3) := B.cell HBX3.out 4 rfl; clear hn3 hb3; go_simp)
    all_goals
      have HB9 := hideC (add_below HBA.out HB3.out)
      go_wp2
      go_ret
      exact ⟨rfl, HB9.out⟩
set_option maxHeartbeats 4000000 in
theorem call_4 (w : World) (hb : ∀ V, Calls Tryd.prog 23 #[.agg #[.int .i64 16, .int .i64 0, .int .i64 0, .int .i64 0, .int .i64 4]] V fun e w' => e = .returned (.bool false) ∧ Below V.heap.size V w') :
    Calls Tryd.prog 8 #[.agg #[.int .i64 16, .int .i64 0, .int .i64 0, .int .i64 0, .int .i64 4]] w fun e w' => e = .returned (.string (callL.getD 4 (str []))) ∧ Below w.heap.size w w' := by
  have HBD := hideC hb
  have HPL : Hid (∀ V, Calls Tryd.prog 24 #[.agg #[.int .i64 16, .int .i64 0, .int .i64 0, .int .i64 0, .int .i64 4]] V fun e w' => e = .returned (.agg #[.int .i64 16, .int .i64 0, .int .i64 0, .int .i64 0, .int .i64 4]) ∧ Below V.heap.size V w') := fun V => plain_16 0 0 0 4 V
  have HN16 : Hid ((strC opL)[16]? = some (.string (str []))) := rfl
  obtain ⟨NM, hNM⟩ : ∃ NM, NM = callL.getD 4 (str []) := ⟨_, rfl⟩
  have HNM : Hid ((strC callL)[4]? = some (.string NM)) := by rw [hNM]; rfl
  obtain ⟨N0, hN0⟩ : ∃ N0, N0 = str [] := ⟨_, rfl⟩
  rw [← hN0] at HN16
  rw [← hNM]
  clear hb hNM hN0
  have HB0 := hideC ((Below.refl w.heap.size w).alloc (Nat.le_refl _) (.cells #[.int .i64 16, .int .i64 0, .int .i64 0, .int .i64 0, .int .i64 4] 23))
  have BX := hideC (B.new w #[.int .i64 16, .int .i64 0, .int .i64 0, .int .i64 0, .int .i64 4] 23)
  obtain ⟨V0, hV0⟩ : ∃ V0, V0 = w.alloc (.cells #[.int .i64 16, .int .i64 0, .int .i64 0, .int .i64 0, .int .i64 4] 23) := ⟨_, rfl⟩
  have HV0 := hideC hV0
  rw [← hV0] at HB0 BX
  clear hV0
  go_enter Tryd.func8, Tryd.ntmps8
  go_wp2_with fail
  rw [← HV0.out]
  have hkin := Q.kin_some V0
  have HU : Hid (∀ x : Q.Kin V0.heap.size V0, x.world.heap[w.heap.size]? = some (.cells #[.int .i64 16, .int .i64 0, .int .i64 0, .int .i64 0, .int .i64 4] 23 (0, 0))) := fun x => B.below BX.out x.keeps (B.isLt BX.out)
  have a0 : ∀ x : Q.Kin V0.heap.size V0, x.world.cell? ⟨w.heap.size, 0, none⟩ = some (.int .i64 16) := fun x => B.cell (HU.out x) 0 rfl
  have a1 : ∀ x : Q.Kin V0.heap.size V0, x.world.cell? ⟨w.heap.size, 1, none⟩ = some (.int .i64 0) := fun x => B.cell (HU.out x) 1 rfl
  have a2 : ∀ x : Q.Kin V0.heap.size V0, x.world.cell? ⟨w.heap.size, 2, none⟩ = some (.int .i64 0) := fun x => B.cell (HU.out x) 2 rfl
  have a3 : ∀ x : Q.Kin V0.heap.size V0, x.world.cell? ⟨w.heap.size, 3, none⟩ = some (.int .i64 0) := fun x => B.cell (HU.out x) 3 rfl
  have a4 : ∀ x : Q.Kin V0.heap.size V0, x.world.cell? ⟨w.heap.size, 4, none⟩ = some (.int .i64 4) := fun x => B.cell (HU.out x) 4 rfl
  have HBD2 : Hid (∀ V, Below V0.heap.size V0 V → Calls Tryd.prog 23 #[.agg #[.int .i64 16, .int .i64 0, .int .i64 0, .int .i64 0, .int .i64 4]] V fun e w' => e = .returned (.bool false) ∧ Below V.heap.size V w') := fun V _ => HBD.out V
  have HPL2 : Hid (∀ V, Below V0.heap.size V0 V → Calls Tryd.prog 24 #[.agg #[.int .i64 16, .int .i64 0, .int .i64 0, .int .i64 0, .int .i64 4]] V fun e w' => e = .returned (.agg #[.int .i64 16, .int .i64 0, .int .i64 0, .int .i64 0, .int .i64 4]) ∧ Below V.heap.size V w') := fun V _ => HPL.out V
  refine Q.region_kin (by kernel_rfl) (by kernel_rfl) ?_
  repeat (first | go_big_quiet_step ((first | (go_at_call 23; with_reducible exact calls_belowT HBD2.out _) | (go_at_call 24; with_reducible exact calls_belowT HPL2.out _))) | quiet_step ((first | (go_at_call 23; with_reducible exact calls_belowT HBD2.out _) | (go_at_call 24; with_reducible exact calls_belowT HPL2.out _))))
  refine wpQuiet_nil ?_
  intro _ hw'
  obtain ⟨x, hw''⟩ := hw'
  subst hw''
  have HKX := hideC (add_below HB0.out x.keeps)
  have HB5 := hideC (HU.out x)
  clear a0 a1 a2 a3 a4 hkin HBD2 HPL2 HU BX HBD HPL
  obtain ⟨w1, hw1⟩ : ∃ w1, w1 = x.world := ⟨_, rfl⟩
  rw [← hw1] at HKX HB5 ⊢
  clear hw1 x
  have c0 : w1.cell? ⟨w.heap.size, 0, none⟩ = some (.int .i64 16) := B.cell HB5.out 0 rfl
  have hlt := B.isLt HB5.out
  have HBd := hideC ((Below.refl w1.heap.size w1).drew)
  go_wp2_with fail
  go_region_law (go_simp; go_at_call 26; refine (opNames_own _).mono ?_; rintro e w2 ⟨rfl, hn2, hb2⟩; have HB2 := hideC (HBd.out.trans (hb2.mono HBd.out.size)); have n0 : w2.cell? ⟨w1.heap.size, 16, none⟩ = some (.string N0) := B.cell hn2 16 HN16.out; have HBX2 := hideC (B.below HB5.out HB2.out (B.isLt HB5.out)); have d0 : w2.cell? ⟨w.heap.size, 0, none⟩ = some (.int .i64 16) := B.cell HBX2.out 0 rfl; clear hn2 hb2; go_simp)
  all_goals
    have e0 : w2.cell? ⟨w.heap.size, 0, none⟩ = some (.int .i64 16) := B.cell HBX2.out 0 rfl
    have e4 : w2.cell? ⟨w.heap.size, 4, none⟩ = some (.int .i64 4) := B.cell HBX2.out 4 rfl
    have HBA := hideC (add_below HKX.out HB2.out)
    have HBe := hideC ((Below.refl w2.heap.size w2).drew)
    clear n0 d0 c0
    go_wp2_with fail
    go_region_law (go_simp; go_at_call 27; refine (callNames_own _).mono ?_; rintro e w3 ⟨rfl, hn3, hb3⟩; have HB3 := hideC (HBe.out.trans (hb3.mono HBe.out.size)); have n3 : w3.cell? ⟨w2.heap.size, 4, none⟩ = some (.string NM) := B.cell hn3 4 HNM.out; have HBX3 := hideC (B.below HBX2.out HB3.out (B.isLt HBX2.out)); have f4 : w3.cell? ⟨w.heap.size, 4, none⟩ = some (.int .i64 4) := B.cell HBX3.out 4 rfl; clear hn3 hb3; go_simp)
    all_goals
      have HB9 := hideC (add_below HBA.out HB3.out)
      go_wp2
      go_ret
      exact ⟨rfl, HB9.out⟩
set_option maxHeartbeats 4000000 in
theorem call_5 (w : World) (hb : ∀ V, Calls Tryd.prog 23 #[.agg #[.int .i64 16, .int .i64 0, .int .i64 0, .int .i64 0, .int .i64 5]] V fun e w' => e = .returned (.bool false) ∧ Below V.heap.size V w') :
    Calls Tryd.prog 8 #[.agg #[.int .i64 16, .int .i64 0, .int .i64 0, .int .i64 0, .int .i64 5]] w fun e w' => e = .returned (.string (callL.getD 5 (str []))) ∧ Below w.heap.size w w' := by
  have HBD := hideC hb
  have HPL : Hid (∀ V, Calls Tryd.prog 24 #[.agg #[.int .i64 16, .int .i64 0, .int .i64 0, .int .i64 0, .int .i64 5]] V fun e w' => e = .returned (.agg #[.int .i64 16, .int .i64 0, .int .i64 0, .int .i64 0, .int .i64 5]) ∧ Below V.heap.size V w') := fun V => plain_16 0 0 0 5 V
  have HN16 : Hid ((strC opL)[16]? = some (.string (str []))) := rfl
  obtain ⟨NM, hNM⟩ : ∃ NM, NM = callL.getD 5 (str []) := ⟨_, rfl⟩
  have HNM : Hid ((strC callL)[5]? = some (.string NM)) := by rw [hNM]; rfl
  obtain ⟨N0, hN0⟩ : ∃ N0, N0 = str [] := ⟨_, rfl⟩
  rw [← hN0] at HN16
  rw [← hNM]
  clear hb hNM hN0
  have HB0 := hideC ((Below.refl w.heap.size w).alloc (Nat.le_refl _) (.cells #[.int .i64 16, .int .i64 0, .int .i64 0, .int .i64 0, .int .i64 5] 23))
  have BX := hideC (B.new w #[.int .i64 16, .int .i64 0, .int .i64 0, .int .i64 0, .int .i64 5] 23)
  obtain ⟨V0, hV0⟩ : ∃ V0, V0 = w.alloc (.cells #[.int .i64 16, .int .i64 0, .int .i64 0, .int .i64 0, .int .i64 5] 23) := ⟨_, rfl⟩
  have HV0 := hideC hV0
  rw [← hV0] at HB0 BX
  clear hV0
  go_enter Tryd.func8, Tryd.ntmps8
  go_wp2_with fail
  rw [← HV0.out]
  have hkin := Q.kin_some V0
  have HU : Hid (∀ x : Q.Kin V0.heap.size V0, x.world.heap[w.heap.size]? = some (.cells #[.int .i64 16, .int .i64 0, .int .i64 0, .int .i64 0, .int .i64 5] 23 (0, 0))) := fun x => B.below BX.out x.keeps (B.isLt BX.out)
  have a0 : ∀ x : Q.Kin V0.heap.size V0, x.world.cell? ⟨w.heap.size, 0, none⟩ = some (.int .i64 16) := fun x => B.cell (HU.out x) 0 rfl
  have a1 : ∀ x : Q.Kin V0.heap.size V0, x.world.cell? ⟨w.heap.size, 1, none⟩ = some (.int .i64 0) := fun x => B.cell (HU.out x) 1 rfl
  have a2 : ∀ x : Q.Kin V0.heap.size V0, x.world.cell? ⟨w.heap.size, 2, none⟩ = some (.int .i64 0) := fun x => B.cell (HU.out x) 2 rfl
  have a3 : ∀ x : Q.Kin V0.heap.size V0, x.world.cell? ⟨w.heap.size, 3, none⟩ = some (.int .i64 0) := fun x => B.cell (HU.out x) 3 rfl
  have a4 : ∀ x : Q.Kin V0.heap.size V0, x.world.cell? ⟨w.heap.size, 4, none⟩ = some (.int .i64 5) := fun x => B.cell (HU.out x) 4 rfl
  have HBD2 : Hid (∀ V, Below V0.heap.size V0 V → Calls Tryd.prog 23 #[.agg #[.int .i64 16, .int .i64 0, .int .i64 0, .int .i64 0, .int .i64 5]] V fun e w' => e = .returned (.bool false) ∧ Below V.heap.size V w') := fun V _ => HBD.out V
  have HPL2 : Hid (∀ V, Below V0.heap.size V0 V → Calls Tryd.prog 24 #[.agg #[.int .i64 16, .int .i64 0, .int .i64 0, .int .i64 0, .int .i64 5]] V fun e w' => e = .returned (.agg #[.int .i64 16, .int .i64 0, .int .i64 0, .int .i64 0, .int .i64 5]) ∧ Below V.heap.size V w') := fun V _ => HPL.out V
  refine Q.region_kin (by kernel_rfl) (by kernel_rfl) ?_
  repeat (first | go_big_quiet_step ((first | (go_at_call 23; with_reducible exact calls_belowT HBD2.out _) | (go_at_call 24; with_reducible exact calls_belowT HPL2.out _))) | quiet_step ((first | (go_at_call 23; with_reducible exact calls_belowT HBD2.out _) | (go_at_call 24; with_reducible exact calls_belowT HPL2.out _))))
  refine wpQuiet_nil ?_
  intro _ hw'
  obtain ⟨x, hw''⟩ := hw'
  subst hw''
  have HKX := hideC (add_below HB0.out x.keeps)
  have HB5 := hideC (HU.out x)
  clear a0 a1 a2 a3 a4 hkin HBD2 HPL2 HU BX HBD HPL
  obtain ⟨w1, hw1⟩ : ∃ w1, w1 = x.world := ⟨_, rfl⟩
  rw [← hw1] at HKX HB5 ⊢
  clear hw1 x
  have c0 : w1.cell? ⟨w.heap.size, 0, none⟩ = some (.int .i64 16) := B.cell HB5.out 0 rfl
  have hlt := B.isLt HB5.out
  have HBd := hideC ((Below.refl w1.heap.size w1).drew)
  go_wp2_with fail
  go_region_law (go_simp; go_at_call 26; refine (opNames_own _).mono ?_; rintro e w2 ⟨rfl, hn2, hb2⟩; have HB2 := hideC (HBd.out.trans (hb2.mono HBd.out.size)); have n0 : w2.cell? ⟨w1.heap.size, 16, none⟩ = some (.string N0) := B.cell hn2 16 HN16.out; have HBX2 := hideC (B.below HB5.out HB2.out (B.isLt HB5.out)); have d0 : w2.cell? ⟨w.heap.size, 0, none⟩ = some (.int .i64 16) := B.cell HBX2.out 0 rfl; clear hn2 hb2; go_simp)
  all_goals
    have e0 : w2.cell? ⟨w.heap.size, 0, none⟩ = some (.int .i64 16) := B.cell HBX2.out 0 rfl
    have e4 : w2.cell? ⟨w.heap.size, 4, none⟩ = some (.int .i64 5) := B.cell HBX2.out 4 rfl
    have HBA := hideC (add_below HKX.out HB2.out)
    have HBe := hideC ((Below.refl w2.heap.size w2).drew)
    clear n0 d0 c0
    go_wp2_with fail
    go_region_law (go_simp; go_at_call 27; refine (callNames_own _).mono ?_; rintro e w3 ⟨rfl, hn3, hb3⟩; have HB3 := hideC (HBe.out.trans (hb3.mono HBe.out.size)); have n3 : w3.cell? ⟨w2.heap.size, 5, none⟩ = some (.string NM) := B.cell hn3 5 HNM.out; have HBX3 := hideC (B.below HBX2.out HB3.out (B.isLt HBX2.out)); have f4 : w3.cell? ⟨w.heap.size, 4, none⟩ = some (.int .i64 5) := B.cell HBX3.out 4 rfl; clear hn3 hb3; go_simp)
    all_goals
      have HB9 := hideC (add_below HBA.out HB3.out)
      go_wp2
      go_ret
      exact ⟨rfl, HB9.out⟩
set_option maxHeartbeats 4000000 in
theorem call_6 (w : World) (hb : ∀ V, Calls Tryd.prog 23 #[.agg #[.int .i64 16, .int .i64 0, .int .i64 0, .int .i64 0, .int .i64 6]] V fun e w' => e = .returned (.bool false) ∧ Below V.heap.size V w') :
    Calls Tryd.prog 8 #[.agg #[.int .i64 16, .int .i64 0, .int .i64 0, .int .i64 0, .int .i64 6]] w fun e w' => e = .returned (.string (callL.getD 6 (str []))) ∧ Below w.heap.size w w' := by
  have HBD := hideC hb
  have HPL : Hid (∀ V, Calls Tryd.prog 24 #[.agg #[.int .i64 16, .int .i64 0, .int .i64 0, .int .i64 0, .int .i64 6]] V fun e w' => e = .returned (.agg #[.int .i64 16, .int .i64 0, .int .i64 0, .int .i64 0, .int .i64 6]) ∧ Below V.heap.size V w') := fun V => plain_16 0 0 0 6 V
  have HN16 : Hid ((strC opL)[16]? = some (.string (str []))) := rfl
  obtain ⟨NM, hNM⟩ : ∃ NM, NM = callL.getD 6 (str []) := ⟨_, rfl⟩
  have HNM : Hid ((strC callL)[6]? = some (.string NM)) := by rw [hNM]; rfl
  obtain ⟨N0, hN0⟩ : ∃ N0, N0 = str [] := ⟨_, rfl⟩
  rw [← hN0] at HN16
  rw [← hNM]
  clear hb hNM hN0
  have HB0 := hideC ((Below.refl w.heap.size w).alloc (Nat.le_refl _) (.cells #[.int .i64 16, .int .i64 0, .int .i64 0, .int .i64 0, .int .i64 6] 23))
  have BX := hideC (B.new w #[.int .i64 16, .int .i64 0, .int .i64 0, .int .i64 0, .int .i64 6] 23)
  obtain ⟨V0, hV0⟩ : ∃ V0, V0 = w.alloc (.cells #[.int .i64 16, .int .i64 0, .int .i64 0, .int .i64 0, .int .i64 6] 23) := ⟨_, rfl⟩
  have HV0 := hideC hV0
  rw [← hV0] at HB0 BX
  clear hV0
  go_enter Tryd.func8, Tryd.ntmps8
  go_wp2_with fail
  rw [← HV0.out]
  have hkin := Q.kin_some V0
  have HU : Hid (∀ x : Q.Kin V0.heap.size V0, x.world.heap[w.heap.size]? = some (.cells #[.int .i64 16, .int .i64 0, .int .i64 0, .int .i64 0, .int .i64 6] 23 (0, 0))) := fun x => B.below BX.out x.keeps (B.isLt BX.out)
  have a0 : ∀ x : Q.Kin V0.heap.size V0, x.world.cell? ⟨w.heap.size, 0, none⟩ = some (.int .i64 16) := fun x => B.cell (HU.out x) 0 rfl
  have a1 : ∀ x : Q.Kin V0.heap.size V0, x.world.cell? ⟨w.heap.size, 1, none⟩ = some (.int .i64 0) := fun x => B.cell (HU.out x) 1 rfl
  have a2 : ∀ x : Q.Kin V0.heap.size V0, x.world.cell? ⟨w.heap.size, 2, none⟩ = some (.int .i64 0) := fun x => B.cell (HU.out x) 2 rfl
  have a3 : ∀ x : Q.Kin V0.heap.size V0, x.world.cell? ⟨w.heap.size, 3, none⟩ = some (.int .i64 0) := fun x => B.cell (HU.out x) 3 rfl
  have a4 : ∀ x : Q.Kin V0.heap.size V0, x.world.cell? ⟨w.heap.size, 4, none⟩ = some (.int .i64 6) := fun x => B.cell (HU.out x) 4 rfl
  have HBD2 : Hid (∀ V, Below V0.heap.size V0 V → Calls Tryd.prog 23 #[.agg #[.int .i64 16, .int .i64 0, .int .i64 0, .int .i64 0, .int .i64 6]] V fun e w' => e = .returned (.bool false) ∧ Below V.heap.size V w') := fun V _ => HBD.out V
  have HPL2 : Hid (∀ V, Below V0.heap.size V0 V → Calls Tryd.prog 24 #[.agg #[.int .i64 16, .int .i64 0, .int .i64 0, .int .i64 0, .int .i64 6]] V fun e w' => e = .returned (.agg #[.int .i64 16, .int .i64 0, .int .i64 0, .int .i64 0, .int .i64 6]) ∧ Below V.heap.size V w') := fun V _ => HPL.out V
  refine Q.region_kin (by kernel_rfl) (by kernel_rfl) ?_
  repeat (first | go_big_quiet_step ((first | (go_at_call 23; with_reducible exact calls_belowT HBD2.out _) | (go_at_call 24; with_reducible exact calls_belowT HPL2.out _))) | quiet_step ((first | (go_at_call 23; with_reducible exact calls_belowT HBD2.out _) | (go_at_call 24; with_reducible exact calls_belowT HPL2.out _))))
  refine wpQuiet_nil ?_
  intro _ hw'
  obtain ⟨x, hw''⟩ := hw'
  subst hw''
  have HKX := hideC (add_below HB0.out x.keeps)
  have HB5 := hideC (HU.out x)
  clear a0 a1 a2 a3 a4 hkin HBD2 HPL2 HU BX HBD HPL
  obtain ⟨w1, hw1⟩ : ∃ w1, w1 = x.world := ⟨_, rfl⟩
  rw [← hw1] at HKX HB5 ⊢
  clear hw1 x
  have c0 : w1.cell? ⟨w.heap.size, 0, none⟩ = some (.int .i64 16) := B.cell HB5.out 0 rfl
  have hlt := B.isLt HB5.out
  have HBd := hideC ((Below.refl w1.heap.size w1).drew)
  go_wp2_with fail
  go_region_law (go_simp; go_at_call 26; refine (opNames_own _).mono ?_; rintro e w2 ⟨rfl, hn2, hb2⟩; have HB2 := hideC (HBd.out.trans (hb2.mono HBd.out.size)); have n0 : w2.cell? ⟨w1.heap.size, 16, none⟩ = some (.string N0) := B.cell hn2 16 HN16.out; have HBX2 := hideC (B.below HB5.out HB2.out (B.isLt HB5.out)); have d0 : w2.cell? ⟨w.heap.size, 0, none⟩ = some (.int .i64 16) := B.cell HBX2.out 0 rfl; clear hn2 hb2; go_simp)
  all_goals
    have e0 : w2.cell? ⟨w.heap.size, 0, none⟩ = some (.int .i64 16) := B.cell HBX2.out 0 rfl
    have e4 : w2.cell? ⟨w.heap.size, 4, none⟩ = some (.int .i64 6) := B.cell HBX2.out 4 rfl
    have HBA := hideC (add_below HKX.out HB2.out)
    have HBe := hideC ((Below.refl w2.heap.size w2).drew)
    clear n0 d0 c0
    go_wp2_with fail
    go_region_law (go_simp; go_at_call 27; refine (callNames_own _).mono ?_; rintro e w3 ⟨rfl, hn3, hb3⟩; have HB3 := hideC (HBe.out.trans (hb3.mono HBe.out.size)); have n3 : w3.cell? ⟨w2.heap.size, 6, none⟩ = some (.string NM) := B.cell hn3 6 HNM.out; have HBX3 := hideC (B.below HBX2.out HB3.out (B.isLt HBX2.out)); have f4 : w3.cell? ⟨w.heap.size, 4, none⟩ = some (.int .i64 6) := B.cell HBX3.out 4 rfl; clear hn3 hb3; go_simp)
    all_goals
      have HB9 := hideC (add_below HBA.out HB3.out)
      go_wp2
      go_ret
      exact ⟨rfl, HB9.out⟩
end Go.Proofs.YtklobjfhjlkgfaaDoor.TW
