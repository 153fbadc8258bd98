import Derived.Test.YtklobjfhjlkgfaaDoorGA10
import Derived.Deep.RegionLaw
/- The reference's InstrText: an instruction that is shown by its name. -/
namespace Go.Proofs.YtklobjfhjlkgfaaDoor.TW
open Go.RowKit
set_option linter.unusedVariables false
set_option maxRecDepth 100000
set_option linter.unusedSimpArgs false

theorem words_at (name : ByteArray) (xs : List Int) (C : Array Value) (w : World) (hC : C = (xs.map (Value.int .i64)).toArray) (hx : ∀ k, k < xs.length → I64 (xs.getD k 0)) (hn : name.size ≤ 1000) (hl : xs.length ≤ 100) (n : Nat) (hnl : n = xs.length) :
    Calls Tryd.prog 25 #[.string name, .slice (some ⟨w.heap.size, 0, none⟩) n n] (w.alloc (.cells C 3)) fun e w' => e = .returned (.string (wordsS name xs)) ∧ Below w.heap.size w w' := by
  subst hnl
  subst hC
  have HN := B.new w (xs.map (Value.int .i64)).toArray 3
  refine (words_any name xs w.heap.size 0 xs.length _ (fun k hk => ?_) (by simp) hx hn hl).mono ?_
  · rw [Nat.zero_add]
    refine B.cell HN k ?_
    rw [List.getElem?_toArray, List.getElem?_map, List.getD_eq_getElem?_getD, List.getElem?_eq_getElem hk]
    rfl
  · rintro e w' ⟨he, hb⟩
    exact ⟨he, add_below ((Below.refl _ _).alloc (Nat.le_refl _) _) hb⟩
theorem opNames_own (w : World) : Calls Tryd.prog 26 #[] w fun e w' => e = .returned (.slice (some ⟨w.heap.size, 0, none⟩) 17 17) ∧ w'.heap[w.heap.size]? = some (.cells (strC opL) 9 (0, 0)) ∧ Below w.heap.size w w' :=
  (opNames_any w).mono fun e w' ⟨he, hw⟩ => ⟨he, by rw [hw]; exact B.new w (strC opL) 9, by rw [hw]; exact (Below.refl _ _).alloc (Nat.le_refl _) _⟩
set_option maxHeartbeats 4000000 in
theorem show_1 (a m : Int) (w : World) (hb : ∀ V, Calls Tryd.prog 23 #[.agg #[.int .i64 1, .int .i64 a, .int .i64 0, .int .i64 0, .int .i64 m]] V fun e w' => e = .returned (.bool false) ∧ Below V.heap.size V w') (hx : ∀ j, j < ([a, m] : List Int).length → I64 (([a, m] : List Int).getD j 0)) :
    Calls Tryd.prog 8 #[.agg #[.int .i64 1, .int .i64 a, .int .i64 0, .int .i64 0, .int .i64 m]] w fun e w' => e = .returned (.string (wordsS (opL.getD 1 (str [])) [a, m])) ∧ Below w.heap.size w w' := by
  have HBD := hideC hb
  have HX := hideC hx
  have HPL : Hid (∀ V, Calls Tryd.prog 24 #[.agg #[.int .i64 1, .int .i64 a, .int .i64 0, .int .i64 0, .int .i64 m]] V fun e w' => e = .returned (.agg #[.int .i64 1, .int .i64 a, .int .i64 0, .int .i64 0, .int .i64 m]) ∧ Below V.heap.size V w') := fun V => plain_1 a 0 0 m V
  obtain ⟨NM, hNM⟩ : ∃ NM, NM = opL.getD 1 (str []) := ⟨_, rfl⟩
  have HNM : Hid ((strC opL)[1]? = some (.string NM)) := by rw [hNM]; rfl
  have hns : NM.size ≤ 1000 := by rw [hNM]; decide
  have HWD : Hid (∀ V, Calls Tryd.prog 25 #[.string NM, .slice (some ⟨V.heap.size, 0, none⟩) 2 2] (V.alloc (.cells #[.int .i64 a, .int .i64 m] 3)) fun e w' => e = .returned (.string (wordsS NM [a, m])) ∧ Below V.heap.size V w') := fun V => words_at NM [a, m] _ V rfl HX.out hns (by simp) 2 rfl
  obtain ⟨R, hR⟩ : ∃ R, R = wordsS NM [a, m] := ⟨_, rfl⟩
  rw [← hNM, ← hR]
  rw [← hR] at HWD
  clear hb hx hNM hR
  have HB0 := hideC ((Below.refl w.heap.size w).alloc (Nat.le_refl _) (.cells #[.int .i64 1, .int .i64 a, .int .i64 0, .int .i64 0, .int .i64 m] 23))
  have BX := hideC (B.new w #[.int .i64 1, .int .i64 a, .int .i64 0, .int .i64 0, .int .i64 m] 23)
  obtain ⟨V0, hV0⟩ : ∃ V0, V0 = w.alloc (.cells #[.int .i64 1, .int .i64 a, .int .i64 0, .int .i64 0, .int .i64 m] 23) := ⟨_, rfl⟩
  have HV0 := hideC hV0
  rw [← hV0] at HB0 BX
  clear hV0
  go_enter Tryd.func8, Tryd.ntmps8
  go_wp2_with fail
  rw [← HV0.out]
  have hkin := Q.kin_some V0
  have HU : Hid (∀ x : Q.Kin V0.heap.size V0, x.world.heap[w.heap.size]? = some (.cells #[.int .i64 1, .int .i64 a, .int .i64 0, .int .i64 0, .int .i64 m] 23 (0, 0))) := fun x => B.below BX.out x.keeps (B.isLt BX.out)
  have a0 : ∀ x : Q.Kin V0.heap.size V0, x.world.cell? ⟨w.heap.size, 0, none⟩ = some (.int .i64 1) := fun x => B.cell (HU.out x) 0 rfl
  have a1 : ∀ x : Q.Kin V0.heap.size V0, x.world.cell? ⟨w.heap.size, 1, none⟩ = some (.int .i64 a) := fun x => B.cell (HU.out x) 1 rfl
  have a2 : ∀ x : Q.Kin V0.heap.size V0, x.world.cell? ⟨w.heap.size, 2, none⟩ = some (.int .i64 0) := fun x => B.cell (HU.out x) 2 rfl
  have a3 : ∀ x : Q.Kin V0.heap.size V0, x.world.cell? ⟨w.heap.size, 3, none⟩ = some (.int .i64 0) := fun x => B.cell (HU.out x) 3 rfl
  have a4 : ∀ x : Q.Kin V0.heap.size V0, x.world.cell? ⟨w.heap.size, 4, none⟩ = some (.int .i64 m) := fun x => B.cell (HU.out x) 4 rfl
  have HBD2 : Hid (∀ V, Below V0.heap.size V0 V → Calls Tryd.prog 23 #[.agg #[.int .i64 1, .int .i64 a, .int .i64 0, .int .i64 0, .int .i64 m]] V fun e w' => e = .returned (.bool false) ∧ Below V.heap.size V w') := fun V _ => HBD.out V
  have HPL2 : Hid (∀ V, Below V0.heap.size V0 V → Calls Tryd.prog 24 #[.agg #[.int .i64 1, .int .i64 a, .int .i64 0, .int .i64 0, .int .i64 m]] V fun e w' => e = .returned (.agg #[.int .i64 1, .int .i64 a, .int .i64 0, .int .i64 0, .int .i64 m]) ∧ Below V.heap.size V w') := fun V _ => HPL.out V
  refine Q.region_kin (by kernel_rfl) (by kernel_rfl) ?_
  repeat (first | go_big_quiet_step ((first | (go_at_call 23; with_reducible exact calls_belowT HBD2.out _) | (go_at_call 24; with_reducible exact calls_belowT HPL2.out _))) | quiet_step ((first | (go_at_call 23; with_reducible exact calls_belowT HBD2.out _) | (go_at_call 24; with_reducible exact calls_belowT HPL2.out _))))
  refine wpQuiet_nil ?_
  intro _ hw'
  obtain ⟨x, hw''⟩ := hw'
  subst hw''
  have HKX := hideC (add_below HB0.out x.keeps)
  have HB5 := hideC (HU.out x)
  clear a0 a1 a2 a3 a4 hkin HBD2 HPL2 HU BX HBD HPL
  obtain ⟨w1, hw1⟩ : ∃ w1, w1 = x.world := ⟨_, rfl⟩
  rw [← hw1] at HKX HB5 ⊢
  clear hw1 x
  have c0 : w1.cell? ⟨w.heap.size, 0, none⟩ = some (.int .i64 1) := B.cell HB5.out 0 rfl
  have c1 : w1.cell? ⟨w.heap.size, 1, none⟩ = some (.int .i64 a) := B.cell HB5.out 1 rfl
  have c2 : w1.cell? ⟨w.heap.size, 2, none⟩ = some (.int .i64 0) := B.cell HB5.out 2 rfl
  have c3 : w1.cell? ⟨w.heap.size, 3, none⟩ = some (.int .i64 0) := B.cell HB5.out 3 rfl
  have c4 : w1.cell? ⟨w.heap.size, 4, none⟩ = some (.int .i64 m) := B.cell HB5.out 4 rfl
  have hlt := B.isLt HB5.out
  have HBd := hideC ((Below.refl w1.heap.size w1).drew)
  go_wp2_with fail
  go_region_law (go_simp; go_at_call 26; refine (opNames_own _).mono ?_; rintro e w2 ⟨rfl, hn2, hb2⟩; have HB2 := hideC (HBd.out.trans (hb2.mono HBd.out.size)); have n0 : w2.cell? ⟨w1.heap.size, 1, none⟩ = some (.string NM) := B.cell hn2 1 HNM.out; have HBX2 := hideC (B.below HB5.out HB2.out (B.isLt HB5.out)); have d0 : w2.cell? ⟨w.heap.size, 0, none⟩ = some (.int .i64 1) := B.cell HBX2.out 0 rfl; clear hn2 hb2; go_simp)
  all_goals
    have e0 : w2.cell? ⟨w.heap.size, 0, none⟩ = some (.int .i64 1) := B.cell HBX2.out 0 rfl
    have e1 : w2.cell? ⟨w.heap.size, 1, none⟩ = some (.int .i64 a) := B.cell HBX2.out 1 rfl
    have e2 : w2.cell? ⟨w.heap.size, 2, none⟩ = some (.int .i64 0) := B.cell HBX2.out 2 rfl
    have e3 : w2.cell? ⟨w.heap.size, 3, none⟩ = some (.int .i64 0) := B.cell HBX2.out 3 rfl
    have e4 : w2.cell? ⟨w.heap.size, 4, none⟩ = some (.int .i64 m) := B.cell HBX2.out 4 rfl
    have HBA := hideC (add_below HKX.out HB2.out)
    clear n0 d0 c0 c1 c2 c3 c4
    go_wp2_with fail
    refine (HWD.out w2).mono ?_
    rintro e w3 ⟨rfl, hb3⟩
    have HB9 := hideC (add_below HBA.out hb3)
    clear hb3
    go_wp2
    go_ret
    exact ⟨rfl, HB9.out⟩
set_option maxHeartbeats 4000000 in
theorem show_2 (a b c : Int) (w : World) (hb : ∀ V, Calls Tryd.prog 23 #[.agg #[.int .i64 2, .int .i64 a, .int .i64 b, .int .i64 c, .int .i64 0]] V fun e w' => e = .returned (.bool false) ∧ Below V.heap.size V w') (hx : ∀ j, j < ([a, b, c] : List Int).length → I64 (([a, b, c] : List Int).getD j 0)) :
    Calls Tryd.prog 8 #[.agg #[.int .i64 2, .int .i64 a, .int .i64 b, .int .i64 c, .int .i64 0]] w fun e w' => e = .returned (.string (wordsS (opL.getD 2 (str [])) [a, b, c])) ∧ Below w.heap.size w w' := by
  have HBD := hideC hb
  have HX := hideC hx
  have HPL : Hid (∀ V, Calls Tryd.prog 24 #[.agg #[.int .i64 2, .int .i64 a, .int .i64 b, .int .i64 c, .int .i64 0]] V fun e w' => e = .returned (.agg #[.int .i64 2, .int .i64 a, .int .i64 b, .int .i64 c, .int .i64 0]) ∧ Below V.heap.size V w') := fun V => plain_else 2 a b c 0 V (by decide)
  obtain ⟨NM, hNM⟩ : ∃ NM, NM = opL.getD 2 (str []) := ⟨_, rfl⟩
  have HNM : Hid ((strC opL)[2]? = some (.string NM)) := by rw [hNM]; rfl
  have hns : NM.size ≤ 1000 := by rw [hNM]; decide
  have HWD : Hid (∀ V, Calls Tryd.prog 25 #[.string NM, .slice (some ⟨V.heap.size, 0, none⟩) 3 3] (V.alloc (.cells #[.int .i64 a, .int .i64 b, .int .i64 c] 3)) fun e w' => e = .returned (.string (wordsS NM [a, b, c])) ∧ Below V.heap.size V w') := fun V => words_at NM [a, b, c] _ V rfl HX.out hns (by simp) 3 rfl
  obtain ⟨R, hR⟩ : ∃ R, R = wordsS NM [a, b, c] := ⟨_, rfl⟩
  rw [← hNM, ← hR]
  rw [← hR] at HWD
  clear hb hx hNM hR
  have HB0 := hideC ((Below.refl w.heap.size w).alloc (Nat.le_refl _) (.cells #[.int .i64 2, .int .i64 a, .int .i64 b, .int .i64 c, .int .i64 0] 23))
  have BX := hideC (B.new w #[.int .i64 2, .int .i64 a, .int .i64 b, .int .i64 c, .int .i64 0] 23)
  obtain ⟨V0, hV0⟩ : ∃ V0, V0 = w.alloc (.cells #[.int .i64 2, .int .i64 a, .int .i64 b, .int .i64 c, .int .i64 0] 23) := ⟨_, rfl⟩
  have HV0 := hideC hV0
  rw [← hV0] at HB0 BX
  clear hV0
  go_enter Tryd.func8, Tryd.ntmps8
  go_wp2_with fail
  rw [← HV0.out]
  have hkin := Q.kin_some V0
  have HU : Hid (∀ x : Q.Kin V0.heap.size V0, x.world.heap[w.heap.size]? = some (.cells #[.int .i64 2, .int .i64 a, .int .i64 b, .int .i64 c, .int .i64 0] 23 (0, 0))) := fun x => B.below BX.out x.keeps (B.isLt BX.out)
  have a0 : ∀ x : Q.Kin V0.heap.size V0, x.world.cell? ⟨w.heap.size, 0, none⟩ = some (.int .i64 2) := fun x => B.cell (HU.out x) 0 rfl
  have a1 : ∀ x : Q.Kin V0.heap.size V0, x.world.cell? ⟨w.heap.size, 1, none⟩ = some (.int .i64 a) := fun x => B.cell (HU.out x) 1 rfl
  have a2 : ∀ x : Q.Kin V0.heap.size V0, x.world.cell? ⟨w.heap.size, 2, none⟩ = some (.int .i64 b) := fun x => B.cell (HU.out x) 2 rfl
  have a3 : ∀ x : Q.Kin V0.heap.size V0, x.world.cell? ⟨w.heap.size, 3, none⟩ = some (.int .i64 c) := fun x => B.cell (HU.out x) 3 rfl
  have a4 : ∀ x : Q.Kin V0.heap.size V0, x.world.cell? ⟨w.heap.size, 4, none⟩ = some (.int .i64 0) := fun x => B.cell (HU.out x) 4 rfl
  have HBD2 : Hid (∀ V, Below V0.heap.size V0 V → Calls Tryd.prog 23 #[.agg #[.int .i64 2, .int .i64 a, .int .i64 b, .int .i64 c, .int .i64 0]] V fun e w' => e = .returned (.bool false) ∧ Below V.heap.size V w') := fun V _ => HBD.out V
  have HPL2 : Hid (∀ V, Below V0.heap.size V0 V → Calls Tryd.prog 24 #[.agg #[.int .i64 2, .int .i64 a, .int .i64 b, .int .i64 c, .int .i64 0]] V fun e w' => e = .returned (.agg #[.int .i64 2, .int .i64 a, .int .i64 b, .int .i64 c, .int .i64 0]) ∧ Below V.heap.size V w') := fun V _ => HPL.out V
  refine Q.region_kin (by kernel_rfl) (by kernel_rfl) ?_
  repeat (first | go_big_quiet_step ((first | (go_at_call 23; with_reducible exact calls_belowT HBD2.out _) | (go_at_call 24; with_reducible exact calls_belowT HPL2.out _))) | quiet_step ((first | (go_at_call 23; with_reducible exact calls_belowT HBD2.out _) | (go_at_call 24; with_reducible exact calls_belowT HPL2.out _))))
  refine wpQuiet_nil ?_
  intro _ hw'
  obtain ⟨x, hw''⟩ := hw'
  subst hw''
  have HKX := hideC (add_below HB0.out x.keeps)
  have HB5 := hideC (HU.out x)
  clear a0 a1 a2 a3 a4 hkin HBD2 HPL2 HU BX HBD HPL
  obtain ⟨w1, hw1⟩ : ∃ w1, w1 = x.world := ⟨_, rfl⟩
  rw [← hw1] at HKX HB5 ⊢
  clear hw1 x
  have c0 : w1.cell? ⟨w.heap.size, 0, none⟩ = some (.int .i64 2) := B.cell HB5.out 0 rfl
  have c1 : w1.cell? ⟨w.heap.size, 1, none⟩ = some (.int .i64 a) := B.cell HB5.out 1 rfl
  have c2 : w1.cell? ⟨w.heap.size, 2, none⟩ = some (.int .i64 b) := B.cell HB5.out 2 rfl
  have c3 : w1.cell? ⟨w.heap.size, 3, none⟩ = some (.int .i64 c) := B.cell HB5.out 3 rfl
  have c4 : w1.cell? ⟨w.heap.size, 4, none⟩ = some (.int .i64 0) := B.cell HB5.out 4 rfl
  have hlt := B.isLt HB5.out
  have HBd := hideC ((Below.refl w1.heap.size w1).drew)
  go_wp2_with fail
  go_region_law (go_simp; go_at_call 26; refine (opNames_own _).mono ?_; rintro e w2 ⟨rfl, hn2, hb2⟩; have HB2 := hideC (HBd.out.trans (hb2.mono HBd.out.size)); have n0 : w2.cell? ⟨w1.heap.size, 2, none⟩ = some (.string NM) := B.cell hn2 2 HNM.out; have HBX2 := hideC (B.below HB5.out HB2.out (B.isLt HB5.out)); have d0 : w2.cell? ⟨w.heap.size, 0, none⟩ = some (.int .i64 2) := B.cell HBX2.out 0 rfl; clear hn2 hb2; go_simp)
  all_goals
    have e0 : w2.cell? ⟨w.heap.size, 0, none⟩ = some (.int .i64 2) := B.cell HBX2.out 0 rfl
    have e1 : w2.cell? ⟨w.heap.size, 1, none⟩ = some (.int .i64 a) := B.cell HBX2.out 1 rfl
    have e2 : w2.cell? ⟨w.heap.size, 2, none⟩ = some (.int .i64 b) := B.cell HBX2.out 2 rfl
    have e3 : w2.cell? ⟨w.heap.size, 3, none⟩ = some (.int .i64 c) := B.cell HBX2.out 3 rfl
    have e4 : w2.cell? ⟨w.heap.size, 4, none⟩ = some (.int .i64 0) := B.cell HBX2.out 4 rfl
    have HBA := hideC (add_below HKX.out HB2.out)
    clear n0 d0 c0 c1 c2 c3 c4
    go_wp2_with fail
    refine (HWD.out w2).mono ?_
    rintro e w3 ⟨rfl, hb3⟩
    have HB9 := hideC (add_below HBA.out hb3)
    clear hb3
    go_wp2
    go_ret
    exact ⟨rfl, HB9.out⟩
set_option maxHeartbeats 4000000 in
theorem show_3 (a b c : Int) (w : World) (hb : ∀ V, Calls Tryd.prog 23 #[.agg #[.int .i64 3, .int .i64 a, .int .i64 b, .int .i64 c, .int .i64 0]] V fun e w' => e = .returned (.bool false) ∧ Below V.heap.size V w') (hx : ∀ j, j < ([a, b, c] : List Int).length → I64 (([a, b, c] : List Int).getD j 0)) :
    Calls Tryd.prog 8 #[.agg #[.int .i64 3, .int .i64 a, .int .i64 b, .int .i64 c, .int .i64 0]] w fun e w' => e = .returned (.string (wordsS (opL.getD 3 (str [])) [a, b, c])) ∧ Below w.heap.size w w' := by
  have HBD := hideC hb
  have HX := hideC hx
  have HPL : Hid (∀ V, Calls Tryd.prog 24 #[.agg #[.int .i64 3, .int .i64 a, .int .i64 b, .int .i64 c, .int .i64 0]] V fun e w' => e = .returned (.agg #[.int .i64 3, .int .i64 a, .int .i64 b, .int .i64 c, .int .i64 0]) ∧ Below V.heap.size V w') := fun V => plain_else 3 a b c 0 V (by decide)
  obtain ⟨NM, hNM⟩ : ∃ NM, NM = opL.getD 3 (str []) := ⟨_, rfl⟩
  have HNM : Hid ((strC opL)[3]? = some (.string NM)) := by rw [hNM]; rfl
  have hns : NM.size ≤ 1000 := by rw [hNM]; decide
  have HWD : Hid (∀ V, Calls Tryd.prog 25 #[.string NM, .slice (some ⟨V.heap.size, 0, none⟩) 3 3] (V.alloc (.cells #[.int .i64 a, .int .i64 b, .int .i64 c] 3)) fun e w' => e = .returned (.string (wordsS NM [a, b, c])) ∧ Below V.heap.size V w') := fun V => words_at NM [a, b, c] _ V rfl HX.out hns (by simp) 3 rfl
  obtain ⟨R, hR⟩ : ∃ R, R = wordsS NM [a, b, c] := ⟨_, rfl⟩
  rw [← hNM, ← hR]
  rw [← hR] at HWD
  clear hb hx hNM hR
  have HB0 := hideC ((Below.refl w.heap.size w).alloc (Nat.le_refl _) (.cells #[.int .i64 3, .int .i64 a, .int .i64 b, .int .i64 c, .int .i64 0] 23))
  have BX := hideC (B.new w #[.int .i64 3, .int .i64 a, .int .i64 b, .int .i64 c, .int .i64 0] 23)
  obtain ⟨V0, hV0⟩ : ∃ V0, V0 = w.alloc (.cells #[.int .i64 3, .int .i64 a, .int .i64 b, .int .i64 c, .int .i64 0] 23) := ⟨_, rfl⟩
  have HV0 := hideC hV0
  rw [← hV0] at HB0 BX
  clear hV0
  go_enter Tryd.func8, Tryd.ntmps8
  go_wp2_with fail
  rw [← HV0.out]
  have hkin := Q.kin_some V0
  have HU : Hid (∀ x : Q.Kin V0.heap.size V0, x.world.heap[w.heap.size]? = some (.cells #[.int .i64 3, .int .i64 a, .int .i64 b, .int .i64 c, .int .i64 0] 23 (0, 0))) := fun x => B.below BX.out x.keeps (B.isLt BX.out)
  have a0 : ∀ x : Q.Kin V0.heap.size V0, x.world.cell? ⟨w.heap.size, 0, none⟩ = some (.int .i64 3) := fun x => B.cell (HU.out x) 0 rfl
  have a1 : ∀ x : Q.Kin V0.heap.size V0, x.world.cell? ⟨w.heap.size, 1, none⟩ = some (.int .i64 a) := fun x => B.cell (HU.out x) 1 rfl
  have a2 : ∀ x : Q.Kin V0.heap.size V0, x.world.cell? ⟨w.heap.size, 2, none⟩ = some (.int .i64 b) := fun x => B.cell (HU.out x) 2 rfl
  have a3 : ∀ x : Q.Kin V0.heap.size V0, x.world.cell? ⟨w.heap.size, 3, none⟩ = some (.int .i64 c) := fun x => B.cell (HU.out x) 3 rfl
  have a4 : ∀ x : Q.Kin V0.heap.size V0, x.world.cell? ⟨w.heap.size, 4, none⟩ = some (.int .i64 0) := fun x => B.cell (HU.out x) 4 rfl
  have HBD2 : Hid (∀ V, Below V0.heap.size V0 V → Calls Tryd.prog 23 #[.agg #[.int .i64 3, .int .i64 a, .int .i64 b, .int .i64 c, .int .i64 0]] V fun e w' => e = .returned (.bool false) ∧ Below V.heap.size V w') := fun V _ => HBD.out V
  have HPL2 : Hid (∀ V, Below V0.heap.size V0 V → Calls Tryd.prog 24 #[.agg #[.int .i64 3, .int .i64 a, .int .i64 b, .int .i64 c, .int .i64 0]] V fun e w' => e = .returned (.agg #[.int .i64 3, .int .i64 a, .int .i64 b, .int .i64 c, .int .i64 0]) ∧ Below V.heap.size V w') := fun V _ => HPL.out V
  refine Q.region_kin (by kernel_rfl) (by kernel_rfl) ?_
  repeat (first | go_big_quiet_step ((first | (go_at_call 23; with_reducible exact calls_belowT HBD2.out _) | (go_at_call 24; with_reducible exact calls_belowT HPL2.out _))) | quiet_step ((first | (go_at_call 23; with_reducible exact calls_belowT HBD2.out _) | (go_at_call 24; with_reducible exact calls_belowT HPL2.out _))))
  refine wpQuiet_nil ?_
  intro _ hw'
  obtain ⟨x, hw''⟩ := hw'
  subst hw''
  have HKX := hideC (add_below HB0.out x.keeps)
  have HB5 := hideC (HU.out x)
  clear a0 a1 a2 a3 a4 hkin HBD2 HPL2 HU BX HBD HPL
  obtain ⟨w1, hw1⟩ : ∃ w1, w1 = x.world := ⟨_, rfl⟩
  rw [← hw1] at HKX HB5 ⊢
  clear hw1 x
  have c0 : w1.cell? ⟨w.heap.size, 0, none⟩ = some (.int .i64 3) := B.cell HB5.out 0 rfl
  have c1 : w1.cell? ⟨w.heap.size, 1, none⟩ = some (.int .i64 a) := B.cell HB5.out 1 rfl
  have c2 : w1.cell? ⟨w.heap.size, 2, none⟩ = some (.int .i64 b) := B.cell HB5.out 2 rfl
  have c3 : w1.cell? ⟨w.heap.size, 3, none⟩ = some (.int .i64 c) := B.cell HB5.out 3 rfl
  have c4 : w1.cell? ⟨w.heap.size, 4, none⟩ = some (.int .i64 0) := B.cell HB5.out 4 rfl
  have hlt := B.isLt HB5.out
  have HBd := hideC ((Below.refl w1.heap.size w1).drew)
  go_wp2_with fail
  go_region_law (go_simp; go_at_call 26; refine (opNames_own _).mono ?_; rintro e w2 ⟨rfl, hn2, hb2⟩; have HB2 := hideC (HBd.out.trans (hb2.mono HBd.out.size)); have n0 : w2.cell? ⟨w1.heap.size, 3, none⟩ = some (.string NM) := B.cell hn2 3 HNM.out; have HBX2 := hideC (B.below HB5.out HB2.out (B.isLt HB5.out)); have d0 : w2.cell? ⟨w.heap.size, 0, none⟩ = some (.int .i64 3) := B.cell HBX2.out 0 rfl; clear hn2 hb2; go_simp)
  all_goals
    have e0 : w2.cell? ⟨w.heap.size, 0, none⟩ = some (.int .i64 3) := B.cell HBX2.out 0 rfl
    have e1 : w2.cell? ⟨w.heap.size, 1, none⟩ = some (.int .i64 a) := B.cell HBX2.out 1 rfl
    have e2 : w2.cell? ⟨w.heap.size, 2, none⟩ = some (.int .i64 b) := B.cell HBX2.out 2 rfl
    have e3 : w2.cell? ⟨w.heap.size, 3, none⟩ = some (.int .i64 c) := B.cell HBX2.out 3 rfl
    have e4 : w2.cell? ⟨w.heap.size, 4, none⟩ = some (.int .i64 0) := B.cell HBX2.out 4 rfl
    have HBA := hideC (add_below HKX.out HB2.out)
    clear n0 d0 c0 c1 c2 c3 c4
    go_wp2_with fail
    refine (HWD.out w2).mono ?_
    rintro e w3 ⟨rfl, hb3⟩
    have HB9 := hideC (add_below HBA.out hb3)
    clear hb3
    go_wp2
    go_ret
    exact ⟨rfl, HB9.out⟩
set_option maxHeartbeats 4000000 in
theorem show_4 (a b c : Int) (w : World) (hb : ∀ V, Calls Tryd.prog 23 #[.agg #[.int .i64 4, .int .i64 a, .int .i64 b, .int .i64 c, .int .i64 0]] V fun e w' => e = .returned (.bool false) ∧ Below V.heap.size V w') (hx : ∀ j, j < ([a, b, c] : List Int).length → I64 (([a, b, c] : List Int).getD j 0)) :
    Calls Tryd.prog 8 #[.agg #[.int .i64 4, .int .i64 a, .int .i64 b, .int .i64 c, .int .i64 0]] w fun e w' => e = .returned (.string (wordsS (opL.getD 4 (str [])) [a, b, c])) ∧ Below w.heap.size w w' := by
  have HBD := hideC hb
  have HX := hideC hx
  have HPL : Hid (∀ V, Calls Tryd.prog 24 #[.agg #[.int .i64 4, .int .i64 a, .int .i64 b, .int .i64 c, .int .i64 0]] V fun e w' => e = .returned (.agg #[.int .i64 4, .int .i64 a, .int .i64 b, .int .i64 c, .int .i64 0]) ∧ Below V.heap.size V w') := fun V => plain_else 4 a b c 0 V (by decide)
  obtain ⟨NM, hNM⟩ : ∃ NM, NM = opL.getD 4 (str []) := ⟨_, rfl⟩
  have HNM : Hid ((strC opL)[4]? = some (.string NM)) := by rw [hNM]; rfl
  have hns : NM.size ≤ 1000 := by rw [hNM]; decide
  have HWD : Hid (∀ V, Calls Tryd.prog 25 #[.string NM, .slice (some ⟨V.heap.size, 0, none⟩) 3 3] (V.alloc (.cells #[.int .i64 a, .int .i64 b, .int .i64 c] 3)) fun e w' => e = .returned (.string (wordsS NM [a, b, c])) ∧ Below V.heap.size V w') := fun V => words_at NM [a, b, c] _ V rfl HX.out hns (by simp) 3 rfl
  obtain ⟨R, hR⟩ : ∃ R, R = wordsS NM [a, b, c] := ⟨_, rfl⟩
  rw [← hNM, ← hR]
  rw [← hR] at HWD
  clear hb hx hNM hR
  have HB0 := hideC ((Below.refl w.heap.size w).alloc (Nat.le_refl _) (.cells #[.int .i64 4, .int .i64 a, .int .i64 b, .int .i64 c, .int .i64 0] 23))
  have BX := hideC (B.new w #[.int .i64 4, .int .i64 a, .int .i64 b, .int .i64 c, .int .i64 0] 23)
  obtain ⟨V0, hV0⟩ : ∃ V0, V0 = w.alloc (.cells #[.int .i64 4, .int .i64 a, .int .i64 b, .int .i64 c, .int .i64 0] 23) := ⟨_, rfl⟩
  have HV0 := hideC hV0
  rw [← hV0] at HB0 BX
  clear hV0
  go_enter Tryd.func8, Tryd.ntmps8
  go_wp2_with fail
  rw [← HV0.out]
  have hkin := Q.kin_some V0
  have HU : Hid (∀ x : Q.Kin V0.heap.size V0, x.world.heap[w.heap.size]? = some (.cells #[.int .i64 4, .int .i64 a, .int .i64 b, .int .i64 c, .int .i64 0] 23 (0, 0))) := fun x => B.below BX.out x.keeps (B.isLt BX.out)
  have a0 : ∀ x : Q.Kin V0.heap.size V0, x.world.cell? ⟨w.heap.size, 0, none⟩ = some (.int .i64 4) := fun x => B.cell (HU.out x) 0 rfl
  have a1 : ∀ x : Q.Kin V0.heap.size V0, x.world.cell? ⟨w.heap.size, 1, none⟩ = some (.int .i64 a) := fun x => B.cell (HU.out x) 1 rfl
  have a2 : ∀ x : Q.Kin V0.heap.size V0, x.world.cell? ⟨w.heap.size, 2, none⟩ = some (.int .i64 b) := fun x => B.cell (HU.out x) 2 rfl
  have a3 : ∀ x : Q.Kin V0.heap.size V0, x.world.cell? ⟨w.heap.size, 3, none⟩ = some (.int .i64 c) := fun x => B.cell (HU.out x) 3 rfl
  have a4 : ∀ x : Q.Kin V0.heap.size V0, x.world.cell? ⟨w.heap.size, 4, none⟩ = some (.int .i64 0) := fun x => B.cell (HU.out x) 4 rfl
  have HBD2 : Hid (∀ V, Below V0.heap.size V0 V → Calls Tryd.prog 23 #[.agg #[.int .i64 4, .int .i64 a, .int .i64 b, .int .i64 c, .int .i64 0]] V fun e w' => e = .returned (.bool false) ∧ Below V.heap.size V w') := fun V _ => HBD.out V
  have HPL2 : Hid (∀ V, Below V0.heap.size V0 V → Calls Tryd.prog 24 #[.agg #[.int .i64 4, .int .i64 a, .int .i64 b, .int .i64 c, .int .i64 0]] V fun e w' => e = .returned (.agg #[.int .i64 4, .int .i64 a, .int .i64 b, .int .i64 c, .int .i64 0]) ∧ Below V.heap.size V w') := fun V _ => HPL.out V
  refine Q.region_kin (by kernel_rfl) (by kernel_rfl) ?_
  repeat (first | go_big_quiet_step ((first | (go_at_call 23; with_reducible exact calls_belowT HBD2.out _) | (go_at_call 24; with_reducible exact calls_belowT HPL2.out _))) | quiet_step ((first | (go_at_call 23; with_reducible exact calls_belowT HBD2.out _) | (go_at_call 24; with_reducible exact calls_belowT HPL2.out _))))
  refine wpQuiet_nil ?_
  intro _ hw'
  obtain ⟨x, hw''⟩ := hw'
  subst hw''
  have HKX := hideC (add_below HB0.out x.keeps)
  have HB5 := hideC (HU.out x)
  clear a0 a1 a2 a3 a4 hkin HBD2 HPL2 HU BX HBD HPL
  obtain ⟨w1, hw1⟩ : ∃ w1, w1 = x.world := ⟨_, rfl⟩
  rw [← hw1] at HKX HB5 ⊢
  clear hw1 x
  have c0 : w1.cell? ⟨w.heap.size, 0, none⟩ = some (.int .i64 4) := B.cell HB5.out 0 rfl
  have c1 : w1.cell? ⟨w.heap.size, 1, none⟩ = some (.int .i64 a) := B.cell HB5.out 1 rfl
  have c2 : w1.cell? ⟨w.heap.size, 2, none⟩ = some (.int .i64 b) := B.cell HB5.out 2 rfl
  have c3 : w1.cell? ⟨w.heap.size, 3, none⟩ = some (.int .i64 c) := B.cell HB5.out 3 rfl
  have c4 : w1.cell? ⟨w.heap.size, 4, none⟩ = some (.int .i64 0) := B.cell HB5.out 4 rfl
  have hlt := B.isLt HB5.out
  have HBd := hideC ((Below.refl w1.heap.size w1).drew)
  go_wp2_with fail
  go_region_law (go_simp; go_at_call 26; refine (opNames_own _).mono ?_; rintro e w2 ⟨rfl, hn2, hb2⟩; have HB2 := hideC (HBd.out.trans (hb2.mono HBd.out.size)); have n0 : w2.cell? ⟨w1.heap.size, 4, none⟩ = some (.string NM) := B.cell hn2 4 HNM.out; have HBX2 := hideC (B.below HB5.out HB2.out (B.isLt HB5.out)); have d0 : w2.cell? ⟨w.heap.size, 0, none⟩ = some (.int .i64 4) := B.cell HBX2.out 0 rfl; clear hn2 hb2; go_simp)
  all_goals
    have e0 : w2.cell? ⟨w.heap.size, 0, none⟩ = some (.int .i64 4) := B.cell HBX2.out 0 rfl
    have e1 : w2.cell? ⟨w.heap.size, 1, none⟩ = some (.int .i64 a) := B.cell HBX2.out 1 rfl
    have e2 : w2.cell? ⟨w.heap.size, 2, none⟩ = some (.int .i64 b) := B.cell HBX2.out 2 rfl
    have e3 : w2.cell? ⟨w.heap.size, 3, none⟩ = some (.int .i64 c) := B.cell HBX2.out 3 rfl
    have e4 : w2.cell? ⟨w.heap.size, 4, none⟩ = some (.int .i64 0) := B.cell HBX2.out 4 rfl
    have HBA := hideC (add_below HKX.out HB2.out)
    clear n0 d0 c0 c1 c2 c3 c4
    go_wp2_with fail
    refine (HWD.out w2).mono ?_
    rintro e w3 ⟨rfl, hb3⟩
    have HB9 := hideC (add_below HBA.out hb3)
    clear hb3
    go_wp2
    go_ret
    exact ⟨rfl, HB9.out⟩
set_option maxHeartbeats 4000000 in
theorem show_5 (a b c : Int) (w : World) (hb : ∀ V, Calls Tryd.prog 23 #[.agg #[.int .i64 5, .int .i64 a, .int .i64 b, .int .i64 c, .int .i64 0]] V fun e w' => e = .returned (.bool false) ∧ Below V.heap.size V w') (hx : ∀ j, j < ([a, b, c] : List Int).length → I64 (([a, b, c] : List Int).getD j 0)) :
    Calls Tryd.prog 8 #[.agg #[.int .i64 5, .int .i64 a, .int .i64 b, .int .i64 c, .int .i64 0]] w fun e w' => e = .returned (.string (wordsS (opL.getD 5 (str [])) [a, b, c])) ∧ Below w.heap.size w w' := by
  have HBD := hideC hb
  have HX := hideC hx
  have HPL : Hid (∀ V, Calls Tryd.prog 24 #[.agg #[.int .i64 5, .int .i64 a, .int .i64 b, .int .i64 c, .int .i64 0]] V fun e w' => e = .returned (.agg #[.int .i64 5, .int .i64 a, .int .i64 b, .int .i64 c, .int .i64 0]) ∧ Below V.heap.size V w') := fun V => plain_else 5 a b c 0 V (by decide)
  obtain ⟨NM, hNM⟩ : ∃ NM, NM = opL.getD 5 (str []) := ⟨_, rfl⟩
  have HNM : Hid ((strC opL)[5]? = some (.string NM)) := by rw [hNM]; rfl
  have hns : NM.size ≤ 1000 := by rw [hNM]; decide
  have HWD : Hid (∀ V, Calls Tryd.prog 25 #[.string NM, .slice (some ⟨V.heap.size, 0, none⟩) 3 3] (V.alloc (.cells #[.int .i64 a, .int .i64 b, .int .i64 c] 3)) fun e w' => e = .returned (.string (wordsS NM [a, b, c])) ∧ Below V.heap.size V w') := fun V => words_at NM [a, b, c] _ V rfl HX.out hns (by simp) 3 rfl
  obtain ⟨R, hR⟩ : ∃ R, R = wordsS NM [a, b, c] := ⟨_, rfl⟩
  rw [← hNM, ← hR]
  rw [← hR] at HWD
  clear hb hx hNM hR
  have HB0 := hideC ((Below.refl w.heap.size w).alloc (Nat.le_refl _) (.cells #[.int .i64 5, .int .i64 a, .int .i64 b, .int .i64 c, .int .i64 0] 23))
  have BX := hideC (B.new w #[.int .i64 5, .int .i64 a, .int .i64 b, .int .i64 c, .int .i64 0] 23)
  obtain ⟨V0, hV0⟩ : ∃ V0, V0 = w.alloc (.cells #[.int .i64 5, .int .i64 a, .int .i64 b, .int .i64 c, .int .i64 0] 23) := ⟨_, rfl⟩
  have HV0 := hideC hV0
  rw [← hV0] at HB0 BX
  clear hV0
  go_enter Tryd.func8, Tryd.ntmps8
  go_wp2_with fail
  rw [← HV0.out]
  have hkin := Q.kin_some V0
  have HU : Hid (∀ x : Q.Kin V0.heap.size V0, x.world.heap[w.heap.size]? = some (.cells #[.int .i64 5, .int .i64 a, .int .i64 b, .int .i64 c, .int .i64 0] 23 (0, 0))) := fun x => B.below BX.out x.keeps (B.isLt BX.out)
  have a0 : ∀ x : Q.Kin V0.heap.size V0, x.world.cell? ⟨w.heap.size, 0, none⟩ = some (.int .i64 5) := fun x => B.cell (HU.out x) 0 rfl
  have a1 : ∀ x : Q.Kin V0.heap.size V0, x.world.cell? ⟨w.heap.size, 1, none⟩ = some (.int .i64 a) := fun x => B.cell (HU.out x) 1 rfl
  have a2 : ∀ x : Q.Kin V0.heap.size V0, x.world.cell? ⟨w.heap.size, 2, none⟩ = some (.int .i64 b) := fun x => B.cell (HU.out x) 2 rfl
  have a3 : ∀ x : Q.Kin V0.heap.size V0, x.world.cell? ⟨w.heap.size, 3, none⟩ = some (.int .i64 c) := fun x => B.cell (HU.out x) 3 rfl
  have a4 : ∀ x : Q.Kin V0.heap.size V0, x.world.cell? ⟨w.heap.size, 4, none⟩ = some (.int .i64 0) := fun x => B.cell (HU.out x) 4 rfl
  have HBD2 : Hid (∀ V, Below V0.heap.size V0 V → Calls Tryd.prog 23 #[.agg #[.int .i64 5, .int .i64 a, .int .i64 b, .int .i64 c, .int .i64 0]] V fun e w' => e = .returned (.bool false) ∧ Below V.heap.size V w') := fun V _ => HBD.out V
  have HPL2 : Hid (∀ V, Below V0.heap.size V0 V → Calls Tryd.prog 24 #[.agg #[.int .i64 5, .int .i64 a, .int .i64 b, .int .i64 c, .int .i64 0]] V fun e w' => e = .returned (.agg #[.int .i64 5, .int .i64 a, .int .i64 b, .int .i64 c, .int .i64 0]) ∧ Below V.heap.size V w') := fun V _ => HPL.out V
  refine Q.region_kin (by kernel_rfl) (by kernel_rfl) ?_
  repeat (first | go_big_quiet_step ((first | (go_at_call 23; with_reducible exact calls_belowT HBD2.out _) | (go_at_call 24; with_reducible exact calls_belowT HPL2.out _))) | quiet_step ((first | (go_at_call 23; with_reducible exact calls_belowT HBD2.out _) | (go_at_call 24; with_reducible exact calls_belowT HPL2.out _))))
  refine wpQuiet_nil ?_
  intro _ hw'
  obtain ⟨x, hw''⟩ := hw'
  subst hw''
  have HKX := hideC (add_below HB0.out x.keeps)
  have HB5 := hideC (HU.out x)
  clear a0 a1 a2 a3 a4 hkin HBD2 HPL2 HU BX HBD HPL
  obtain ⟨w1, hw1⟩ : ∃ w1, w1 = x.world := ⟨_, rfl⟩
  rw [← hw1] at HKX HB5 ⊢
  clear hw1 x
  have c0 : w1.cell? ⟨w.heap.size, 0, none⟩ = some (.int .i64 5) := B.cell HB5.out 0 rfl
  have c1 : w1.cell? ⟨w.heap.size, 1, none⟩ = some (.int .i64 a) := B.cell HB5.out 1 rfl
  have c2 : w1.cell? ⟨w.heap.size, 2, none⟩ = some (.int .i64 b) := B.cell HB5.out 2 rfl
  have c3 : w1.cell? ⟨w.heap.size, 3, none⟩ = some (.int .i64 c) := B.cell HB5.out 3 rfl
  have c4 : w1.cell? ⟨w.heap.size, 4, none⟩ = some (.int .i64 0) := B.cell HB5.out 4 rfl
  have hlt := B.isLt HB5.out
  have HBd := hideC ((Below.refl w1.heap.size w1).drew)
  go_wp2_with fail
  go_region_law (go_simp; go_at_call 26; refine (opNames_own _).mono ?_; rintro e w2 ⟨rfl, hn2, hb2⟩; have HB2 := hideC (HBd.out.trans (hb2.mono HBd.out.size)); have n0 : w2.cell? ⟨w1.heap.size, 5, none⟩ = some (.string NM) := B.cell hn2 5 HNM.out; have HBX2 := hideC (B.below HB5.out HB2.out (B.isLt HB5.out)); have d0 : w2.cell? ⟨w.heap.size, 0, none⟩ = some (.int .i64 5) := B.cell HBX2.out 0 rfl; clear hn2 hb2; go_simp)
  all_goals
    have e0 : w2.cell? ⟨w.heap.size, 0, none⟩ = some (.int .i64 5) := B.cell HBX2.out 0 rfl
    have e1 : w2.cell? ⟨w.heap.size, 1, none⟩ = some (.int .i64 a) := B.cell HBX2.out 1 rfl
    have e2 : w2.cell? ⟨w.heap.size, 2, none⟩ = some (.int .i64 b) := B.cell HBX2.out 2 rfl
    have e3 : w2.cell? ⟨w.heap.size, 3, none⟩ = some (.int .i64 c) := B.cell HBX2.out 3 rfl
    have e4 : w2.cell? ⟨w.heap.size, 4, none⟩ = some (.int .i64 0) := B.cell HBX2.out 4 rfl
    have HBA := hideC (add_below HKX.out HB2.out)
    clear n0 d0 c0 c1 c2 c3 c4
    go_wp2_with fail
    refine (HWD.out w2).mono ?_
    rintro e w3 ⟨rfl, hb3⟩
    have HB9 := hideC (add_below HBA.out hb3)
    clear hb3
    go_wp2
    go_ret
    exact ⟨rfl, HB9.out⟩
set_option maxHeartbeats 4000000 in
theorem show_6 (a b c : Int) (w : World) (hb : ∀ V, Calls Tryd.prog 23 #[.agg #[.int .i64 6, .int .i64 a, .int .i64 b, .int .i64 c, .int .i64 0]] V fun e w' => e = .returned (.bool false) ∧ Below V.heap.size V w') (hx : ∀ j, j < ([a, b, c] : List Int).length → I64 (([a, b, c] : List Int).getD j 0)) :
    Calls Tryd.prog 8 #[.agg #[.int .i64 6, .int .i64 a, .int .i64 b, .int .i64 c, .int .i64 0]] w fun e w' => e = .returned (.string (wordsS (opL.getD 6 (str [])) [a, b, c])) ∧ Below w.heap.size w w' := by
  have HBD := hideC hb
  have HX := hideC hx
  have HPL : Hid (∀ V, Calls Tryd.prog 24 #[.agg #[.int .i64 6, .int .i64 a, .int .i64 b, .int .i64 c, .int .i64 0]] V fun e w' => e = .returned (.agg #[.int .i64 6, .int .i64 a, .int .i64 b, .int .i64 c, .int .i64 0]) ∧ Below V.heap.size V w') := fun V => plain_else 6 a b c 0 V (by decide)
  obtain ⟨NM, hNM⟩ : ∃ NM, NM = opL.getD 6 (str []) := ⟨_, rfl⟩
  have HNM : Hid ((strC opL)[6]? = some (.string NM)) := by rw [hNM]; rfl
  have hns : NM.size ≤ 1000 := by rw [hNM]; decide
  have HWD : Hid (∀ V, Calls Tryd.prog 25 #[.string NM, .slice (some ⟨V.heap.size, 0, none⟩) 3 3] (V.alloc (.cells #[.int .i64 a, .int .i64 b, .int .i64 c] 3)) fun e w' => e = .returned (.string (wordsS NM [a, b, c])) ∧ Below V.heap.size V w') := fun V => words_at NM [a, b, c] _ V rfl HX.out hns (by simp) 3 rfl
  obtain ⟨R, hR⟩ : ∃ R, R = wordsS NM [a, b, c] := ⟨_, rfl⟩
  rw [← hNM, ← hR]
  rw [← hR] at HWD
  clear hb hx hNM hR
  have HB0 := hideC ((Below.refl w.heap.size w).alloc (Nat.le_refl _) (.cells #[.int .i64 6, .int .i64 a, .int .i64 b, .int .i64 c, .int .i64 0] 23))
  have BX := hideC (B.new w #[.int .i64 6, .int .i64 a, .int .i64 b, .int .i64 c, .int .i64 0] 23)
  obtain ⟨V0, hV0⟩ : ∃ V0, V0 = w.alloc (.cells #[.int .i64 6, .int .i64 a, .int .i64 b, .int .i64 c, .int .i64 0] 23) := ⟨_, rfl⟩
  have HV0 := hideC hV0
  rw [← hV0] at HB0 BX
  clear hV0
  go_enter Tryd.func8, Tryd.ntmps8
  go_wp2_with fail
  rw [← HV0.out]
  have hkin := Q.kin_some V0
  have HU : Hid (∀ x : Q.Kin V0.heap.size V0, x.world.heap[w.heap.size]? = some (.cells #[.int .i64 6, .int .i64 a, .int .i64 b, .int .i64 c, .int .i64 0] 23 (0, 0))) := fun x => B.below BX.out x.keeps (B.isLt BX.out)
  have a0 : ∀ x : Q.Kin V0.heap.size V0, x.world.cell? ⟨w.heap.size, 0, none⟩ = some (.int .i64 6) := fun x => B.cell (HU.out x) 0 rfl
  have a1 : ∀ x : Q.Kin V0.heap.size V0, x.world.cell? ⟨w.heap.size, 1, none⟩ = some (.int .i64 a) := fun x => B.cell (HU.out x) 1 rfl
  have a2 : ∀ x : Q.Kin V0.heap.size V0, x.world.cell? ⟨w.heap.size, 2, none⟩ = some (.int .i64 b) := fun x => B.cell (HU.out x) 2 rfl
  have a3 : ∀ x : Q.Kin V0.heap.size V0, x.world.cell? ⟨w.heap.size, 3, none⟩ = some (.int .i64 c) := fun x => B.cell (HU.out x) 3 rfl
  have a4 : ∀ x : Q.Kin V0.heap.size V0, x.world.cell? ⟨w.heap.size, 4, none⟩ = some (.int .i64 0) := fun x => B.cell (HU.out x) 4 rfl
  have HBD2 : Hid (∀ V, Below V0.heap.size V0 V → Calls Tryd.prog 23 #[.agg #[.int .i64 6, .int .i64 a, .int .i64 b, .int .i64 c, .int .i64 0]] V fun e w' => e = .returned (.bool false) ∧ Below V.heap.size V w') := fun V _ => HBD.out V
  have HPL2 : Hid (∀ V, Below V0.heap.size V0 V → Calls Tryd.prog 24 #[.agg #[.int .i64 6, .int .i64 a, .int .i64 b, .int .i64 c, .int .i64 0]] V fun e w' => e = .returned (.agg #[.int .i64 6, .int .i64 a, .int .i64 b, .int .i64 c, .int .i64 0]) ∧ Below V.heap.size V w') := fun V _ => HPL.out V
  refine Q.region_kin (by kernel_rfl) (by kernel_rfl) ?_
  repeat (first | go_big_quiet_step ((first | (go_at_call 23; with_reducible exact calls_belowT HBD2.out _) | (go_at_call 24; with_reducible exact calls_belowT HPL2.out _))) | quiet_step ((first | (go_at_call 23; with_reducible exact calls_belowT HBD2.out _) | (go_at_call 24; with_reducible exact calls_belowT HPL2.out _))))
  refine wpQuiet_nil ?_
  intro _ hw'
  obtain ⟨x, hw''⟩ := hw'
  subst hw''
  have HKX := hideC (add_below HB0.out x.keeps)
  have HB5 := hideC (HU.out x)
  clear a0 a1 a2 a3 a4 hkin HBD2 HPL2 HU BX HBD HPL
  obtain ⟨w1, hw1⟩ : ∃ w1, w1 = x.world := ⟨_, rfl⟩
  rw [← hw1] at HKX HB5 ⊢
  clear hw1 x
  have c0 : w1.cell? ⟨w.heap.size, 0, none⟩ = some (.int .i64 6) := B.cell HB5.out 0 rfl
  have c1 : w1.cell? ⟨w.heap.size, 1, none⟩ = some (.int .i64 a) := B.cell HB5.out 1 rfl
  have c2 : w1.cell? ⟨w.heap.size, 2, none⟩ = some (.int .i64 b) := B.cell HB5.out 2 rfl
  have c3 : w1.cell? ⟨w.heap.size, 3, none⟩ = some (.int .i64 c) := B.cell HB5.out 3 rfl
  have c4 : w1.cell? ⟨w.heap.size, 4, none⟩ = some (.int .i64 0) := B.cell HB5.out 4 rfl
  have hlt := B.isLt HB5.out
  have HBd := hideC ((Below.refl w1.heap.size w1).drew)
  go_wp2_with fail
  go_region_law (go_simp; go_at_call 26; refine (opNames_own _).mono ?_; rintro e w2 ⟨rfl, hn2, hb2⟩; have HB2 := hideC (HBd.out.trans (hb2.mono HBd.out.size)); have n0 : w2.cell? ⟨w1.heap.size, 6, none⟩ = some (.string NM) := B.cell hn2 6 HNM.out; have HBX2 := hideC (B.below HB5.out HB2.out (B.isLt HB5.out)); have d0 : w2.cell? ⟨w.heap.size, 0, none⟩ = some (.int .i64 6) := B.cell HBX2.out 0 rfl; clear hn2 hb2; go_simp)
  all_goals
    have e0 : w2.cell? ⟨w.heap.size, 0, none⟩ = some (.int .i64 6) := B.cell HBX2.out 0 rfl
    have e1 : w2.cell? ⟨w.heap.size, 1, none⟩ = some (.int .i64 a) := B.cell HBX2.out 1 rfl
    have e2 : w2.cell? ⟨w.heap.size, 2, none⟩ = some (.int .i64 b) := B.cell HBX2.out 2 rfl
    have e3 : w2.cell? ⟨w.heap.size, 3, none⟩ = some (.int .i64 c) := B.cell HBX2.out 3 rfl
    have e4 : w2.cell? ⟨w.heap.size, 4, none⟩ = some (.int .i64 0) := B.cell HBX2.out 4 rfl
    have HBA := hideC (add_below HKX.out HB2.out)
    clear n0 d0 c0 c1 c2 c3 c4
    go_wp2_with fail
    refine (HWD.out w2).mono ?_
    rintro e w3 ⟨rfl, hb3⟩
    have HB9 := hideC (add_below HBA.out hb3)
    clear hb3
    go_wp2
    go_ret
    exact ⟨rfl, HB9.out⟩
set_option maxHeartbeats 4000000 in
theorem show_7 (a b c : Int) (w : World) (hb : ∀ V, Calls Tryd.prog 23 #[.agg #[.int .i64 7, .int .i64 a, .int .i64 b, .int .i64 c, .int .i64 0]] V fun e w' => e = .returned (.bool false) ∧ Below V.heap.size V w') (hx : ∀ j, j < ([a, b, c] : List Int).length → I64 (([a, b, c] : List Int).getD j 0)) :
    Calls Tryd.prog 8 #[.agg #[.int .i64 7, .int .i64 a, .int .i64 b, .int .i64 c, .int .i64 0]] w fun e w' => e = .returned (.string (wordsS (opL.getD 7 (str [])) [a, b, c])) ∧ Below w.heap.size w w' := by
  have HBD := hideC hb
  have HX := hideC hx
  have HPL : Hid (∀ V, Calls Tryd.prog 24 #[.agg #[.int .i64 7, .int .i64 a, .int .i64 b, .int .i64 c, .int .i64 0]] V fun e w' => e = .returned (.agg #[.int .i64 7, .int .i64 a, .int .i64 b, .int .i64 c, .int .i64 0]) ∧ Below V.heap.size V w') := fun V => plain_else 7 a b c 0 V (by decide)
  obtain ⟨NM, hNM⟩ : ∃ NM, NM = opL.getD 7 (str []) := ⟨_, rfl⟩
  have HNM : Hid ((strC opL)[7]? = some (.string NM)) := by rw [hNM]; rfl
  have hns : NM.size ≤ 1000 := by rw [hNM]; decide
  have HWD : Hid (∀ V, Calls Tryd.prog 25 #[.string NM, .slice (some ⟨V.heap.size, 0, none⟩) 3 3] (V.alloc (.cells #[.int .i64 a, .int .i64 b, .int .i64 c] 3)) fun e w' => e = .returned (.string (wordsS NM [a, b, c])) ∧ Below V.heap.size V w') := fun V => words_at NM [a, b, c] _ V rfl HX.out hns (by simp) 3 rfl
  obtain ⟨R, hR⟩ : ∃ R, R = wordsS NM [a, b, c] := ⟨_, rfl⟩
  rw [← hNM, ← hR]
  rw [← hR] at HWD
  clear hb hx hNM hR
  have HB0 := hideC ((Below.refl w.heap.size w).alloc (Nat.le_refl _) (.cells #[.int .i64 7, .int .i64 a, .int .i64 b, .int .i64 c, .int .i64 0] 23))
  have BX := hideC (B.new w #[.int .i64 7, .int .i64 a, .int .i64 b, .int .i64 c, .int .i64 0] 23)
  obtain ⟨V0, hV0⟩ : ∃ V0, V0 = w.alloc (.cells #[.int .i64 7, .int .i64 a, .int .i64 b, .int .i64 c, .int .i64 0] 23) := ⟨_, rfl⟩
  have HV0 := hideC hV0
  rw [← hV0] at HB0 BX
  clear hV0
  go_enter Tryd.func8, Tryd.ntmps8
  go_wp2_with fail
  rw [← HV0.out]
  have hkin := Q.kin_some V0
  have HU : Hid (∀ x : Q.Kin V0.heap.size V0, x.world.heap[w.heap.size]? = some (.cells #[.int .i64 7, .int .i64 a, .int .i64 b, .int .i64 c, .int .i64 0] 23 (0, 0))) := fun x => B.below BX.out x.keeps (B.isLt BX.out)
  have a0 : ∀ x : Q.Kin V0.heap.size V0, x.world.cell? ⟨w.heap.size, 0, none⟩ = some (.int .i64 7) := fun x => B.cell (HU.out x) 0 rfl
  have a1 : ∀ x : Q.Kin V0.heap.size V0, x.world.cell? ⟨w.heap.size, 1, none⟩ = some (.int .i64 a) := fun x => B.cell (HU.out x) 1 rfl
  have a2 : ∀ x : Q.Kin V0.heap.size V0, x.world.cell? ⟨w.heap.size, 2, none⟩ = some (.int .i64 b) := fun x => B.cell (HU.out x) 2 rfl
  have a3 : ∀ x : Q.Kin V0.heap.size V0, x.world.cell? ⟨w.heap.size, 3, none⟩ = some (.int .i64 c) := fun x => B.cell (HU.out x) 3 rfl
  have a4 : ∀ x : Q.Kin V0.heap.size V0, x.world.cell? ⟨w.heap.size, 4, none⟩ = some (.int .i64 0) := fun x => B.cell (HU.out x) 4 rfl
  have HBD2 : Hid (∀ V, Below V0.heap.size V0 V → Calls Tryd.prog 23 #[.agg #[.int .i64 7, .int .i64 a, .int .i64 b, .int .i64 c, .int .i64 0]] V fun e w' => e = .returned (.bool false) ∧ Below V.heap.size V w') := fun V _ => HBD.out V
  have HPL2 : Hid (∀ V, Below V0.heap.size V0 V → Calls Tryd.prog 24 #[.agg #[.int .i64 7, .int .i64 a, .int .i64 b, .int .i64 c, .int .i64 0]] V fun e w' => e = .returned (.agg #[.int .i64 7, .int .i64 a, .int .i64 b, .int .i64 c, .int .i64 0]) ∧ Below V.heap.size V w') := fun V _ => HPL.out V
  refine Q.region_kin (by kernel_rfl) (by kernel_rfl) ?_
  repeat (first | go_big_quiet_step ((first | (go_at_call 23; with_reducible exact calls_belowT HBD2.out _) | (go_at_call 24; with_reducible exact calls_belowT HPL2.out _))) | quiet_step ((first | (go_at_call 23; with_reducible exact calls_belowT HBD2.out _) | (go_at_call 24; with_reducible exact calls_belowT HPL2.out _))))
  refine wpQuiet_nil ?_
  intro _ hw'
  obtain ⟨x, hw''⟩ := hw'
  subst hw''
  have HKX := hideC (add_below HB0.out x.keeps)
  have HB5 := hideC (HU.out x)
  clear a0 a1 a2 a3 a4 hkin HBD2 HPL2 HU BX HBD HPL
  obtain ⟨w1, hw1⟩ : ∃ w1, w1 = x.world := ⟨_, rfl⟩
  rw [← hw1] at HKX HB5 ⊢
  clear hw1 x
  have c0 : w1.cell? ⟨w.heap.size, 0, none⟩ = some (.int .i64 7) := B.cell HB5.out 0 rfl
  have c1 : w1.cell? ⟨w.heap.size, 1, none⟩ = some (.int .i64 a) := B.cell HB5.out 1 rfl
  have c2 : w1.cell? ⟨w.heap.size, 2, none⟩ = some (.int .i64 b) := B.cell HB5.out 2 rfl
  have c3 : w1.cell? ⟨w.heap.size, 3, none⟩ = some (.int .i64 c) := B.cell HB5.out 3 rfl
  have c4 : w1.cell? ⟨w.heap.size, 4, none⟩ = some (.int .i64 0) := B.cell HB5.out 4 rfl
  have hlt := B.isLt HB5.out
  have HBd := hideC ((Below.refl w1.heap.size w1).drew)
  go_wp2_with fail
  go_region_law (go_simp; go_at_call 26; refine (opNames_own _).mono ?_; rintro e w2 ⟨rfl, hn2, hb2⟩; have HB2 := hideC (HBd.out.trans (hb2.mono HBd.out.size)); have n0 : w2.cell? ⟨w1.heap.size, 7, none⟩ = some (.string NM) := B.cell hn2 7 HNM.out; have HBX2 := hideC (B.below HB5.out HB2.out (B.isLt HB5.out)); have d0 : w2.cell? ⟨w.heap.size, 0, none⟩ = some (.int .i64 7) := B.cell HBX2.out 0 rfl; clear hn2 hb2; go_simp)
  all_goals
    have e0 : w2.cell? ⟨w.heap.size, 0, none⟩ = some (.int .i64 7) := B.cell HBX2.out 0 rfl
    have e1 : w2.cell? ⟨w.heap.size, 1, none⟩ = some (.int .i64 a) := B.cell HBX2.out 1 rfl
    have e2 : w2.cell? ⟨w.heap.size, 2, none⟩ = some (.int .i64 b) := B.cell HBX2.out 2 rfl
    have e3 : w2.cell? ⟨w.heap.size, 3, none⟩ = some (.int .i64 c) := B.cell HBX2.out 3 rfl
    have e4 : w2.cell? ⟨w.heap.size, 4, none⟩ = some (.int .i64 0) := B.cell HBX2.out 4 rfl
    have HBA := hideC (add_below HKX.out HB2.out)
    clear n0 d0 c0 c1 c2 c3 c4
    go_wp2_with fail
    refine (HWD.out w2).mono ?_
    rintro e w3 ⟨rfl, hb3⟩
    have HB9 := hideC (add_below HBA.out hb3)
    clear hb3
    go_wp2
    go_ret
    exact ⟨rfl, HB9.out⟩
set_option maxHeartbeats 4000000 in
theorem show_8 (a b m : Int) (w : World) (hb : ∀ V, Calls Tryd.prog 23 #[.agg #[.int .i64 8, .int .i64 a, .int .i64 b, .int .i64 0, .int .i64 m]] V fun e w' => e = .returned (.bool false) ∧ Below V.heap.size V w') (hx : ∀ j, j < ([a, b, m] : List Int).length → I64 (([a, b, m] : List Int).getD j 0)) :
    Calls Tryd.prog 8 #[.agg #[.int .i64 8, .int .i64 a, .int .i64 b, .int .i64 0, .int .i64 m]] w fun e w' => e = .returned (.string (wordsS (opL.getD 8 (str [])) [a, b, m])) ∧ Below w.heap.size w w' := by
  have HBD := hideC hb
  have HX := hideC hx
  have HPL : Hid (∀ V, Calls Tryd.prog 24 #[.agg #[.int .i64 8, .int .i64 a, .int .i64 b, .int .i64 0, .int .i64 m]] V fun e w' => e = .returned (.agg #[.int .i64 8, .int .i64 a, .int .i64 b, .int .i64 0, .int .i64 m]) ∧ Below V.heap.size V w') := fun V => plain_8 a b 0 m V
  obtain ⟨NM, hNM⟩ : ∃ NM, NM = opL.getD 8 (str []) := ⟨_, rfl⟩
  have HNM : Hid ((strC opL)[8]? = some (.string NM)) := by rw [hNM]; rfl
  have hns : NM.size ≤ 1000 := by rw [hNM]; decide
  have HWD : Hid (∀ V, Calls Tryd.prog 25 #[.string NM, .slice (some ⟨V.heap.size, 0, none⟩) 3 3] (V.alloc (.cells #[.int .i64 a, .int .i64 b, .int .i64 m] 3)) fun e w' => e = .returned (.string (wordsS NM [a, b, m])) ∧ Below V.heap.size V w') := fun V => words_at NM [a, b, m] _ V rfl HX.out hns (by simp) 3 rfl
  obtain ⟨R, hR⟩ : ∃ R, R = wordsS NM [a, b, m] := ⟨_, rfl⟩
  rw [← hNM, ← hR]
  rw [← hR] at HWD
  clear hb hx hNM hR
  have HB0 := hideC ((Below.refl w.heap.size w).alloc (Nat.le_refl _) (.cells #[.int .i64 8, .int .i64 a, .int .i64 b, .int .i64 0, .int .i64 m] 23))
  have BX := hideC (B.new w #[.int .i64 8, .int .i64 a, .int .i64 b, .int .i64 0, .int .i64 m] 23)
  obtain ⟨V0, hV0⟩ : ∃ V0, V0 = w.alloc (.cells #[.int .i64 8, .int .i64 a, .int .i64 b, .int .i64 0, .int .i64 m] 23) := ⟨_, rfl⟩
  have HV0 := hideC hV0
  rw [← hV0] at HB0 BX
  clear hV0
  go_enter Tryd.func8, Tryd.ntmps8
  go_wp2_with fail
  rw [← HV0.out]
  have hkin := Q.kin_some V0
  have HU : Hid (∀ x : Q.Kin V0.heap.size V0, x.world.heap[w.heap.size]? = some (.cells #[.int .i64 8, .int .i64 a, .int .i64 b, .int .i64 0, .int .i64 m] 23 (0, 0))) := fun x => B.below BX.out x.keeps (B.isLt BX.out)
  have a0 : ∀ x : Q.Kin V0.heap.size V0, x.world.cell? ⟨w.heap.size, 0, none⟩ = some (.int .i64 8) := fun x => B.cell (HU.out x) 0 rfl
  have a1 : ∀ x : Q.Kin V0.heap.size V0, x.world.cell? ⟨w.heap.size, 1, none⟩ = some (.int .i64 a) := fun x => B.cell (HU.out x) 1 rfl
  have a2 : ∀ x : Q.Kin V0.heap.size V0, x.world.cell? ⟨w.heap.size, 2, none⟩ = some (.int .i64 b) := fun x => B.cell (HU.out x) 2 rfl
  have a3 : ∀ x : Q.Kin V0.heap.size V0, x.world.cell? ⟨w.heap.size, 3, none⟩ = some (.int .i64 0) := fun x => B.cell (HU.out x) 3 rfl
  have a4 : ∀ x : Q.Kin V0.heap.size V0, x.world.cell? ⟨w.heap.size, 4, none⟩ = some (.int .i64 m) := fun x => B.cell (HU.out x) 4 rfl
  have HBD2 : Hid (∀ V, Below V0.heap.size V0 V → Calls Tryd.prog 23 #[.agg #[.int .i64 8, .int .i64 a, .int .i64 b, .int .i64 0, .int .i64 m]] V fun e w' => e = .returned (.bool false) ∧ Below V.heap.size V w') := fun V _ => HBD.out V
  have HPL2 : Hid (∀ V, Below V0.heap.size V0 V → Calls Tryd.prog 24 #[.agg #[.int .i64 8, .int .i64 a, .int .i64 b, .int .i64 0, .int .i64 m]] V fun e w' => e = .returned (.agg #[.int .i64 8, .int .i64 a, .int .i64 b, .int .i64 0, .int .i64 m]) ∧ Below V.heap.size V w') := fun V _ => HPL.out V
  refine Q.region_kin (by kernel_rfl) (by kernel_rfl) ?_
  repeat (first | go_big_quiet_step ((first | (go_at_call 23; with_reducible exact calls_belowT HBD2.out _) | (go_at_call 24; with_reducible exact calls_belowT HPL2.out _))) | quiet_step ((first | (go_at_call 23; with_reducible exact calls_belowT HBD2.out _) | (go_at_call 24; with_reducible exact calls_belowT HPL2.out _))))
  refine wpQuiet_nil ?_
  intro _ hw'
  obtain ⟨x, hw''⟩ := hw'
  subst hw''
  have HKX := hideC (add_below HB0.out x.keeps)
  have HB5 := hideC (HU.out x)
  clear a0 a1 a2 a3 a4 hkin HBD2 HPL2 HU BX HBD HPL
  obtain ⟨w1, hw1⟩ : ∃ w1, w1 = x.world := ⟨_, rfl⟩
  rw [← hw1] at HKX HB5 ⊢
  clear hw1 x
  have c0 : w1.cell? ⟨w.heap.size, 0, none⟩ = some (.int .i64 8) := B.cell HB5.out 0 rfl
  have c1 : w1.cell? ⟨w.heap.size, 1, none⟩ = some (.int .i64 a) := B.cell HB5.out 1 rfl
  have c2 : w1.cell? ⟨w.heap.size, 2, none⟩ = some (.int .i64 b) := B.cell HB5.out 2 rfl
  have c3 : w1.cell? ⟨w.heap.size, 3, none⟩ = some (.int .i64 0) := B.cell HB5.out 3 rfl
  have c4 : w1.cell? ⟨w.heap.size, 4, none⟩ = some (.int .i64 m) := B.cell HB5.out 4 rfl
  have hlt := B.isLt HB5.out
  have HBd := hideC ((Below.refl w1.heap.size w1).drew)
  go_wp2_with fail
  go_region_law (go_simp; go_at_call 26; refine (opNames_own _).mono ?_; rintro e w2 ⟨rfl, hn2, hb2⟩; have HB2 := hideC (HBd.out.trans (hb2.mono HBd.out.size)); have n0 : w2.cell? ⟨w1.heap.size, 8, none⟩ = some (.string NM) := B.cell hn2 8 HNM.out; have HBX2 := hideC (B.below HB5.out HB2.out (B.isLt HB5.out)); have d0 : w2.cell? ⟨w.heap.size, 0, none⟩ = some (.int .i64 8) := B.cell HBX2.out 0 rfl; clear hn2 hb2; go_simp)
  all_goals
    have e0 : w2.cell? ⟨w.heap.size, 0, none⟩ = some (.int .i64 8) := B.cell HBX2.out 0 rfl
    have e1 : w2.cell? ⟨w.heap.size, 1, none⟩ = some (.int .i64 a) := B.cell HBX2.out 1 rfl
    have e2 : w2.cell? ⟨w.heap.size, 2, none⟩ = some (.int .i64 b) := B.cell HBX2.out 2 rfl
    have e3 : w2.cell? ⟨w.heap.size, 3, none⟩ = some (.int .i64 0) := B.cell HBX2.out 3 rfl
    have e4 : w2.cell? ⟨w.heap.size, 4, none⟩ = some (.int .i64 m) := B.cell HBX2.out 4 rfl
    have HBA := hideC (add_below HKX.out HB2.out)
    clear n0 d0 c0 c1 c2 c3 c4
    go_wp2_with fail
    refine (HWD.out w2).mono ?_
    rintro e w3 ⟨rfl, hb3⟩
    have HB9 := hideC (add_below HBA.out hb3)
    clear hb3
    go_wp2
    go_ret
    exact ⟨rfl, HB9.out⟩
set_option maxHeartbeats 4000000 in
theorem show_9 (a b c m : Int) (w : World) (hb : ∀ V, Calls Tryd.prog 23 #[.agg #[.int .i64 9, .int .i64 a, .int .i64 b, .int .i64 c, .int .i64 m]] V fun e w' => e = .returned (.bool false) ∧ Below V.heap.size V w') (hx : ∀ j, j < ([a, b, m, c] : List Int).length → I64 (([a, b, m, c] : List Int).getD j 0)) :
    Calls Tryd.prog 8 #[.agg #[.int .i64 9, .int .i64 a, .int .i64 b, .int .i64 c, .int .i64 m]] w fun e w' => e = .returned (.string (wordsS (opL.getD 9 (str [])) [a, b, m, c])) ∧ Below w.heap.size w w' := by
  have HBD := hideC hb
  have HX := hideC hx
  have HPL : Hid (∀ V, Calls Tryd.prog 24 #[.agg #[.int .i64 9, .int .i64 a, .int .i64 b, .int .i64 c, .int .i64 m]] V fun e w' => e = .returned (.agg #[.int .i64 9, .int .i64 a, .int .i64 b, .int .i64 c, .int .i64 m]) ∧ Below V.heap.size V w') := fun V => plain_9 a b c m V
  obtain ⟨NM, hNM⟩ : ∃ NM, NM = opL.getD 9 (str []) := ⟨_, rfl⟩
  have HNM : Hid ((strC opL)[9]? = some (.string NM)) := by rw [hNM]; rfl
  have hns : NM.size ≤ 1000 := by rw [hNM]; decide
  have HWD : Hid (∀ V, Calls Tryd.prog 25 #[.string NM, .slice (some ⟨V.heap.size, 0, none⟩) 4 4] (V.alloc (.cells #[.int .i64 a, .int .i64 b, .int .i64 m, .int .i64 c] 3)) fun e w' => e = .returned (.string (wordsS NM [a, b, m, c])) ∧ Below V.heap.size V w') := fun V => words_at NM [a, b, m, c] _ V rfl HX.out hns (by simp) 4 rfl
  obtain ⟨R, hR⟩ : ∃ R, R = wordsS NM [a, b, m, c] := ⟨_, rfl⟩
  rw [← hNM, ← hR]
  rw [← hR] at HWD
  clear hb hx hNM hR
  have HB0 := hideC ((Below.refl w.heap.size w).alloc (Nat.le_refl _) (.cells #[.int .i64 9, .int .i64 a, .int .i64 b, .int .i64 c, .int .i64 m] 23))
  have BX := hideC (B.new w #[.int .i64 9, .int .i64 a, .int .i64 b, .int .i64 c, .int .i64 m] 23)
  obtain ⟨V0, hV0⟩ : ∃ V0, V0 = w.alloc (.cells #[.int .i64 9, .int .i64 a, .int .i64 b, .int .i64 c, .int .i64 m] 23) := ⟨_, rfl⟩
  have HV0 := hideC hV0
  rw [← hV0] at HB0 BX
  clear hV0
  go_enter Tryd.func8, Tryd.ntmps8
  go_wp2_with fail
  rw [← HV0.out]
  have hkin := Q.kin_some V0
  have HU : Hid (∀ x : Q.Kin V0.heap.size V0, x.world.heap[w.heap.size]? = some (.cells #[.int .i64 9, .int .i64 a, .int .i64 b, .int .i64 c, .int .i64 m] 23 (0, 0))) := fun x => B.below BX.out x.keeps (B.isLt BX.out)
  have a0 : ∀ x : Q.Kin V0.heap.size V0, x.world.cell? ⟨w.heap.size, 0, none⟩ = some (.int .i64 9) := fun x => B.cell (HU.out x) 0 rfl
  have a1 : ∀ x : Q.Kin V0.heap.size V0, x.world.cell? ⟨w.heap.size, 1, none⟩ = some (.int .i64 a) := fun x => B.cell (HU.out x) 1 rfl
  have a2 : ∀ x : Q.Kin V0.heap.size V0, x.world.cell? ⟨w.heap.size, 2, none⟩ = some (.int .i64 b) := fun x => B.cell (HU.out x) 2 rfl
  have a3 : ∀ x : Q.Kin V0.heap.size V0, x.world.cell? ⟨w.heap.size, 3, none⟩ = some (.int .i64 c) := fun x => B.cell (HU.out x) 3 rfl
  have a4 : ∀ x : Q.Kin V0.heap.size V0, x.world.cell? ⟨w.heap.size, 4, none⟩ = some (.int .i64 m) := fun x => B.cell (HU.out x) 4 rfl
  have HBD2 : Hid (∀ V, Below V0.heap.size V0 V → Calls Tryd.prog 23 #[.agg #[.int .i64 9, .int .i64 a, .int .i64 b, .int .i64 c, .int .i64 m]] V fun e w' => e = .returned (.bool false) ∧ Below V.heap.size V w') := fun V _ => HBD.out V
  have HPL2 : Hid (∀ V, Below V0.heap.size V0 V → Calls Tryd.prog 24 #[.agg #[.int .i64 9, .int .i64 a, .int .i64 b, .int .i64 c, .int .i64 m]] V fun e w' => e = .returned (.agg #[.int .i64 9, .int .i64 a, .int .i64 b, .int .i64 c, .int .i64 m]) ∧ Below V.heap.size V w') := fun V _ => HPL.out V
  refine Q.region_kin (by kernel_rfl) (by kernel_rfl) ?_
  repeat (first | go_big_quiet_step ((first | (go_at_call 23; with_reducible exact calls_belowT HBD2.out _) | (go_at_call 24; with_reducible exact calls_belowT HPL2.out _))) | quiet_step ((first | (go_at_call 23; with_reducible exact calls_belowT HBD2.out _) | (go_at_call 24; with_reducible exact calls_belowT HPL2.out _))))
  refine wpQuiet_nil ?_
  intro _ hw'
  obtain ⟨x, hw''⟩ := hw'
  subst hw''
  have HKX := hideC (add_below HB0.out x.keeps)
  have HB5 := hideC (HU.out x)
  clear a0 a1 a2 a3 a4 hkin HBD2 HPL2 HU BX HBD HPL
  obtain ⟨w1, hw1⟩ : ∃ w1, w1 = x.world := ⟨_, rfl⟩
  rw [← hw1] at HKX HB5 ⊢
  clear hw1 x
  have c0 : w1.cell? ⟨w.heap.size, 0, none⟩ = some (.int .i64 9) := B.cell HB5.out 0 rfl
  have c1 : w1.cell? ⟨w.heap.size, 1, none⟩ = some (.int .i64 a) := B.cell HB5.out 1 rfl
  have c2 : w1.cell? ⟨w.heap.size, 2, none⟩ = some (.int .i64 b) := B.cell HB5.out 2 rfl
  have c3 : w1.cell? ⟨w.heap.size, 3, none⟩ = some (.int .i64 c) := B.cell HB5.out 3 rfl
  have c4 : w1.cell? ⟨w.heap.size, 4, none⟩ = some (.int .i64 m) := B.cell HB5.out 4 rfl
  have hlt := B.isLt HB5.out
  have HBd := hideC ((Below.refl w1.heap.size w1).drew)
  go_wp2_with fail
  go_region_law (go_simp; go_at_call 26; refine (opNames_own _).mono ?_; rintro e w2 ⟨rfl, hn2, hb2⟩; have HB2 := hideC (HBd.out.trans (hb2.mono HBd.out.size)); have n0 : w2.cell? ⟨w1.heap.size, 9, none⟩ = some (.string NM) := B.cell hn2 9 HNM.out; have HBX2 := hideC (B.below HB5.out HB2.out (B.isLt HB5.out)); have d0 : w2.cell? ⟨w.heap.size, 0, none⟩ = some (.int .i64 9) := B.cell HBX2.out 0 rfl; clear hn2 hb2; go_simp)
  all_goals
    have e0 : w2.cell? ⟨w.heap.size, 0, none⟩ = some (.int .i64 9) := B.cell HBX2.out 0 rfl
    have e1 : w2.cell? ⟨w.heap.size, 1, none⟩ = some (.int .i64 a) := B.cell HBX2.out 1 rfl
    have e2 : w2.cell? ⟨w.heap.size, 2, none⟩ = some (.int .i64 b) := B.cell HBX2.out 2 rfl
    have e3 : w2.cell? ⟨w.heap.size, 3, none⟩ = some (.int .i64 c) := B.cell HBX2.out 3 rfl
    have e4 : w2.cell? ⟨w.heap.size, 4, none⟩ = some (.int .i64 m) := B.cell HBX2.out 4 rfl
    have HBA := hideC (add_below HKX.out HB2.out)
    clear n0 d0 c0 c1 c2 c3 c4
    go_wp2_with fail
    refine (HWD.out w2).mono ?_
    rintro e w3 ⟨rfl, hb3⟩
    have HB9 := hideC (add_below HBA.out hb3)
    clear hb3
    go_wp2
    go_ret
    exact ⟨rfl, HB9.out⟩
set_option maxHeartbeats 4000000 in
theorem show_10 (a b c m : Int) (w : World) (hb : ∀ V, Calls Tryd.prog 23 #[.agg #[.int .i64 10, .int .i64 a, .int .i64 b, .int .i64 c, .int .i64 m]] V fun e w' => e = .returned (.bool false) ∧ Below V.heap.size V w') (hx : ∀ j, j < ([a, b, m, c] : List Int).length → I64 (([a, b, m, c] : List Int).getD j 0)) :
    Calls Tryd.prog 8 #[.agg #[.int .i64 10, .int .i64 a, .int .i64 b, .int .i64 c, .int .i64 m]] w fun e w' => e = .returned (.string (wordsS (opL.getD 10 (str [])) [a, b, m, c])) ∧ Below w.heap.size w w' := by
  have HBD := hideC hb
  have HX := hideC hx
  have HPL : Hid (∀ V, Calls Tryd.prog 24 #[.agg #[.int .i64 10, .int .i64 a, .int .i64 b, .int .i64 c, .int .i64 m]] V fun e w' => e = .returned (.agg #[.int .i64 10, .int .i64 a, .int .i64 b, .int .i64 c, .int .i64 m]) ∧ Below V.heap.size V w') := fun V => plain_10 a b c m V
  obtain ⟨NM, hNM⟩ : ∃ NM, NM = opL.getD 10 (str []) := ⟨_, rfl⟩
  have HNM : Hid ((strC opL)[10]? = some (.string NM)) := by rw [hNM]; rfl
  have hns : NM.size ≤ 1000 := by rw [hNM]; decide
  have HWD : Hid (∀ V, Calls Tryd.prog 25 #[.string NM, .slice (some ⟨V.heap.size, 0, none⟩) 4 4] (V.alloc (.cells #[.int .i64 a, .int .i64 b, .int .i64 m, .int .i64 c] 3)) fun e w' => e = .returned (.string (wordsS NM [a, b, m, c])) ∧ Below V.heap.size V w') := fun V => words_at NM [a, b, m, c] _ V rfl HX.out hns (by simp) 4 rfl
  obtain ⟨R, hR⟩ : ∃ R, R = wordsS NM [a, b, m, c] := ⟨_, rfl⟩
  rw [← hNM, ← hR]
  rw [← hR] at HWD
  clear hb hx hNM hR
  have HB0 := hideC ((Below.refl w.heap.size w).alloc (Nat.le_refl _) (.cells #[.int .i64 10, .int .i64 a, .int .i64 b, .int .i64 c, .int .i64 m] 23))
  have BX := hideC (B.new w #[.int .i64 10, .int .i64 a, .int .i64 b, .int .i64 c, .int .i64 m] 23)
  obtain ⟨V0, hV0⟩ : ∃ V0, V0 = w.alloc (.cells #[.int .i64 10, .int .i64 a, .int .i64 b, .int .i64 c, .int .i64 m] 23) := ⟨_, rfl⟩
  have HV0 := hideC hV0
  rw [← hV0] at HB0 BX
  clear hV0
  go_enter Tryd.func8, Tryd.ntmps8
  go_wp2_with fail
  rw [← HV0.out]
  have hkin := Q.kin_some V0
  have HU : Hid (∀ x : Q.Kin V0.heap.size V0, x.world.heap[w.heap.size]? = some (.cells #[.int .i64 10, .int .i64 a, .int .i64 b, .int .i64 c, .int .i64 m] 23 (0, 0))) := fun x => B.below BX.out x.keeps (B.isLt BX.out)
  have a0 : ∀ x : Q.Kin V0.heap.size V0, x.world.cell? ⟨w.heap.size, 0, none⟩ = some (.int .i64 10) := fun x => B.cell (HU.out x) 0 rfl
  have a1 : ∀ x : Q.Kin V0.heap.size V0, x.world.cell? ⟨w.heap.size, 1, none⟩ = some (.int .i64 a) := fun x => B.cell (HU.out x) 1 rfl
  have a2 : ∀ x : Q.Kin V0.heap.size V0, x.world.cell? ⟨w.heap.size, 2, none⟩ = some (.int .i64 b) := fun x => B.cell (HU.out x) 2 rfl
  have a3 : ∀ x : Q.Kin V0.heap.size V0, x.world.cell? ⟨w.heap.size, 3, none⟩ = some (.int .i64 c) := fun x => B.cell (HU.out x) 3 rfl
  have a4 : ∀ x : Q.Kin V0.heap.size V0, x.world.cell? ⟨w.heap.size, 4, none⟩ = some (.int .i64 m) := fun x => B.cell (HU.out x) 4 rfl
  have HBD2 : Hid (∀ V, Below V0.heap.size V0 V → Calls Tryd.prog 23 #[.agg #[.int .i64 10, .int .i64 a, .int .i64 b, .int .i64 c, .int .i64 m]] V fun e w' => e = .returned (.bool false) ∧ Below V.heap.size V w') := fun V _ => HBD.out V
  have HPL2 : Hid (∀ V, Below V0.heap.size V0 V → Calls Tryd.prog 24 #[.agg #[.int .i64 10, .int .i64 a, .int .i64 b, .int .i64 c, .int .i64 m]] V fun e w' => e = .returned (.agg #[.int .i64 10, .int .i64 a, .int .i64 b, .int .i64 c, .int .i64 m]) ∧ Below V.heap.size V w') := fun V _ => HPL.out V
  refine Q.region_kin (by kernel_rfl) (by kernel_rfl) ?_
  repeat (first | go_big_quiet_step ((first | (go_at_call 23; with_reducible exact calls_belowT HBD2.out _) | (go_at_call 24; with_reducible exact calls_belowT HPL2.out _))) | quiet_step ((first | (go_at_call 23; with_reducible exact calls_belowT HBD2.out _) | (go_at_call 24; with_reducible exact calls_belowT HPL2.out _))))
  refine wpQuiet_nil ?_
  intro _ hw'
  obtain ⟨x, hw''⟩ := hw'
  subst hw''
  have HKX := hideC (add_below HB0.out x.keeps)
  have HB5 := hideC (HU.out x)
  clear a0 a1 a2 a3 a4 hkin HBD2 HPL2 HU BX HBD HPL
  obtain ⟨w1, hw1⟩ : ∃ w1, w1 = x.world := ⟨_, rfl⟩
  rw [← hw1] at HKX HB5 ⊢
  clear hw1 x
  have c0 : w1.cell? ⟨w.heap.size, 0, none⟩ = some (.int .i64 10) := B.cell HB5.out 0 rfl
  have c1 : w1.cell? ⟨w.heap.size, 1, none⟩ = some (.int .i64 a) := B.cell HB5.out 1 rfl
  have c2 : w1.cell? ⟨w.heap.size, 2, none⟩ = some (.int .i64 b) := B.cell HB5.out 2 rfl
  have c3 : w1.cell? ⟨w.heap.size, 3, none⟩ = some (.int .i64 c) := B.cell HB5.out 3 rfl
  have c4 : w1.cell? ⟨w.heap.size, 4, none⟩ = some (.int .i64 m) := B.cell HB5.out 4 rfl
  have hlt := B.isLt HB5.out
  have HBd := hideC ((Below.refl w1.heap.size w1).drew)
  go_wp2_with fail
  go_region_law (go_simp; go_at_call 26; refine (opNames_own _).mono ?_; rintro e w2 ⟨rfl, hn2, hb2⟩; have HB2 := hideC (HBd.out.trans (hb2.mono HBd.out.size)); have n0 : w2.cell? ⟨w1.heap.size, 10, none⟩ = some (.string NM) := B.cell hn2 10 HNM.out; have HBX2 := hideC (B.below HB5.out HB2.out (B.isLt HB5.out)); have d0 : w2.cell? ⟨w.heap.size, 0, none⟩ = some (.int .i64 10) := B.cell HBX2.out 0 rfl; clear hn2 hb2; go_simp)
  all_goals
    have e0 : w2.cell? ⟨w.heap.size, 0, none⟩ = some (.int .i64 10) := B.cell HBX2.out 0 rfl
    have e1 : w2.cell? ⟨w.heap.size, 1, none⟩ = some (.int .i64 a) := B.cell HBX2.out 1 rfl
    have e2 : w2.cell? ⟨w.heap.size, 2, none⟩ = some (.int .i64 b) := B.cell HBX2.out 2 rfl
    have e3 : w2.cell? ⟨w.heap.size, 3, none⟩ = some (.int .i64 c) := B.cell HBX2.out 3 rfl
    have e4 : w2.cell? ⟨w.heap.size, 4, none⟩ = some (.int .i64 m) := B.cell HBX2.out 4 rfl
    have HBA := hideC (add_below HKX.out HB2.out)
    clear n0 d0 c0 c1 c2 c3 c4
    go_wp2_with fail
    refine (HWD.out w2).mono ?_
    rintro e w3 ⟨rfl, hb3⟩
    have HB9 := hideC (add_below HBA.out hb3)
    clear hb3
    go_wp2
    go_ret
    exact ⟨rfl, HB9.out⟩
set_option maxHeartbeats 4000000 in
theorem show_11 (a m : Int) (w : World) (hb : ∀ V, Calls Tryd.prog 23 #[.agg #[.int .i64 11, .int .i64 a, .int .i64 0, .int .i64 0, .int .i64 m]] V fun e w' => e = .returned (.bool false) ∧ Below V.heap.size V w') (hx : ∀ j, j < ([a, m] : List Int).length → I64 (([a, m] : List Int).getD j 0)) :
    Calls Tryd.prog 8 #[.agg #[.int .i64 11, .int .i64 a, .int .i64 0, .int .i64 0, .int .i64 m]] w fun e w' => e = .returned (.string (wordsS (opL.getD 11 (str [])) [a, m])) ∧ Below w.heap.size w w' := by
  have HBD := hideC hb
  have HX := hideC hx
  have HPL : Hid (∀ V, Calls Tryd.prog 24 #[.agg #[.int .i64 11, .int .i64 a, .int .i64 0, .int .i64 0, .int .i64 m]] V fun e w' => e = .returned (.agg #[.int .i64 11, .int .i64 a, .int .i64 0, .int .i64 0, .int .i64 m]) ∧ Below V.heap.size V w') := fun V => plain_11 a 0 0 m V
  obtain ⟨NM, hNM⟩ : ∃ NM, NM = opL.getD 11 (str []) := ⟨_, rfl⟩
  have HNM : Hid ((strC opL)[11]? = some (.string NM)) := by rw [hNM]; rfl
  have hns : NM.size ≤ 1000 := by rw [hNM]; decide
  have HWD : Hid (∀ V, Calls Tryd.prog 25 #[.string NM, .slice (some ⟨V.heap.size, 0, none⟩) 2 2] (V.alloc (.cells #[.int .i64 a, .int .i64 m] 3)) fun e w' => e = .returned (.string (wordsS NM [a, m])) ∧ Below V.heap.size V w') := fun V => words_at NM [a, m] _ V rfl HX.out hns (by simp) 2 rfl
  obtain ⟨R, hR⟩ : ∃ R, R = wordsS NM [a, m] := ⟨_, rfl⟩
  rw [← hNM, ← hR]
  rw [← hR] at HWD
  clear hb hx hNM hR
  have HB0 := hideC ((Below.refl w.heap.size w).alloc (Nat.le_refl _) (.cells #[.int .i64 11, .int .i64 a, .int .i64 0, .int .i64 0, .int .i64 m] 23))
  have BX := hideC (B.new w #[.int .i64 11, .int .i64 a, .int .i64 0, .int .i64 0, .int .i64 m] 23)
  obtain ⟨V0, hV0⟩ : ∃ V0, V0 = w.alloc (.cells #[.int .i64 11, .int .i64 a, .int .i64 0, .int .i64 0, .int .i64 m] 23) := ⟨_, rfl⟩
  have HV0 := hideC hV0
  rw [← hV0] at HB0 BX
  clear hV0
  go_enter Tryd.func8, Tryd.ntmps8
  go_wp2_with fail
  rw [← HV0.out]
  have hkin := Q.kin_some V0
  have HU : Hid (∀ x : Q.Kin V0.heap.size V0, x.world.heap[w.heap.size]? = some (.cells #[.int .i64 11, .int .i64 a, .int .i64 0, .int .i64 0, .int .i64 m] 23 (0, 0))) := fun x => B.below BX.out x.keeps (B.isLt BX.out)
  have a0 : ∀ x : Q.Kin V0.heap.size V0, x.world.cell? ⟨w.heap.size, 0, none⟩ = some (.int .i64 11) := fun x => B.cell (HU.out x) 0 rfl
  have a1 : ∀ x : Q.Kin V0.heap.size V0, x.world.cell? ⟨w.heap.size, 1, none⟩ = some (.int .i64 a) := fun x => B.cell (HU.out x) 1 rfl
  have a2 : ∀ x : Q.Kin V0.heap.size V0, x.world.cell? ⟨w.heap.size, 2, none⟩ = some (.int .i64 0) := fun x => B.cell (HU.out x) 2 rfl
  have a3 : ∀ x : Q.Kin V0.heap.size V0, x.world.cell? ⟨w.heap.size, 3, none⟩ = some (.int .i64 0) := fun x => B.cell (HU.out x) 3 rfl
  have a4 : ∀ x : Q.Kin V0.heap.size V0, x.world.cell? ⟨w.heap.size, 4, none⟩ = some (.int .i64 m) := fun x => B.cell (HU.out x) 4 rfl
  have HBD2 : Hid (∀ V, Below V0.heap.size V0 V → Calls Tryd.prog 23 #[.agg #[.int .i64 11, .int .i64 a, .int .i64 0, .int .i64 0, .int .i64 m]] V fun e w' => e = .returned (.bool false) ∧ Below V.heap.size V w') := fun V _ => HBD.out V
  have HPL2 : Hid (∀ V, Below V0.heap.size V0 V → Calls Tryd.prog 24 #[.agg #[.int .i64 11, .int .i64 a, .int .i64 0, .int .i64 0, .int .i64 m]] V fun e w' => e = .returned (.agg #[.int .i64 11, .int .i64 a, .int .i64 0, .int .i64 0, .int .i64 m]) ∧ Below V.heap.size V w') := fun V _ => HPL.out V
  refine Q.region_kin (by kernel_rfl) (by kernel_rfl) ?_
  repeat (first | go_big_quiet_step ((first | (go_at_call 23; with_reducible exact calls_belowT HBD2.out _) | (go_at_call 24; with_reducible exact calls_belowT HPL2.out _))) | quiet_step ((first | (go_at_call 23; with_reducible exact calls_belowT HBD2.out _) | (go_at_call 24; with_reducible exact calls_belowT HPL2.out _))))
  refine wpQuiet_nil ?_
  intro _ hw'
  obtain ⟨x, hw''⟩ := hw'
  subst hw''
  have HKX := hideC (add_below HB0.out x.keeps)
  have HB5 := hideC (HU.out x)
  clear a0 a1 a2 a3 a4 hkin HBD2 HPL2 HU BX HBD HPL
  obtain ⟨w1, hw1⟩ : ∃ w1, w1 = x.world := ⟨_, rfl⟩
  rw [← hw1] at HKX HB5 ⊢
  clear hw1 x
  have c0 : w1.cell? ⟨w.heap.size, 0, none⟩ = some (.int .i64 11) := B.cell HB5.out 0 rfl
  have c1 : w1.cell? ⟨w.heap.size, 1, none⟩ = some (.int .i64 a) := B.cell HB5.out 1 rfl
  have c2 : w1.cell? ⟨w.heap.size, 2, none⟩ = some (.int .i64 0) := B.cell HB5.out 2 rfl
  have c3 : w1.cell? ⟨w.heap.size, 3, none⟩ = some (.int .i64 0) := B.cell HB5.out 3 rfl
  have c4 : w1.cell? ⟨w.heap.size, 4, none⟩ = some (.int .i64 m) := B.cell HB5.out 4 rfl
  have hlt := B.isLt HB5.out
  have HBd := hideC ((Below.refl w1.heap.size w1).drew)
  go_wp2_with fail
  go_region_law (go_simp; go_at_call 26; refine (opNames_own _).mono ?_; rintro e w2 ⟨rfl, hn2, hb2⟩; have HB2 := hideC (HBd.out.trans (hb2.mono HBd.out.size)); have n0 : w2.cell? ⟨w1.heap.size, 11, none⟩ = some (.string NM) := B.cell hn2 11 HNM.out; have HBX2 := hideC (B.below HB5.out HB2.out (B.isLt HB5.out)); have d0 : w2.cell? ⟨w.heap.size, 0, none⟩ = some (.int .i64 11) := B.cell HBX2.out 0 rfl; clear hn2 hb2; go_simp)
  all_goals
    have e0 : w2.cell? ⟨w.heap.size, 0, none⟩ = some (.int .i64 11) := B.cell HBX2.out 0 rfl
    have e1 : w2.cell? ⟨w.heap.size, 1, none⟩ = some (.int .i64 a) := B.cell HBX2.out 1 rfl
    have e2 : w2.cell? ⟨w.heap.size, 2, none⟩ = some (.int .i64 0) := B.cell HBX2.out 2 rfl
    have e3 : w2.cell? ⟨w.heap.size, 3, none⟩ = some (.int .i64 0) := B.cell HBX2.out 3 rfl
    have e4 : w2.cell? ⟨w.heap.size, 4, none⟩ = some (.int .i64 m) := B.cell HBX2.out 4 rfl
    have HBA := hideC (add_below HKX.out HB2.out)
    clear n0 d0 c0 c1 c2 c3 c4
    go_wp2_with fail
    refine (HWD.out w2).mono ?_
    rintro e w3 ⟨rfl, hb3⟩
    have HB9 := hideC (add_below HBA.out hb3)
    clear hb3
    go_wp2
    go_ret
    exact ⟨rfl, HB9.out⟩
set_option maxHeartbeats 4000000 in
theorem show_12 (m : Int) (w : World) (hb : ∀ V, Calls Tryd.prog 23 #[.agg #[.int .i64 12, .int .i64 0, .int .i64 0, .int .i64 0, .int .i64 m]] V fun e w' => e = .returned (.bool false) ∧ Below V.heap.size V w') (hx : ∀ j, j < ([m] : List Int).length → I64 (([m] : List Int).getD j 0)) :
    Calls Tryd.prog 8 #[.agg #[.int .i64 12, .int .i64 0, .int .i64 0, .int .i64 0, .int .i64 m]] w fun e w' => e = .returned (.string (wordsS (opL.getD 12 (str [])) [m])) ∧ Below w.heap.size w w' := by
  have HBD := hideC hb
  have HX := hideC hx
  have HPL : Hid (∀ V, Calls Tryd.prog 24 #[.agg #[.int .i64 12, .int .i64 0, .int .i64 0, .int .i64 0, .int .i64 m]] V fun e w' => e = .returned (.agg #[.int .i64 12, .int .i64 0, .int .i64 0, .int .i64 0, .int .i64 m]) ∧ Below V.heap.size V w') := fun V => plain_12 0 0 0 m V
  obtain ⟨NM, hNM⟩ : ∃ NM, NM = opL.getD 12 (str []) := ⟨_, rfl⟩
  have HNM : Hid ((strC opL)[12]? = some (.string NM)) := by rw [hNM]; rfl
  have hns : NM.size ≤ 1000 := by rw [hNM]; decide
  have HWD : Hid (∀ V, Calls Tryd.prog 25 #[.string NM, .slice (some ⟨V.heap.size, 0, none⟩) 1 1] (V.alloc (.cells #[.int .i64 m] 3)) fun e w' => e = .returned (.string (wordsS NM [m])) ∧ Below V.heap.size V w') := fun V => words_at NM [m] _ V rfl HX.out hns (by simp) 1 rfl
  obtain ⟨R, hR⟩ : ∃ R, R = wordsS NM [m] := ⟨_, rfl⟩
  rw [← hNM, ← hR]
  rw [← hR] at HWD
  clear hb hx hNM hR
  have HB0 := hideC ((Below.refl w.heap.size w).alloc (Nat.le_refl _) (.cells #[.int .i64 12, .int .i64 0, .int .i64 0, .int .i64 0, .int .i64 m] 23))
  have BX := hideC (B.new w #[.int .i64 12, .int .i64 0, .int .i64 0, .int .i64 0, .int .i64 m] 23)
  obtain ⟨V0, hV0⟩ : ∃ V0, V0 = w.alloc (.cells #[.int .i64 12, .int .i64 0, .int .i64 0, .int .i64 0, .int .i64 m] 23) := ⟨_, rfl⟩
  have HV0 := hideC hV0
  rw [← hV0] at HB0 BX
  clear hV0
  go_enter Tryd.func8, Tryd.ntmps8
  go_wp2_with fail
  rw [← HV0.out]
  have hkin := Q.kin_some V0
  have HU : Hid (∀ x : Q.Kin V0.heap.size V0, x.world.heap[w.heap.size]? = some (.cells #[.int .i64 12, .int .i64 0, .int .i64 0, .int .i64 0, .int .i64 m] 23 (0, 0))) := fun x => B.below BX.out x.keeps (B.isLt BX.out)
  have a0 : ∀ x : Q.Kin V0.heap.size V0, x.world.cell? ⟨w.heap.size, 0, none⟩ = some (.int .i64 12) := fun x => B.cell (HU.out x) 0 rfl
  have a1 : ∀ x : Q.Kin V0.heap.size V0, x.world.cell? ⟨w.heap.size, 1, none⟩ = some (.int .i64 0) := fun x => B.cell (HU.out x) 1 rfl
  have a2 : ∀ x : Q.Kin V0.heap.size V0, x.world.cell? ⟨w.heap.size, 2, none⟩ = some (.int .i64 0) := fun x => B.cell (HU.out x) 2 rfl
  have a3 : ∀ x : Q.Kin V0.heap.size V0, x.world.cell? ⟨w.heap.size, 3, none⟩ = some (.int .i64 0) := fun x => B.cell (HU.out x) 3 rfl
  have a4 : ∀ x : Q.Kin V0.heap.size V0, x.world.cell? ⟨w.heap.size, 4, none⟩ = some (.int .i64 m) := fun x => B.cell (HU.out x) 4 rfl
  have HBD2 : Hid (∀ V, Below V0.heap.size V0 V → Calls Tryd.prog 23 #[.agg #[.int .i64 12, .int .i64 0, .int .i64 0, .int .i64 0, .int .i64 m]] V fun e w' => e = .returned (.bool false) ∧ Below V.heap.size V w') := fun V _ => HBD.out V
  have HPL2 : Hid (∀ V, Below V0.heap.size V0 V → Calls Tryd.prog 24 #[.agg #[.int .i64 12, .int .i64 0, .int .i64 0, .int .i64 0, .int .i64 m]] V fun e w' => e = .returned (.agg #[.int .i64 12, .int .i64 0, .int .i64 0, .int .i64 0, .int .i64 m]) ∧ Below V.heap.size V w') := fun V _ => HPL.out V
  refine Q.region_kin (by kernel_rfl) (by kernel_rfl) ?_
  repeat (first | go_big_quiet_step ((first | (go_at_call 23; with_reducible exact calls_belowT HBD2.out _) | (go_at_call 24; with_reducible exact calls_belowT HPL2.out _))) | quiet_step ((first | (go_at_call 23; with_reducible exact calls_belowT HBD2.out _) | (go_at_call 24; with_reducible exact calls_belowT HPL2.out _))))
  refine wpQuiet_nil ?_
  intro _ hw'
  obtain ⟨x, hw''⟩ := hw'
  subst hw''
  have HKX := hideC (add_below HB0.out x.keeps)
  have HB5 := hideC (HU.out x)
  clear a0 a1 a2 a3 a4 hkin HBD2 HPL2 HU BX HBD HPL
  obtain ⟨w1, hw1⟩ : ∃ w1, w1 = x.world := ⟨_, rfl⟩
  rw [← hw1] at HKX HB5 ⊢
  clear hw1 x
  have c0 : w1.cell? ⟨w.heap.size, 0, none⟩ = some (.int .i64 12) := B.cell HB5.out 0 rfl
  have c1 : w1.cell? ⟨w.heap.size, 1, none⟩ = some (.int .i64 0) := B.cell HB5.out 1 rfl
  have c2 : w1.cell? ⟨w.heap.size, 2, none⟩ = some (.int .i64 0) := B.cell HB5.out 2 rfl
  have c3 : w1.cell? ⟨w.heap.size, 3, none⟩ = some (.int .i64 0) := B.cell HB5.out 3 rfl
  have c4 : w1.cell? ⟨w.heap.size, 4, none⟩ = some (.int .i64 m) := B.cell HB5.out 4 rfl
  have hlt := B.isLt HB5.out
  have HBd := hideC ((Below.refl w1.heap.size w1).drew)
  go_wp2_with fail
  go_region_law (go_simp; go_at_call 26; refine (opNames_own _).mono ?_; rintro e w2 ⟨rfl, hn2, hb2⟩; have HB2 := hideC (HBd.out.trans (hb2.mono HBd.out.size)); have n0 : w2.cell? ⟨w1.heap.size, 12, none⟩ = some (.string NM) := B.cell hn2 12 HNM.out; have HBX2 := hideC (B.below HB5.out HB2.out (B.isLt HB5.out)); have d0 : w2.cell? ⟨w.heap.size, 0, none⟩ = some (.int .i64 12) := B.cell HBX2.out 0 rfl; clear hn2 hb2; go_simp)
  all_goals
    have e0 : w2.cell? ⟨w.heap.size, 0, none⟩ = some (.int .i64 12) := B.cell HBX2.out 0 rfl
    have e1 : w2.cell? ⟨w.heap.size, 1, none⟩ = some (.int .i64 0) := B.cell HBX2.out 1 rfl
    have e2 : w2.cell? ⟨w.heap.size, 2, none⟩ = some (.int .i64 0) := B.cell HBX2.out 2 rfl
    have e3 : w2.cell? ⟨w.heap.size, 3, none⟩ = some (.int .i64 0) := B.cell HBX2.out 3 rfl
    have e4 : w2.cell? ⟨w.heap.size, 4, none⟩ = some (.int .i64 m) := B.cell HBX2.out 4 rfl
    have HBA := hideC (add_below HKX.out HB2.out)
    clear n0 d0 c0 c1 c2 c3 c4
    go_wp2_with fail
    refine (HWD.out w2).mono ?_
    rintro e w3 ⟨rfl, hb3⟩
    have HB9 := hideC (add_below HBA.out hb3)
    clear hb3
    go_wp2
    go_ret
    exact ⟨rfl, HB9.out⟩
set_option maxHeartbeats 4000000 in
theorem show_13 (a b m : Int) (w : World) (hb : ∀ V, Calls Tryd.prog 23 #[.agg #[.int .i64 13, .int .i64 a, .int .i64 b, .int .i64 0, .int .i64 m]] V fun e w' => e = .returned (.bool false) ∧ Below V.heap.size V w') (hx : ∀ j, j < ([a, b, m] : List Int).length → I64 (([a, b, m] : List Int).getD j 0)) :
    Calls Tryd.prog 8 #[.agg #[.int .i64 13, .int .i64 a, .int .i64 b, .int .i64 0, .int .i64 m]] w fun e w' => e = .returned (.string (wordsS (opL.getD 13 (str [])) [a, b, m])) ∧ Below w.heap.size w w' := by
  have HBD := hideC hb
  have HX := hideC hx
  have HPL : Hid (∀ V, Calls Tryd.prog 24 #[.agg #[.int .i64 13, .int .i64 a, .int .i64 b, .int .i64 0, .int .i64 m]] V fun e w' => e = .returned (.agg #[.int .i64 13, .int .i64 a, .int .i64 b, .int .i64 0, .int .i64 m]) ∧ Below V.heap.size V w') := fun V => plain_13 a b 0 m V
  obtain ⟨NM, hNM⟩ : ∃ NM, NM = opL.getD 13 (str []) := ⟨_, rfl⟩
  have HNM : Hid ((strC opL)[13]? = some (.string NM)) := by rw [hNM]; rfl
  have hns : NM.size ≤ 1000 := by rw [hNM]; decide
  have HWD : Hid (∀ V, Calls Tryd.prog 25 #[.string NM, .slice (some ⟨V.heap.size, 0, none⟩) 3 3] (V.alloc (.cells #[.int .i64 a, .int .i64 b, .int .i64 m] 3)) fun e w' => e = .returned (.string (wordsS NM [a, b, m])) ∧ Below V.heap.size V w') := fun V => words_at NM [a, b, m] _ V rfl HX.out hns (by simp) 3 rfl
  obtain ⟨R, hR⟩ : ∃ R, R = wordsS NM [a, b, m] := ⟨_, rfl⟩
  rw [← hNM, ← hR]
  rw [← hR] at HWD
  clear hb hx hNM hR
  have HB0 := hideC ((Below.refl w.heap.size w).alloc (Nat.le_refl _) (.cells #[.int .i64 13, .int .i64 a, .int .i64 b, .int .i64 0, .int .i64 m] 23))
  have BX := hideC (B.new w #[.int .i64 13, .int .i64 a, .int .i64 b, .int .i64 0, .int .i64 m] 23)
  obtain ⟨V0, hV0⟩ : ∃ V0, V0 = w.alloc (.cells #[.int .i64 13, .int .i64 a, .int .i64 b, .int .i64 0, .int .i64 m] 23) := ⟨_, rfl⟩
  have HV0 := hideC hV0
  rw [← hV0] at HB0 BX
  clear hV0
  go_enter Tryd.func8, Tryd.ntmps8
  go_wp2_with fail
  rw [← HV0.out]
  have hkin := Q.kin_some V0
  have HU : Hid (∀ x : Q.Kin V0.heap.size V0, x.world.heap[w.heap.size]? = some (.cells #[.int .i64 13, .int .i64 a, .int .i64 b, .int .i64 0, .int .i64 m] 23 (0, 0))) := fun x => B.below BX.out x.keeps (B.isLt BX.out)
  have a0 : ∀ x : Q.Kin V0.heap.size V0, x.world.cell? ⟨w.heap.size, 0, none⟩ = some (.int .i64 13) := fun x => B.cell (HU.out x) 0 rfl
  have a1 : ∀ x : Q.Kin V0.heap.size V0, x.world.cell? ⟨w.heap.size, 1, none⟩ = some (.int .i64 a) := fun x => B.cell (HU.out x) 1 rfl
  have a2 : ∀ x : Q.Kin V0.heap.size V0, x.world.cell? ⟨w.heap.size, 2, none⟩ = some (.int .i64 b) := fun x => B.cell (HU.out x) 2 rfl
  have a3 : ∀ x : Q.Kin V0.heap.size V0, x.world.cell? ⟨w.heap.size, 3, none⟩ = some (.int .i64 0) := fun x => B.cell (HU.out x) 3 rfl
  have a4 : ∀ x : Q.Kin V0.heap.size V0, x.world.cell? ⟨w.heap.size, 4, none⟩ = some (.int .i64 m) := fun x => B.cell (HU.out x) 4 rfl
  have HBD2 : Hid (∀ V, Below V0.heap.size V0 V → Calls Tryd.prog 23 #[.agg #[.int .i64 13, .int .i64 a, .int .i64 b, .int .i64 0, .int .i64 m]] V fun e w' => e = .returned (.bool false) ∧ Below V.heap.size V w') := fun V _ => HBD.out V
  have HPL2 : Hid (∀ V, Below V0.heap.size V0 V → Calls Tryd.prog 24 #[.agg #[.int .i64 13, .int .i64 a, .int .i64 b, .int .i64 0, .int .i64 m]] V fun e w' => e = .returned (.agg #[.int .i64 13, .int .i64 a, .int .i64 b, .int .i64 0, .int .i64 m]) ∧ Below V.heap.size V w') := fun V _ => HPL.out V
  refine Q.region_kin (by kernel_rfl) (by kernel_rfl) ?_
  repeat (first | go_big_quiet_step ((first | (go_at_call 23; with_reducible exact calls_belowT HBD2.out _) | (go_at_call 24; with_reducible exact calls_belowT HPL2.out _))) | quiet_step ((first | (go_at_call 23; with_reducible exact calls_belowT HBD2.out _) | (go_at_call 24; with_reducible exact calls_belowT HPL2.out _))))
  refine wpQuiet_nil ?_
  intro _ hw'
  obtain ⟨x, hw''⟩ := hw'
  subst hw''
  have HKX := hideC (add_below HB0.out x.keeps)
  have HB5 := hideC (HU.out x)
  clear a0 a1 a2 a3 a4 hkin HBD2 HPL2 HU BX HBD HPL
  obtain ⟨w1, hw1⟩ : ∃ w1, w1 = x.world := ⟨_, rfl⟩
  rw [← hw1] at HKX HB5 ⊢
  clear hw1 x
  have c0 : w1.cell? ⟨w.heap.size, 0, none⟩ = some (.int .i64 13) := B.cell HB5.out 0 rfl
  have c1 : w1.cell? ⟨w.heap.size, 1, none⟩ = some (.int .i64 a) := B.cell HB5.out 1 rfl
  have c2 : w1.cell? ⟨w.heap.size, 2, none⟩ = some (.int .i64 b) := B.cell HB5.out 2 rfl
  have c3 : w1.cell? ⟨w.heap.size, 3, none⟩ = some (.int .i64 0) := B.cell HB5.out 3 rfl
  have c4 : w1.cell? ⟨w.heap.size, 4, none⟩ = some (.int .i64 m) := B.cell HB5.out 4 rfl
  have hlt := B.isLt HB5.out
  have HBd := hideC ((Below.refl w1.heap.size w1).drew)
  go_wp2_with fail
  go_region_law (go_simp; go_at_call 26; refine (opNames_own _).mono ?_; rintro e w2 ⟨rfl, hn2, hb2⟩; have HB2 := hideC (HBd.out.trans (hb2.mono HBd.out.size)); have n0 : w2.cell? ⟨w1.heap.size, 13, none⟩ = some (.string NM) := B.cell hn2 13 HNM.out; have HBX2 := hideC (B.below HB5.out HB2.out (B.isLt HB5.out)); have d0 : w2.cell? ⟨w.heap.size, 0, none⟩ = some (.int .i64 13) := B.cell HBX2.out 0 rfl; clear hn2 hb2; go_simp)
  all_goals
    have e0 : w2.cell? ⟨w.heap.size, 0, none⟩ = some (.int .i64 13) := B.cell HBX2.out 0 rfl
    have e1 : w2.cell? ⟨w.heap.size, 1, none⟩ = some (.int .i64 a) := B.cell HBX2.out 1 rfl
    have e2 : w2.cell? ⟨w.heap.size, 2, none⟩ = some (.int .i64 b) := B.cell HBX2.out 2 rfl
    have e3 : w2.cell? ⟨w.heap.size, 3, none⟩ = some (.int .i64 0) := B.cell HBX2.out 3 rfl
    have e4 : w2.cell? ⟨w.heap.size, 4, none⟩ = some (.int .i64 m) := B.cell HBX2.out 4 rfl
    have HBA := hideC (add_below HKX.out HB2.out)
    clear n0 d0 c0 c1 c2 c3 c4
    go_wp2_with fail
    refine (HWD.out w2).mono ?_
    rintro e w3 ⟨rfl, hb3⟩
    have HB9 := hideC (add_below HBA.out hb3)
    clear hb3
    go_wp2
    go_ret
    exact ⟨rfl, HB9.out⟩
set_option maxHeartbeats 4000000 in
theorem show_14 (a b m : Int) (w : World) (hb : ∀ V, Calls Tryd.prog 23 #[.agg #[.int .i64 14, .int .i64 a, .int .i64 b, .int .i64 0, .int .i64 m]] V fun e w' => e = .returned (.bool false) ∧ Below V.heap.size V w') (hx : ∀ j, j < ([a, b, m] : List Int).length → I64 (([a, b, m] : List Int).getD j 0)) :
    Calls Tryd.prog 8 #[.agg #[.int .i64 14, .int .i64 a, .int .i64 b, .int .i64 0, .int .i64 m]] w fun e w' => e = .returned (.string (wordsS (opL.getD 14 (str [])) [a, b, m])) ∧ Below w.heap.size w w' := by
  have HBD := hideC hb
  have HX := hideC hx
  have HPL : Hid (∀ V, Calls Tryd.prog 24 #[.agg #[.int .i64 14, .int .i64 a, .int .i64 b, .int .i64 0, .int .i64 m]] V fun e w' => e = .returned (.agg #[.int .i64 14, .int .i64 a, .int .i64 b, .int .i64 0, .int .i64 m]) ∧ Below V.heap.size V w') := fun V => plain_14 a b 0 m V
  obtain ⟨NM, hNM⟩ : ∃ NM, NM = opL.getD 14 (str []) := ⟨_, rfl⟩
  have HNM : Hid ((strC opL)[14]? = some (.string NM)) := by rw [hNM]; rfl
  have hns : NM.size ≤ 1000 := by rw [hNM]; decide
  have HWD : Hid (∀ V, Calls Tryd.prog 25 #[.string NM, .slice (some ⟨V.heap.size, 0, none⟩) 3 3] (V.alloc (.cells #[.int .i64 a, .int .i64 b, .int .i64 m] 3)) fun e w' => e = .returned (.string (wordsS NM [a, b, m])) ∧ Below V.heap.size V w') := fun V => words_at NM [a, b, m] _ V rfl HX.out hns (by simp) 3 rfl
  obtain ⟨R, hR⟩ : ∃ R, R = wordsS NM [a, b, m] := ⟨_, rfl⟩
  rw [← hNM, ← hR]
  rw [← hR] at HWD
  clear hb hx hNM hR
  have HB0 := hideC ((Below.refl w.heap.size w).alloc (Nat.le_refl _) (.cells #[.int .i64 14, .int .i64 a, .int .i64 b, .int .i64 0, .int .i64 m] 23))
  have BX := hideC (B.new w #[.int .i64 14, .int .i64 a, .int .i64 b, .int .i64 0, .int .i64 m] 23)
  obtain ⟨V0, hV0⟩ : ∃ V0, V0 = w.alloc (.cells #[.int .i64 14, .int .i64 a, .int .i64 b, .int .i64 0, .int .i64 m] 23) := ⟨_, rfl⟩
  have HV0 := hideC hV0
  rw [← hV0] at HB0 BX
  clear hV0
  go_enter Tryd.func8, Tryd.ntmps8
  go_wp2_with fail
  rw [← HV0.out]
  have hkin := Q.kin_some V0
  have HU : Hid (∀ x : Q.Kin V0.heap.size V0, x.world.heap[w.heap.size]? = some (.cells #[.int .i64 14, .int .i64 a, .int .i64 b, .int .i64 0, .int .i64 m] 23 (0, 0))) := fun x => B.below BX.out x.keeps (B.isLt BX.out)
  have a0 : ∀ x : Q.Kin V0.heap.size V0, x.world.cell? ⟨w.heap.size, 0, none⟩ = some (.int .i64 14) := fun x => B.cell (HU.out x) 0 rfl
  have a1 : ∀ x : Q.Kin V0.heap.size V0, x.world.cell? ⟨w.heap.size, 1, none⟩ = some (.int .i64 a) := fun x => B.cell (HU.out x) 1 rfl
  have a2 : ∀ x : Q.Kin V0.heap.size V0, x.world.cell? ⟨w.heap.size, 2, none⟩ = some (.int .i64 b) := fun x => B.cell (HU.out x) 2 rfl
  have a3 : ∀ x : Q.Kin V0.heap.size V0, x.world.cell? ⟨w.heap.size, 3, none⟩ = some (.int .i64 0) := fun x => B.cell (HU.out x) 3 rfl
  have a4 : ∀ x : Q.Kin V0.heap.size V0, x.world.cell? ⟨w.heap.size, 4, none⟩ = some (.int .i64 m) := fun x => B.cell (HU.out x) 4 rfl
  have HBD2 : Hid (∀ V, Below V0.heap.size V0 V → Calls Tryd.prog 23 #[.agg #[.int .i64 14, .int .i64 a, .int .i64 b, .int .i64 0, .int .i64 m]] V fun e w' => e = .returned (.bool false) ∧ Below V.heap.size V w') := fun V _ => HBD.out V
  have HPL2 : Hid (∀ V, Below V0.heap.size V0 V → Calls Tryd.prog 24 #[.agg #[.int .i64 14, .int .i64 a, .int .i64 b, .int .i64 0, .int .i64 m]] V fun e w' => e = .returned (.agg #[.int .i64 14, .int .i64 a, .int .i64 b, .int .i64 0, .int .i64 m]) ∧ Below V.heap.size V w') := fun V _ => HPL.out V
  refine Q.region_kin (by kernel_rfl) (by kernel_rfl) ?_
  repeat (first | go_big_quiet_step ((first | (go_at_call 23; with_reducible exact calls_belowT HBD2.out _) | (go_at_call 24; with_reducible exact calls_belowT HPL2.out _))) | quiet_step ((first | (go_at_call 23; with_reducible exact calls_belowT HBD2.out _) | (go_at_call 24; with_reducible exact calls_belowT HPL2.out _))))
  refine wpQuiet_nil ?_
  intro _ hw'
  obtain ⟨x, hw''⟩ := hw'
  subst hw''
  have HKX := hideC (add_below HB0.out x.keeps)
  have HB5 := hideC (HU.out x)
  clear a0 a1 a2 a3 a4 hkin HBD2 HPL2 HU BX HBD HPL
  obtain ⟨w1, hw1⟩ : ∃ w1, w1 = x.world := ⟨_, rfl⟩
  rw [← hw1] at HKX HB5 ⊢
  clear hw1 x
  have c0 : w1.cell? ⟨w.heap.size, 0, none⟩ = some (.int .i64 14) := B.cell HB5.out 0 rfl
  have c1 : w1.cell? ⟨w.heap.size, 1, none⟩ = some (.int .i64 a) := B.cell HB5.out 1 rfl
  have c2 : w1.cell? ⟨w.heap.size, 2, none⟩ = some (.int .i64 b) := B.cell HB5.out 2 rfl
  have c3 : w1.cell? ⟨w.heap.size, 3, none⟩ = some (.int .i64 0) := B.cell HB5.out 3 rfl
  have c4 : w1.cell? ⟨w.heap.size, 4, none⟩ = some (.int .i64 m) := B.cell HB5.out 4 rfl
  have hlt := B.isLt HB5.out
  have HBd := hideC ((Below.refl w1.heap.size w1).drew)
  go_wp2_with fail
  go_region_law (go_simp; go_at_call 26; refine (opNames_own _).mono ?_; rintro e w2 ⟨rfl, hn2, hb2⟩; have HB2 := hideC (HBd.out.trans (hb2.mono HBd.out.size)); have n0 : w2.cell? ⟨w1.heap.size, 14, none⟩ = some (.string NM) := B.cell hn2 14 HNM.out; have HBX2 := hideC (B.below HB5.out HB2.out (B.isLt HB5.out)); have d0 : w2.cell? ⟨w.heap.size, 0, none⟩ = some (.int .i64 14) := B.cell HBX2.out 0 rfl; clear hn2 hb2; go_simp)
  all_goals
    have e0 : w2.cell? ⟨w.heap.size, 0, none⟩ = some (.int .i64 14) := B.cell HBX2.out 0 rfl
    have e1 : w2.cell? ⟨w.heap.size, 1, none⟩ = some (.int .i64 a) := B.cell HBX2.out 1 rfl
    have e2 : w2.cell? ⟨w.heap.size, 2, none⟩ = some (.int .i64 b) := B.cell HBX2.out 2 rfl
    have e3 : w2.cell? ⟨w.heap.size, 3, none⟩ = some (.int .i64 0) := B.cell HBX2.out 3 rfl
    have e4 : w2.cell? ⟨w.heap.size, 4, none⟩ = some (.int .i64 m) := B.cell HBX2.out 4 rfl
    have HBA := hideC (add_below HKX.out HB2.out)
    clear n0 d0 c0 c1 c2 c3 c4
    go_wp2_with fail
    refine (HWD.out w2).mono ?_
    rintro e w3 ⟨rfl, hb3⟩
    have HB9 := hideC (add_below HBA.out hb3)
    clear hb3
    go_wp2
    go_ret
    exact ⟨rfl, HB9.out⟩
set_option maxHeartbeats 4000000 in
theorem show_15 (a : Int) (w : World) (hb : ∀ V, Calls Tryd.prog 23 #[.agg #[.int .i64 15, .int .i64 a, .int .i64 0, .int .i64 0, .int .i64 0]] V fun e w' => e = .returned (.bool false) ∧ Below V.heap.size V w') (hx : ∀ j, j < ([a] : List Int).length → I64 (([a] : List Int).getD j 0)) :
    Calls Tryd.prog 8 #[.agg #[.int .i64 15, .int .i64 a, .int .i64 0, .int .i64 0, .int .i64 0]] w fun e w' => e = .returned (.string (wordsS (opL.getD 15 (str [])) [a])) ∧ Below w.heap.size w w' := by
  have HBD := hideC hb
  have HX := hideC hx
  have HPL : Hid (∀ V, Calls Tryd.prog 24 #[.agg #[.int .i64 15, .int .i64 a, .int .i64 0, .int .i64 0, .int .i64 0]] V fun e w' => e = .returned (.agg #[.int .i64 15, .int .i64 a, .int .i64 0, .int .i64 0, .int .i64 0]) ∧ Below V.heap.size V w') := fun V => plain_15 a 0 0 0 V
  obtain ⟨NM, hNM⟩ : ∃ NM, NM = opL.getD 15 (str []) := ⟨_, rfl⟩
  have HNM : Hid ((strC opL)[15]? = some (.string NM)) := by rw [hNM]; rfl
  have hns : NM.size ≤ 1000 := by rw [hNM]; decide
  have HWD : Hid (∀ V, Calls Tryd.prog 25 #[.string NM, .slice (some ⟨V.heap.size, 0, none⟩) 1 1] (V.alloc (.cells #[.int .i64 a] 3)) fun e w' => e = .returned (.string (wordsS NM [a])) ∧ Below V.heap.size V w') := fun V => words_at NM [a] _ V rfl HX.out hns (by simp) 1 rfl
  obtain ⟨R, hR⟩ : ∃ R, R = wordsS NM [a] := ⟨_, rfl⟩
  rw [← hNM, ← hR]
  rw [← hR] at HWD
  clear hb hx hNM hR
  have HB0 := hideC ((Below.refl w.heap.size w).alloc (Nat.le_refl _) (.cells #[.int .i64 15, .int .i64 a, .int .i64 0, .int .i64 0, .int .i64 0] 23))
  have BX := hideC (B.new w #[.int .i64 15, .int .i64 a, .int .i64 0, .int .i64 0, .int .i64 0] 23)
  obtain ⟨V0, hV0⟩ : ∃ V0, V0 = w.alloc (.cells #[.int .i64 15, .int .i64 a, .int .i64 0, .int .i64 0, .int .i64 0] 23) := ⟨_, rfl⟩
  have HV0 := hideC hV0
  rw [← hV0] at HB0 BX
  clear hV0
  go_enter Tryd.func8, Tryd.ntmps8
  go_wp2_with fail
  rw [← HV0.out]
  have hkin := Q.kin_some V0
  have HU : Hid (∀ x : Q.Kin V0.heap.size V0, x.world.heap[w.heap.size]? = some (.cells #[.int .i64 15, .int .i64 a, .int .i64 0, .int .i64 0, .int .i64 0] 23 (0, 0))) := fun x => B.below BX.out x.keeps (B.isLt BX.out)
  have a0 : ∀ x : Q.Kin V0.heap.size V0, x.world.cell? ⟨w.heap.size, 0, none⟩ = some (.int .i64 15) := fun x => B.cell (HU.out x) 0 rfl
  have a1 : ∀ x : Q.Kin V0.heap.size V0, x.world.cell? ⟨w.heap.size, 1, none⟩ = some (.int .i64 a) := fun x => B.cell (HU.out x) 1 rfl
  have a2 : ∀ x : Q.Kin V0.heap.size V0, x.world.cell? ⟨w.heap.size, 2, none⟩ = some (.int .i64 0) := fun x => B.cell (HU.out x) 2 rfl
  have a3 : ∀ x : Q.Kin V0.heap.size V0, x.world.cell? ⟨w.heap.size, 3, none⟩ = some (.int .i64 0) := fun x => B.cell (HU.out x) 3 rfl
  have a4 : ∀ x : Q.Kin V0.heap.size V0, x.world.cell? ⟨w.heap.size, 4, none⟩ = some (.int .i64 0) := fun x => B.cell (HU.out x) 4 rfl
  have HBD2 : Hid (∀ V, Below V0.heap.size V0 V → Calls Tryd.prog 23 #[.agg #[.int .i64 15, .int .i64 a, .int .i64 0, .int .i64 0, .int .i64 0]] V fun e w' => e = .returned (.bool false) ∧ Below V.heap.size V w') := fun V _ => HBD.out V
  have HPL2 : Hid (∀ V, Below V0.heap.size V0 V → Calls Tryd.prog 24 #[.agg #[.int .i64 15, .int .i64 a, .int .i64 0, .int .i64 0, .int .i64 0]] V fun e w' => e = .returned (.agg #[.int .i64 15, .int .i64 a, .int .i64 0, .int .i64 0, .int .i64 0]) ∧ Below V.heap.size V w') := fun V _ => HPL.out V
  refine Q.region_kin (by kernel_rfl) (by kernel_rfl) ?_
  repeat (first | go_big_quiet_step ((first | (go_at_call 23; with_reducible exact calls_belowT HBD2.out _) | (go_at_call 24; with_reducible exact calls_belowT HPL2.out _))) | quiet_step ((first | (go_at_call 23; with_reducible exact calls_belowT HBD2.out _) | (go_at_call 24; with_reducible exact calls_belowT HPL2.out _))))
  refine wpQuiet_nil ?_
  intro _ hw'
  obtain ⟨x, hw''⟩ := hw'
  subst hw''
  have HKX := hideC (add_below HB0.out x.keeps)
  have HB5 := hideC (HU.out x)
  clear a0 a1 a2 a3 a4 hkin HBD2 HPL2 HU BX HBD HPL
  obtain ⟨w1, hw1⟩ : ∃ w1, w1 = x.world := ⟨_, rfl⟩
  rw [← hw1] at HKX HB5 ⊢
  clear hw1 x
  have c0 : w1.cell? ⟨w.heap.size, 0, none⟩ = some (.int .i64 15) := B.cell HB5.out 0 rfl
  have c1 : w1.cell? ⟨w.heap.size, 1, none⟩ = some (.int .i64 a) := B.cell HB5.out 1 rfl
  have c2 : w1.cell? ⟨w.heap.size, 2, none⟩ = some (.int .i64 0) := B.cell HB5.out 2 rfl
  have c3 : w1.cell? ⟨w.heap.size, 3, none⟩ = some (.int .i64 0) := B.cell HB5.out 3 rfl
  have c4 : w1.cell? ⟨w.heap.size, 4, none⟩ = some (.int .i64 0) := B.cell HB5.out 4 rfl
  have hlt := B.isLt HB5.out
  have HBd := hideC ((Below.refl w1.heap.size w1).drew)
  go_wp2_with fail
  go_region_law (go_simp; go_at_call 26; refine (opNames_own _).mono ?_; rintro e w2 ⟨rfl, hn2, hb2⟩; have HB2 := hideC (HBd.out.trans (hb2.mono HBd.out.size)); have n0 : w2.cell? ⟨w1.heap.size, 15, none⟩ = some (.string NM) := B.cell hn2 15 HNM.out; have HBX2 := hideC (B.below HB5.out HB2.out (B.isLt HB5.out)); have d0 : w2.cell? ⟨w.heap.size, 0, none⟩ = some (.int .i64 15) := B.cell HBX2.out 0 rfl; clear hn2 hb2; go_simp)
  all_goals
    have e0 : w2.cell? ⟨w.heap.size, 0, none⟩ = some (.int .i64 15) := B.cell HBX2.out 0 rfl
    have e1 : w2.cell? ⟨w.heap.size, 1, none⟩ = some (.int .i64 a) := B.cell HBX2.out 1 rfl
    have e2 : w2.cell? ⟨w.heap.size, 2, none⟩ = some (.int .i64 0) := B.cell HBX2.out 2 rfl
    have e3 : w2.cell? ⟨w.heap.size, 3, none⟩ = some (.int .i64 0) := B.cell HBX2.out 3 rfl
    have e4 : w2.cell? ⟨w.heap.size, 4, none⟩ = some (.int .i64 0) := B.cell HBX2.out 4 rfl
    have HBA := hideC (add_below HKX.out HB2.out)
    clear n0 d0 c0 c1 c2 c3 c4
    go_wp2_with fail
    refine (HWD.out w2).mono ?_
    rintro e w3 ⟨rfl, hb3⟩
    have HB9 := hideC (add_below HBA.out hb3)
    clear hb3
    go_wp2
    go_ret
    exact ⟨rfl, HB9.out⟩
end Go.Proofs.YtklobjfhjlkgfaaDoor.TW
