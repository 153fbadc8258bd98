import Derived.Test.YtklobjfhjlkgfaaDoorGB14
/- TextBack: its walk. -/
namespace Go.Proofs.YtklobjfhjlkgfaaDoor.TW
open Go.RowKit
set_option linter.unusedVariables false
set_option linter.unusedSimpArgs false
set_option maxRecDepth 100000
set_option linter.unusedSimpArgs false

theorem listN_size (b : ByteArray) : (listN b).1.size < 4294967281 := by
  unfold listN
  split
  · show 0 < _; omega
  · split
    · show 0 < _; omega
    · have := list_size b (b.size / 8) (by omega)
      show (listTo b (b.size / 8)).size < _
      omega
theorem asmN_size (p : ByteArray) : (asmN p).1.size < 4294967281 := by
  unfold asmN
  split
  · show 0 < _; omega
  · rename_i hc
    cases ha : asmTo (p.size + 1) p with
    | none => show 0 < _; omega
    | some l =>
      obtain ⟨h1, h2, h3⟩ := asm_lines _ _ _ ha
      have : Lib.countByte p.data.toList 10 = l.length := h2
      show (codeOf l).size < _
      rw [code_size]
      omega
set_option maxHeartbeats 20000000 in
theorem back_any (i : PM.Ins) (s p b : ByteArray) (w : World) (tb o cap : Nat) (hl : Lay tb o cap w) (hs : s.size < 4294967281) (hp : p.size < 4294967281) (hb : b.size < 4294967281) : Calls Tryd.prog 5 #[.agg i.cells, .string s, .string p, .string b] w fun e w' => e = .returned (.bool true) ∧ Below w.heap.size w w' := by
  have HL := hideC hl
  have HBG := hideC (fun V (hV : Lay tb o cap V) => begun_any V tb o cap hV)
  have hEQ : ∀ V, (Op.equalIn 10000 23 (.agg #[.int .i64 i.op, .int .i64 i.a, .int .i64 i.b, .int .i64 i.c, .int .i64 i.m]) (.agg #[.int .i64 i.op, .int .i64 i.a, .int .i64 i.b, .int .i64 i.c, .int .i64 i.m])).run Tryd.prog V = .ok true V := fun V => by
    have h := eqIns i i V
    rw [decide_eq_true rfl] at h
    exact h
  have HSh := hideC (fun V (hV : Lay tb o cap V) => show_any i V tb o cap hV)
  have HRd := hideC (fun V (hV : Lay tb o cap V) => read_any s V tb o cap hV hs)
  have HAp := hideC (fun V (hV : Lay tb o cap V) => asm_any p V tb o cap hV hp)
  have HLb := hideC (fun V (hV : Lay tb o cap V) => list_any b V tb o cap hV hb)
  have HB0 := hideC ((Below.refl w.heap.size w).alloc (Nat.le_refl _) (.cells #[.int .i64 i.op, .int .i64 i.a, .int .i64 i.b, .int .i64 i.c, .int .i64 i.m] 23))
  have X0 := hideC (B.new w #[.int .i64 i.op, .int .i64 i.a, .int .i64 i.b, .int .i64 i.c, .int .i64 i.m] 23)
  clear hl
  simp only [PM.Ins.cells]
  rw [show PM.Ins.cells i = #[.int .i64 i.op, .int .i64 i.a, .int .i64 i.b, .int .i64 i.c, .int .i64 i.m] from rfl] at HSh

  by_cases hf : i.fits
  · rw [if_pos hf, if_pos hf] at HSh
    have hss := show_size i hf
    have HRt : Hid (∀ V, Lay tb o cap V → Calls Tryd.prog 9 #[.string (showN i)] V fun e w' => e = .returned (.tuple #[.agg #[.int .i64 i.op, .int .i64 i.a, .int .i64 i.b, .int .i64 i.c, .int .i64 i.m], .int .i64 0]) ∧ Below V.heap.size V w') := fun V hV => by
      have h := read_any (showN i) V tb o cap hV (by omega)
      rw [read_show i hf] at h
      exact h
    obtain ⟨T, hT⟩ : ∃ T, T = showN i := ⟨_, rfl⟩
    rw [← hT] at HSh HRt
    clear hT hf hss
    cases hrs : readN s with
    | some y =>
      rw [hrs] at HRd
      have HRy : Hid (∀ V, Lay tb o cap V → Calls Tryd.prog 9 #[.string s] V fun e w' => e = .returned (.tuple #[.agg #[.int .i64 y.op, .int .i64 y.a, .int .i64 y.b, .int .i64 y.c, .int .i64 y.m], .int .i64 0]) ∧ Below V.heap.size V w') := HRd.out
      obtain ⟨hyf, hys⟩ := read_fits hrs
      have HSy : Hid (∀ V, Lay tb o cap V → Calls Tryd.prog 6 #[.agg #[.int .i64 y.op, .int .i64 y.a, .int .i64 y.b, .int .i64 y.c, .int .i64 y.m]] V fun e w' => e = .returned (.tuple #[.string s, .int .i64 0]) ∧ Below V.heap.size V w') := fun V hV => by
        have h := show_yes y V tb o cap hV hyf
        rw [hys] at h
        exact h
      clear hrs HRd hyf hys
      by_cases hasm : (asmN p).2 = 0
      · have hla := list_asm p hasm
        have hcs := asmN_size p
        have HLc : Hid (∀ V, Lay tb o cap V → Calls Tryd.prog 13 #[.string (asmN p).1] V fun e w' => e = .returned (.tuple #[.string p, .int .i64 0]) ∧ Below V.heap.size V w') := fun V hV => by
          have h := list_any (asmN p).1 V tb o cap hV hcs
          rw [hla] at h
          exact h
        rw [hasm] at HAp
        obtain ⟨C, hC⟩ : ∃ C, C = (asmN p).1 := ⟨_, rfl⟩
        rw [← hC] at HAp HLc
        clear hasm hla hcs hC
        by_cases hlis : (listN b).2 = 0
        · have hal := asm_list b hlis
          have hcs := listN_size b
          have HAl : Hid (∀ V, Lay tb o cap V → Calls Tryd.prog 12 #[.string (listN b).1] V fun e w' => e = .returned (.tuple #[.string b, .int .i64 0]) ∧ Below V.heap.size V w') := fun V hV => by
            have h := asm_any (listN b).1 V tb o cap hV hcs
            rw [hal] at h
            exact h
          rw [hlis] at HLb
          obtain ⟨L, hL⟩ : ∃ L, L = (listN b).1 := ⟨_, rfl⟩
          rw [← hL] at HLb HAl
          clear hlis hal hcs hL
          go_enter Tryd.func5, Tryd.ntmps5
          go_wp2_with fail
          refine (HSh.out _ (HL.out.below (HB0.out))).mono ?_
          rintro e w1 ⟨rfl, hbx⟩
          have HB_w1 := hideC (add_below (HB0.out) hbx)
          have X1 := hideC (B.below (X0.out) hbx (B.isLt (X0.out)))
          clear hbx
          go_wp2_with fail
          refine (HRt.out _ (HL.out.below (HB_w1.out))).mono ?_
          rintro e w2 ⟨rfl, hbx⟩
          have HB_w2 := hideC (add_below (HB_w1.out) hbx)
          have X2 := hideC (B.below (X1.out) hbx (B.isLt (X1.out)))
          clear hbx
          have g0 : w2.cell? ⟨w.heap.size, 0, none⟩ = some (.int .i64 i.op) := B.cell X2.out 0 rfl
          have g1 : w2.cell? ⟨w.heap.size, 1, none⟩ = some (.int .i64 i.a) := B.cell X2.out 1 rfl
          have g2 : w2.cell? ⟨w.heap.size, 2, none⟩ = some (.int .i64 i.b) := B.cell X2.out 2 rfl
          have g3 : w2.cell? ⟨w.heap.size, 3, none⟩ = some (.int .i64 i.c) := B.cell X2.out 3 rfl
          have g4 : w2.cell? ⟨w.heap.size, 4, none⟩ = some (.int .i64 i.m) := B.cell X2.out 4 rfl
          have glt := B.isLt X2.out
          go_wp2_with fail
          refine (HRy.out _ (HL.out.below (HB_w2.out.alloc HB_w2.out.size _))).mono ?_
          rintro e w3 ⟨rfl, hbx⟩
          have HB_w3 := hideC (add_below (HB_w2.out.alloc HB_w2.out.size _) hbx)
          clear hbx
          clear g0 g1 g2 g3 g4 glt
          go_wp2_with fail
          refine (HSy.out _ (HL.out.below (HB_w3.out.alloc HB_w3.out.size _))).mono ?_
          rintro e w4 ⟨rfl, hbx⟩
          have HB_w4 := hideC (add_below (HB_w3.out.alloc HB_w3.out.size _) hbx)
          clear hbx
          go_wp2_with fail
          refine (HAp.out _ (HL.out.below (HB_w4.out))).mono ?_
          rintro e w5 ⟨rfl, hbx⟩
          have HB_w5 := hideC (add_below (HB_w4.out) hbx)
          clear hbx
          go_wp2_with fail
          refine (HLc.out _ (HL.out.below (HB_w5.out))).mono ?_
          rintro e w6 ⟨rfl, hbx⟩
          have HB_w6 := hideC (add_below (HB_w5.out) hbx)
          clear hbx
          go_wp2_with fail
          refine (HLb.out _ (HL.out.below (HB_w6.out))).mono ?_
          rintro e w7 ⟨rfl, hbx⟩
          have HB_w7 := hideC (add_below (HB_w6.out) hbx)
          clear hbx
          go_wp2_with fail
          refine (HAl.out _ (HL.out.below (HB_w7.out))).mono ?_
          rintro e w8 ⟨rfl, hbx⟩
          have HB_w8 := hideC (add_below (HB_w7.out) hbx)
          clear hbx
          go_wp2_with fail
          refine (HBG.out _ (HL.out.below (HB_w8.out))).mono ?_
          rintro e w9 ⟨rfl, hbx⟩
          have HB_w9 := hideC (add_below (HB_w8.out) hbx)
          clear hbx
          go_wp2
          go_ret
          exact ⟨by first | rfl | simp, HB_w9.out⟩
        · have hq2 : ((listN b).2 == 0) = false := beq_eq_false_iff_ne.2 hlis
          obtain ⟨L, hL⟩ : ∃ L, L = (listN b).1 := ⟨_, rfl⟩
          obtain ⟨el, hel⟩ : ∃ el, el = (listN b).2 := ⟨_, rfl⟩
          rw [← hL, ← hel] at HLb
          rw [← hel] at hq2
          clear hlis hL hel
          go_enter Tryd.func5, Tryd.ntmps5
          go_wp2_with fail
          refine (HSh.out _ (HL.out.below (HB0.out))).mono ?_
          rintro e w1 ⟨rfl, hbx⟩
          have HB_w1 := hideC (add_below (HB0.out) hbx)
          have X1 := hideC (B.below (X0.out) hbx (B.isLt (X0.out)))
          clear hbx
          go_wp2_with fail
          refine (HRt.out _ (HL.out.below (HB_w1.out))).mono ?_
          rintro e w2 ⟨rfl, hbx⟩
          have HB_w2 := hideC (add_below (HB_w1.out) hbx)
          have X2 := hideC (B.below (X1.out) hbx (B.isLt (X1.out)))
          clear hbx
          have g0 : w2.cell? ⟨w.heap.size, 0, none⟩ = some (.int .i64 i.op) := B.cell X2.out 0 rfl
          have g1 : w2.cell? ⟨w.heap.size, 1, none⟩ = some (.int .i64 i.a) := B.cell X2.out 1 rfl
          have g2 : w2.cell? ⟨w.heap.size, 2, none⟩ = some (.int .i64 i.b) := B.cell X2.out 2 rfl
          have g3 : w2.cell? ⟨w.heap.size, 3, none⟩ = some (.int .i64 i.c) := B.cell X2.out 3 rfl
          have g4 : w2.cell? ⟨w.heap.size, 4, none⟩ = some (.int .i64 i.m) := B.cell X2.out 4 rfl
          have glt := B.isLt X2.out
          go_wp2_with fail
          refine (HRy.out _ (HL.out.below (HB_w2.out.alloc HB_w2.out.size _))).mono ?_
          rintro e w3 ⟨rfl, hbx⟩
          have HB_w3 := hideC (add_below (HB_w2.out.alloc HB_w2.out.size _) hbx)
          clear hbx
          clear g0 g1 g2 g3 g4 glt
          go_wp2_with fail
          refine (HSy.out _ (HL.out.below (HB_w3.out.alloc HB_w3.out.size _))).mono ?_
          rintro e w4 ⟨rfl, hbx⟩
          have HB_w4 := hideC (add_below (HB_w3.out.alloc HB_w3.out.size _) hbx)
          clear hbx
          go_wp2_with fail
          refine (HAp.out _ (HL.out.below (HB_w4.out))).mono ?_
          rintro e w5 ⟨rfl, hbx⟩
          have HB_w5 := hideC (add_below (HB_w4.out) hbx)
          clear hbx
          go_wp2_with fail
          refine (HLc.out _ (HL.out.below (HB_w5.out))).mono ?_
          rintro e w6 ⟨rfl, hbx⟩
          have HB_w6 := hideC (add_below (HB_w5.out) hbx)
          clear hbx
          go_wp2_with fail
          refine (HLb.out _ (HL.out.below (HB_w6.out))).mono ?_
          rintro e w7 ⟨rfl, hbx⟩
          have HB_w7 := hideC (add_below (HB_w6.out) hbx)
          clear hbx
          go_wp2_with fail
          refine (HBG.out _ (HL.out.below (HB_w7.out))).mono ?_
          rintro e w9 ⟨rfl, hbx⟩
          have HB_w9 := hideC (add_below (HB_w7.out) hbx)
          clear hbx
          go_wp2
          go_ret
          exact ⟨by first | rfl | simp, HB_w9.out⟩
      · have hq : ((asmN p).2 == 0) = false := beq_eq_false_iff_ne.2 hasm
        obtain ⟨C, hC⟩ : ∃ C, C = (asmN p).1 := ⟨_, rfl⟩
        obtain ⟨ec, hec⟩ : ∃ ec, ec = (asmN p).2 := ⟨_, rfl⟩
        rw [← hC, ← hec] at HAp
        rw [← hec] at hq
        clear hasm hC hec
        by_cases hlis : (listN b).2 = 0
        · have hal := asm_list b hlis
          have hcs := listN_size b
          have HAl : Hid (∀ V, Lay tb o cap V → Calls Tryd.prog 12 #[.string (listN b).1] V fun e w' => e = .returned (.tuple #[.string b, .int .i64 0]) ∧ Below V.heap.size V w') := fun V hV => by
            have h := asm_any (listN b).1 V tb o cap hV hcs
            rw [hal] at h
            exact h
          rw [hlis] at HLb
          obtain ⟨L, hL⟩ : ∃ L, L = (listN b).1 := ⟨_, rfl⟩
          rw [← hL] at HLb HAl
          clear hlis hal hcs hL
          go_enter Tryd.func5, Tryd.ntmps5
          go_wp2_with fail
          refine (HSh.out _ (HL.out.below (HB0.out))).mono ?_
          rintro e w1 ⟨rfl, hbx⟩
          have HB_w1 := hideC (add_below (HB0.out) hbx)
          have X1 := hideC (B.below (X0.out) hbx (B.isLt (X0.out)))
          clear hbx
          go_wp2_with fail
          refine (HRt.out _ (HL.out.below (HB_w1.out))).mono ?_
          rintro e w2 ⟨rfl, hbx⟩
          have HB_w2 := hideC (add_below (HB_w1.out) hbx)
          have X2 := hideC (B.below (X1.out) hbx (B.isLt (X1.out)))
          clear hbx
          have g0 : w2.cell? ⟨w.heap.size, 0, none⟩ = some (.int .i64 i.op) := B.cell X2.out 0 rfl
          have g1 : w2.cell? ⟨w.heap.size, 1, none⟩ = some (.int .i64 i.a) := B.cell X2.out 1 rfl
          have g2 : w2.cell? ⟨w.heap.size, 2, none⟩ = some (.int .i64 i.b) := B.cell X2.out 2 rfl
          have g3 : w2.cell? ⟨w.heap.size, 3, none⟩ = some (.int .i64 i.c) := B.cell X2.out 3 rfl
          have g4 : w2.cell? ⟨w.heap.size, 4, none⟩ = some (.int .i64 i.m) := B.cell X2.out 4 rfl
          have glt := B.isLt X2.out
          go_wp2_with fail
          refine (HRy.out _ (HL.out.below (HB_w2.out.alloc HB_w2.out.size _))).mono ?_
          rintro e w3 ⟨rfl, hbx⟩
          have HB_w3 := hideC (add_below (HB_w2.out.alloc HB_w2.out.size _) hbx)
          clear hbx
          clear g0 g1 g2 g3 g4 glt
          go_wp2_with fail
          refine (HSy.out _ (HL.out.below (HB_w3.out.alloc HB_w3.out.size _))).mono ?_
          rintro e w4 ⟨rfl, hbx⟩
          have HB_w4 := hideC (add_below (HB_w3.out.alloc HB_w3.out.size _) hbx)
          clear hbx
          go_wp2_with fail
          refine (HAp.out _ (HL.out.below (HB_w4.out))).mono ?_
          rintro e w5 ⟨rfl, hbx⟩
          have HB_w5 := hideC (add_below (HB_w4.out) hbx)
          clear hbx
          go_wp2_with fail
          refine (HLb.out _ (HL.out.below (HB_w5.out))).mono ?_
          rintro e w7 ⟨rfl, hbx⟩
          have HB_w7 := hideC (add_below (HB_w5.out) hbx)
          clear hbx
          go_wp2_with fail
          refine (HAl.out _ (HL.out.below (HB_w7.out))).mono ?_
          rintro e w8 ⟨rfl, hbx⟩
          have HB_w8 := hideC (add_below (HB_w7.out) hbx)
          clear hbx
          go_wp2_with fail
          refine (HBG.out _ (HL.out.below (HB_w8.out))).mono ?_
          rintro e w9 ⟨rfl, hbx⟩
          have HB_w9 := hideC (add_below (HB_w8.out) hbx)
          clear hbx
          go_wp2
          go_ret
          exact ⟨by first | rfl | simp, HB_w9.out⟩
        · have hq2 : ((listN b).2 == 0) = false := beq_eq_false_iff_ne.2 hlis
          obtain ⟨L, hL⟩ : ∃ L, L = (listN b).1 := ⟨_, rfl⟩
          obtain ⟨el, hel⟩ : ∃ el, el = (listN b).2 := ⟨_, rfl⟩
          rw [← hL, ← hel] at HLb
          rw [← hel] at hq2
          clear hlis hL hel
          go_enter Tryd.func5, Tryd.ntmps5
          go_wp2_with fail
          refine (HSh.out _ (HL.out.below (HB0.out))).mono ?_
          rintro e w1 ⟨rfl, hbx⟩
          have HB_w1 := hideC (add_below (HB0.out) hbx)
          have X1 := hideC (B.below (X0.out) hbx (B.isLt (X0.out)))
          clear hbx
          go_wp2_with fail
          refine (HRt.out _ (HL.out.below (HB_w1.out))).mono ?_
          rintro e w2 ⟨rfl, hbx⟩
          have HB_w2 := hideC (add_below (HB_w1.out) hbx)
          have X2 := hideC (B.below (X1.out) hbx (B.isLt (X1.out)))
          clear hbx
          have g0 : w2.cell? ⟨w.heap.size, 0, none⟩ = some (.int .i64 i.op) := B.cell X2.out 0 rfl
          have g1 : w2.cell? ⟨w.heap.size, 1, none⟩ = some (.int .i64 i.a) := B.cell X2.out 1 rfl
          have g2 : w2.cell? ⟨w.heap.size, 2, none⟩ = some (.int .i64 i.b) := B.cell X2.out 2 rfl
          have g3 : w2.cell? ⟨w.heap.size, 3, none⟩ = some (.int .i64 i.c) := B.cell X2.out 3 rfl
          have g4 : w2.cell? ⟨w.heap.size, 4, none⟩ = some (.int .i64 i.m) := B.cell X2.out 4 rfl
          have glt := B.isLt X2.out
          go_wp2_with fail
          refine (HRy.out _ (HL.out.below (HB_w2.out.alloc HB_w2.out.size _))).mono ?_
          rintro e w3 ⟨rfl, hbx⟩
          have HB_w3 := hideC (add_below (HB_w2.out.alloc HB_w2.out.size _) hbx)
          clear hbx
          clear g0 g1 g2 g3 g4 glt
          go_wp2_with fail
          refine (HSy.out _ (HL.out.below (HB_w3.out.alloc HB_w3.out.size _))).mono ?_
          rintro e w4 ⟨rfl, hbx⟩
          have HB_w4 := hideC (add_below (HB_w3.out.alloc HB_w3.out.size _) hbx)
          clear hbx
          go_wp2_with fail
          refine (HAp.out _ (HL.out.below (HB_w4.out))).mono ?_
          rintro e w5 ⟨rfl, hbx⟩
          have HB_w5 := hideC (add_below (HB_w4.out) hbx)
          clear hbx
          go_wp2_with fail
          refine (HLb.out _ (HL.out.below (HB_w5.out))).mono ?_
          rintro e w7 ⟨rfl, hbx⟩
          have HB_w7 := hideC (add_below (HB_w5.out) hbx)
          clear hbx
          go_wp2_with fail
          refine (HBG.out _ (HL.out.below (HB_w7.out))).mono ?_
          rintro e w9 ⟨rfl, hbx⟩
          have HB_w9 := hideC (add_below (HB_w7.out) hbx)
          clear hbx
          go_wp2
          go_ret
          exact ⟨by first | rfl | simp, HB_w9.out⟩
    | none =>
      rw [hrs] at HRd
      have HRy : Hid (∀ V, Lay tb o cap V → Calls Tryd.prog 9 #[.string s] V fun e w' => e = .returned (.tuple #[.agg #[.int .i64 0, .int .i64 0, .int .i64 0, .int .i64 0, .int .i64 0], .int .i64 1]) ∧ Below V.heap.size V w') := HRd.out
      clear hrs HRd
      by_cases hasm : (asmN p).2 = 0
      · have hla := list_asm p hasm
        have hcs := asmN_size p
        have HLc : Hid (∀ V, Lay tb o cap V → Calls Tryd.prog 13 #[.string (asmN p).1] V fun e w' => e = .returned (.tuple #[.string p, .int .i64 0]) ∧ Below V.heap.size V w') := fun V hV => by
          have h := list_any (asmN p).1 V tb o cap hV hcs
          rw [hla] at h
          exact h
        rw [hasm] at HAp
        obtain ⟨C, hC⟩ : ∃ C, C = (asmN p).1 := ⟨_, rfl⟩
        rw [← hC] at HAp HLc
        clear hasm hla hcs hC
        by_cases hlis : (listN b).2 = 0
        · have hal := asm_list b hlis
          have hcs := listN_size b
          have HAl : Hid (∀ V, Lay tb o cap V → Calls Tryd.prog 12 #[.string (listN b).1] V fun e w' => e = .returned (.tuple #[.string b, .int .i64 0]) ∧ Below V.heap.size V w') := fun V hV => by
            have h := asm_any (listN b).1 V tb o cap hV hcs
            rw [hal] at h
            exact h
          rw [hlis] at HLb
          obtain ⟨L, hL⟩ : ∃ L, L = (listN b).1 := ⟨_, rfl⟩
          rw [← hL] at HLb HAl
          clear hlis hal hcs hL
          go_enter Tryd.func5, Tryd.ntmps5
          go_wp2_with fail
          refine (HSh.out _ (HL.out.below (HB0.out))).mono ?_
          rintro e w1 ⟨rfl, hbx⟩
          have HB_w1 := hideC (add_below (HB0.out) hbx)
          have X1 := hideC (B.below (X0.out) hbx (B.isLt (X0.out)))
          clear hbx
          go_wp2_with fail
          refine (HRt.out _ (HL.out.below (HB_w1.out))).mono ?_
          rintro e w2 ⟨rfl, hbx⟩
          have HB_w2 := hideC (add_below (HB_w1.out) hbx)
          have X2 := hideC (B.below (X1.out) hbx (B.isLt (X1.out)))
          clear hbx
          have g0 : w2.cell? ⟨w.heap.size, 0, none⟩ = some (.int .i64 i.op) := B.cell X2.out 0 rfl
          have g1 : w2.cell? ⟨w.heap.size, 1, none⟩ = some (.int .i64 i.a) := B.cell X2.out 1 rfl
          have g2 : w2.cell? ⟨w.heap.size, 2, none⟩ = some (.int .i64 i.b) := B.cell X2.out 2 rfl
          have g3 : w2.cell? ⟨w.heap.size, 3, none⟩ = some (.int .i64 i.c) := B.cell X2.out 3 rfl
          have g4 : w2.cell? ⟨w.heap.size, 4, none⟩ = some (.int .i64 i.m) := B.cell X2.out 4 rfl
          have glt := B.isLt X2.out
          go_wp2_with fail
          refine (HRy.out _ (HL.out.below (HB_w2.out.alloc HB_w2.out.size _))).mono ?_
          rintro e w3 ⟨rfl, hbx⟩
          have HB_w3 := hideC (add_below (HB_w2.out.alloc HB_w2.out.size _) hbx)
          clear hbx
          clear g0 g1 g2 g3 g4 glt
          go_wp2_with fail
          refine (HAp.out _ (HL.out.below (HB_w3.out.alloc HB_w3.out.size _))).mono ?_
          rintro e w5 ⟨rfl, hbx⟩
          have HB_w5 := hideC (add_below (HB_w3.out.alloc HB_w3.out.size _) hbx)
          clear hbx
          go_wp2_with fail
          refine (HLc.out _ (HL.out.below (HB_w5.out))).mono ?_
          rintro e w6 ⟨rfl, hbx⟩
          have HB_w6 := hideC (add_below (HB_w5.out) hbx)
          clear hbx
          go_wp2_with fail
          refine (HLb.out _ (HL.out.below (HB_w6.out))).mono ?_
          rintro e w7 ⟨rfl, hbx⟩
          have HB_w7 := hideC (add_below (HB_w6.out) hbx)
          clear hbx
          go_wp2_with fail
          refine (HAl.out _ (HL.out.below (HB_w7.out))).mono ?_
          rintro e w8 ⟨rfl, hbx⟩
          have HB_w8 := hideC (add_below (HB_w7.out) hbx)
          clear hbx
          go_wp2_with fail
          refine (HBG.out _ (HL.out.below (HB_w8.out))).mono ?_
          rintro e w9 ⟨rfl, hbx⟩
          have HB_w9 := hideC (add_below (HB_w8.out) hbx)
          clear hbx
          go_wp2
          go_ret
          exact ⟨by first | rfl | simp, HB_w9.out⟩
        · have hq2 : ((listN b).2 == 0) = false := beq_eq_false_iff_ne.2 hlis
          obtain ⟨L, hL⟩ : ∃ L, L = (listN b).1 := ⟨_, rfl⟩
          obtain ⟨el, hel⟩ : ∃ el, el = (listN b).2 := ⟨_, rfl⟩
          rw [← hL, ← hel] at HLb
          rw [← hel] at hq2
          clear hlis hL hel
          go_enter Tryd.func5, Tryd.ntmps5
          go_wp2_with fail
          refine (HSh.out _ (HL.out.below (HB0.out))).mono ?_
          rintro e w1 ⟨rfl, hbx⟩
          have HB_w1 := hideC (add_below (HB0.out) hbx)
          have X1 := hideC (B.below (X0.out) hbx (B.isLt (X0.out)))
          clear hbx
          go_wp2_with fail
          refine (HRt.out _ (HL.out.below (HB_w1.out))).mono ?_
          rintro e w2 ⟨rfl, hbx⟩
          have HB_w2 := hideC (add_below (HB_w1.out) hbx)
          have X2 := hideC (B.below (X1.out) hbx (B.isLt (X1.out)))
          clear hbx
          have g0 : w2.cell? ⟨w.heap.size, 0, none⟩ = some (.int .i64 i.op) := B.cell X2.out 0 rfl
          have g1 : w2.cell? ⟨w.heap.size, 1, none⟩ = some (.int .i64 i.a) := B.cell X2.out 1 rfl
          have g2 : w2.cell? ⟨w.heap.size, 2, none⟩ = some (.int .i64 i.b) := B.cell X2.out 2 rfl
          have g3 : w2.cell? ⟨w.heap.size, 3, none⟩ = some (.int .i64 i.c) := B.cell X2.out 3 rfl
          have g4 : w2.cell? ⟨w.heap.size, 4, none⟩ = some (.int .i64 i.m) := B.cell X2.out 4 rfl
          have glt := B.isLt X2.out
          go_wp2_with fail
          refine (HRy.out _ (HL.out.below (HB_w2.out.alloc HB_w2.out.size _))).mono ?_
          rintro e w3 ⟨rfl, hbx⟩
          have HB_w3 := hideC (add_below (HB_w2.out.alloc HB_w2.out.size _) hbx)
          clear hbx
          clear g0 g1 g2 g3 g4 glt
          go_wp2_with fail
          refine (HAp.out _ (HL.out.below (HB_w3.out.alloc HB_w3.out.size _))).mono ?_
          rintro e w5 ⟨rfl, hbx⟩
          have HB_w5 := hideC (add_below (HB_w3.out.alloc HB_w3.out.size _) hbx)
          clear hbx
          go_wp2_with fail
          refine (HLc.out _ (HL.out.below (HB_w5.out))).mono ?_
          rintro e w6 ⟨rfl, hbx⟩
          have HB_w6 := hideC (add_below (HB_w5.out) hbx)
          clear hbx
          go_wp2_with fail
          refine (HLb.out _ (HL.out.below (HB_w6.out))).mono ?_
          rintro e w7 ⟨rfl, hbx⟩
          have HB_w7 := hideC (add_below (HB_w6.out) hbx)
          clear hbx
          go_wp2_with fail
          refine (HBG.out _ (HL.out.below (HB_w7.out))).mono ?_
          rintro e w9 ⟨rfl, hbx⟩
          have HB_w9 := hideC (add_below (HB_w7.out) hbx)
          clear hbx
          go_wp2
          go_ret
          exact ⟨by first | rfl | simp, HB_w9.out⟩
      · have hq : ((asmN p).2 == 0) = false := beq_eq_false_iff_ne.2 hasm
        obtain ⟨C, hC⟩ : ∃ C, C = (asmN p).1 := ⟨_, rfl⟩
        obtain ⟨ec, hec⟩ : ∃ ec, ec = (asmN p).2 := ⟨_, rfl⟩
        rw [← hC, ← hec] at HAp
        rw [← hec] at hq
        clear hasm hC hec
        by_cases hlis : (listN b).2 = 0
        · have hal := asm_list b hlis
          have hcs := listN_size b
          have HAl : Hid (∀ V, Lay tb o cap V → Calls Tryd.prog 12 #[.string (listN b).1] V fun e w' => e = .returned (.tuple #[.string b, .int .i64 0]) ∧ Below V.heap.size V w') := fun V hV => by
            have h := asm_any (listN b).1 V tb o cap hV hcs
            rw [hal] at h
            exact h
          rw [hlis] at HLb
          obtain ⟨L, hL⟩ : ∃ L, L = (listN b).1 := ⟨_, rfl⟩
          rw [← hL] at HLb HAl
          clear hlis hal hcs hL
          go_enter Tryd.func5, Tryd.ntmps5
          go_wp2_with fail
          refine (HSh.out _ (HL.out.below (HB0.out))).mono ?_
          rintro e w1 ⟨rfl, hbx⟩
          have HB_w1 := hideC (add_below (HB0.out) hbx)
          have X1 := hideC (B.below (X0.out) hbx (B.isLt (X0.out)))
          clear hbx
          go_wp2_with fail
          refine (HRt.out _ (HL.out.below (HB_w1.out))).mono ?_
          rintro e w2 ⟨rfl, hbx⟩
          have HB_w2 := hideC (add_below (HB_w1.out) hbx)
          have X2 := hideC (B.below (X1.out) hbx (B.isLt (X1.out)))
          clear hbx
          have g0 : w2.cell? ⟨w.heap.size, 0, none⟩ = some (.int .i64 i.op) := B.cell X2.out 0 rfl
          have g1 : w2.cell? ⟨w.heap.size, 1, none⟩ = some (.int .i64 i.a) := B.cell X2.out 1 rfl
          have g2 : w2.cell? ⟨w.heap.size, 2, none⟩ = some (.int .i64 i.b) := B.cell X2.out 2 rfl
          have g3 : w2.cell? ⟨w.heap.size, 3, none⟩ = some (.int .i64 i.c) := B.cell X2.out 3 rfl
          have g4 : w2.cell? ⟨w.heap.size, 4, none⟩ = some (.int .i64 i.m) := B.cell X2.out 4 rfl
          have glt := B.isLt X2.out
          go_wp2_with fail
          refine (HRy.out _ (HL.out.below (HB_w2.out.alloc HB_w2.out.size _))).mono ?_
          rintro e w3 ⟨rfl, hbx⟩
          have HB_w3 := hideC (add_below (HB_w2.out.alloc HB_w2.out.size _) hbx)
          clear hbx
          clear g0 g1 g2 g3 g4 glt
          go_wp2_with fail
          refine (HAp.out _ (HL.out.below (HB_w3.out.alloc HB_w3.out.size _))).mono ?_
          rintro e w5 ⟨rfl, hbx⟩
          have HB_w5 := hideC (add_below (HB_w3.out.alloc HB_w3.out.size _) hbx)
          clear hbx
          go_wp2_with fail
          refine (HLb.out _ (HL.out.below (HB_w5.out))).mono ?_
          rintro e w7 ⟨rfl, hbx⟩
          have HB_w7 := hideC (add_below (HB_w5.out) hbx)
          clear hbx
          go_wp2_with fail
          refine (HAl.out _ (HL.out.below (HB_w7.out))).mono ?_
          rintro e w8 ⟨rfl, hbx⟩
          have HB_w8 := hideC (add_below (HB_w7.out) hbx)
          clear hbx
          go_wp2_with fail
          refine (HBG.out _ (HL.out.below (HB_w8.out))).mono ?_
          rintro e w9 ⟨rfl, hbx⟩
          have HB_w9 := hideC (add_below (HB_w8.out) hbx)
          clear hbx
          go_wp2
          go_ret
          exact ⟨by first | rfl | simp, HB_w9.out⟩
        · have hq2 : ((listN b).2 == 0) = false := beq_eq_false_iff_ne.2 hlis
          obtain ⟨L, hL⟩ : ∃ L, L = (listN b).1 := ⟨_, rfl⟩
          obtain ⟨el, hel⟩ : ∃ el, el = (listN b).2 := ⟨_, rfl⟩
          rw [← hL, ← hel] at HLb
          rw [← hel] at hq2
          clear hlis hL hel
          go_enter Tryd.func5, Tryd.ntmps5
          go_wp2_with fail
          refine (HSh.out _ (HL.out.below (HB0.out))).mono ?_
          rintro e w1 ⟨rfl, hbx⟩
          have HB_w1 := hideC (add_below (HB0.out) hbx)
          have X1 := hideC (B.below (X0.out) hbx (B.isLt (X0.out)))
          clear hbx
          go_wp2_with fail
          refine (HRt.out _ (HL.out.below (HB_w1.out))).mono ?_
          rintro e w2 ⟨rfl, hbx⟩
          have HB_w2 := hideC (add_below (HB_w1.out) hbx)
          have X2 := hideC (B.below (X1.out) hbx (B.isLt (X1.out)))
          clear hbx
          have g0 : w2.cell? ⟨w.heap.size, 0, none⟩ = some (.int .i64 i.op) := B.cell X2.out 0 rfl
          have g1 : w2.cell? ⟨w.heap.size, 1, none⟩ = some (.int .i64 i.a) := B.cell X2.out 1 rfl
          have g2 : w2.cell? ⟨w.heap.size, 2, none⟩ = some (.int .i64 i.b) := B.cell X2.out 2 rfl
          have g3 : w2.cell? ⟨w.heap.size, 3, none⟩ = some (.int .i64 i.c) := B.cell X2.out 3 rfl
          have g4 : w2.cell? ⟨w.heap.size, 4, none⟩ = some (.int .i64 i.m) := B.cell X2.out 4 rfl
          have glt := B.isLt X2.out
          go_wp2_with fail
          refine (HRy.out _ (HL.out.below (HB_w2.out.alloc HB_w2.out.size _))).mono ?_
          rintro e w3 ⟨rfl, hbx⟩
          have HB_w3 := hideC (add_below (HB_w2.out.alloc HB_w2.out.size _) hbx)
          clear hbx
          clear g0 g1 g2 g3 g4 glt
          go_wp2_with fail
          refine (HAp.out _ (HL.out.below (HB_w3.out.alloc HB_w3.out.size _))).mono ?_
          rintro e w5 ⟨rfl, hbx⟩
          have HB_w5 := hideC (add_below (HB_w3.out.alloc HB_w3.out.size _) hbx)
          clear hbx
          go_wp2_with fail
          refine (HLb.out _ (HL.out.below (HB_w5.out))).mono ?_
          rintro e w7 ⟨rfl, hbx⟩
          have HB_w7 := hideC (add_below (HB_w5.out) hbx)
          clear hbx
          go_wp2_with fail
          refine (HBG.out _ (HL.out.below (HB_w7.out))).mono ?_
          rintro e w9 ⟨rfl, hbx⟩
          have HB_w9 := hideC (add_below (HB_w7.out) hbx)
          clear hbx
          go_wp2
          go_ret
          exact ⟨by first | rfl | simp, HB_w9.out⟩
  · rw [if_neg hf, if_neg hf] at HSh
    have HRt := hideC (fun V (hV : Lay tb o cap V) => read_any ⟨#[]⟩ V tb o cap hV (by decide))
    obtain ⟨xi, hxi⟩ : ∃ xi, xi = (outR (readN ⟨#[]⟩)).1 := ⟨_, rfl⟩
    obtain ⟨xc, hxc⟩ : ∃ xc, xc = (outR (readN ⟨#[]⟩)).2 := ⟨_, rfl⟩
    rw [← hxi, ← hxc] at HRt
    rw [show PM.Ins.cells xi = #[.int .i64 xi.op, .int .i64 xi.a, .int .i64 xi.b, .int .i64 xi.c, .int .i64 xi.m] from rfl] at HRt
    clear hxi hxc hf
    cases hrs : readN s with
    | some y =>
      rw [hrs] at HRd
      have HRy : Hid (∀ V, Lay tb o cap V → Calls Tryd.prog 9 #[.string s] V fun e w' => e = .returned (.tuple #[.agg #[.int .i64 y.op, .int .i64 y.a, .int .i64 y.b, .int .i64 y.c, .int .i64 y.m], .int .i64 0]) ∧ Below V.heap.size V w') := HRd.out
      obtain ⟨hyf, hys⟩ := read_fits hrs
      have HSy : Hid (∀ V, Lay tb o cap V → Calls Tryd.prog 6 #[.agg #[.int .i64 y.op, .int .i64 y.a, .int .i64 y.b, .int .i64 y.c, .int .i64 y.m]] V fun e w' => e = .returned (.tuple #[.string s, .int .i64 0]) ∧ Below V.heap.size V w') := fun V hV => by
        have h := show_yes y V tb o cap hV hyf
        rw [hys] at h
        exact h
      clear hrs HRd hyf hys
      by_cases hasm : (asmN p).2 = 0
      · have hla := list_asm p hasm
        have hcs := asmN_size p
        have HLc : Hid (∀ V, Lay tb o cap V → Calls Tryd.prog 13 #[.string (asmN p).1] V fun e w' => e = .returned (.tuple #[.string p, .int .i64 0]) ∧ Below V.heap.size V w') := fun V hV => by
          have h := list_any (asmN p).1 V tb o cap hV hcs
          rw [hla] at h
          exact h
        rw [hasm] at HAp
        obtain ⟨C, hC⟩ : ∃ C, C = (asmN p).1 := ⟨_, rfl⟩
        rw [← hC] at HAp HLc
        clear hasm hla hcs hC
        by_cases hlis : (listN b).2 = 0
        · have hal := asm_list b hlis
          have hcs := listN_size b
          have HAl : Hid (∀ V, Lay tb o cap V → Calls Tryd.prog 12 #[.string (listN b).1] V fun e w' => e = .returned (.tuple #[.string b, .int .i64 0]) ∧ Below V.heap.size V w') := fun V hV => by
            have h := asm_any (listN b).1 V tb o cap hV hcs
            rw [hal] at h
            exact h
          rw [hlis] at HLb
          obtain ⟨L, hL⟩ : ∃ L, L = (listN b).1 := ⟨_, rfl⟩
          rw [← hL] at HLb HAl
          clear hlis hal hcs hL
          go_enter Tryd.func5, Tryd.ntmps5
          go_wp2_with fail
          refine (HSh.out _ (HL.out.below (HB0.out))).mono ?_
          rintro e w1 ⟨rfl, hbx⟩
          have HB_w1 := hideC (add_below (HB0.out) hbx)
          have X1 := hideC (B.below (X0.out) hbx (B.isLt (X0.out)))
          clear hbx
          go_wp2_with fail
          refine (HRt.out _ (HL.out.below (HB_w1.out))).mono ?_
          rintro e w2 ⟨rfl, hbx⟩
          have HB_w2 := hideC (add_below (HB_w1.out) hbx)
          have X2 := hideC (B.below (X1.out) hbx (B.isLt (X1.out)))
          clear hbx
          go_wp2_with fail
          refine (HRy.out _ (HL.out.below (HB_w2.out.alloc HB_w2.out.size _))).mono ?_
          rintro e w3 ⟨rfl, hbx⟩
          have HB_w3 := hideC (add_below (HB_w2.out.alloc HB_w2.out.size _) hbx)
          clear hbx
          go_wp2_with fail
          refine (HSy.out _ (HL.out.below (HB_w3.out.alloc HB_w3.out.size _))).mono ?_
          rintro e w4 ⟨rfl, hbx⟩
          have HB_w4 := hideC (add_below (HB_w3.out.alloc HB_w3.out.size _) hbx)
          clear hbx
          go_wp2_with fail
          refine (HAp.out _ (HL.out.below (HB_w4.out))).mono ?_
          rintro e w5 ⟨rfl, hbx⟩
          have HB_w5 := hideC (add_below (HB_w4.out) hbx)
          clear hbx
          go_wp2_with fail
          refine (HLc.out _ (HL.out.below (HB_w5.out))).mono ?_
          rintro e w6 ⟨rfl, hbx⟩
          have HB_w6 := hideC (add_below (HB_w5.out) hbx)
          clear hbx
          go_wp2_with fail
          refine (HLb.out _ (HL.out.below (HB_w6.out))).mono ?_
          rintro e w7 ⟨rfl, hbx⟩
          have HB_w7 := hideC (add_below (HB_w6.out) hbx)
          clear hbx
          go_wp2_with fail
          refine (HAl.out _ (HL.out.below (HB_w7.out))).mono ?_
          rintro e w8 ⟨rfl, hbx⟩
          have HB_w8 := hideC (add_below (HB_w7.out) hbx)
          clear hbx
          go_wp2_with fail
          refine (HBG.out _ (HL.out.below (HB_w8.out))).mono ?_
          rintro e w9 ⟨rfl, hbx⟩
          have HB_w9 := hideC (add_below (HB_w8.out) hbx)
          clear hbx
          go_wp2
          go_ret
          exact ⟨by first | rfl | simp, HB_w9.out⟩
        · have hq2 : ((listN b).2 == 0) = false := beq_eq_false_iff_ne.2 hlis
          obtain ⟨L, hL⟩ : ∃ L, L = (listN b).1 := ⟨_, rfl⟩
          obtain ⟨el, hel⟩ : ∃ el, el = (listN b).2 := ⟨_, rfl⟩
          rw [← hL, ← hel] at HLb
          rw [← hel] at hq2
          clear hlis hL hel
          go_enter Tryd.func5, Tryd.ntmps5
          go_wp2_with fail
          refine (HSh.out _ (HL.out.below (HB0.out))).mono ?_
          rintro e w1 ⟨rfl, hbx⟩
          have HB_w1 := hideC (add_below (HB0.out) hbx)
          have X1 := hideC (B.below (X0.out) hbx (B.isLt (X0.out)))
          clear hbx
          go_wp2_with fail
          refine (HRt.out _ (HL.out.below (HB_w1.out))).mono ?_
          rintro e w2 ⟨rfl, hbx⟩
          have HB_w2 := hideC (add_below (HB_w1.out) hbx)
          have X2 := hideC (B.below (X1.out) hbx (B.isLt (X1.out)))
          clear hbx
          go_wp2_with fail
          refine (HRy.out _ (HL.out.below (HB_w2.out.alloc HB_w2.out.size _))).mono ?_
          rintro e w3 ⟨rfl, hbx⟩
          have HB_w3 := hideC (add_below (HB_w2.out.alloc HB_w2.out.size _) hbx)
          clear hbx
          go_wp2_with fail
          refine (HSy.out _ (HL.out.below (HB_w3.out.alloc HB_w3.out.size _))).mono ?_
          rintro e w4 ⟨rfl, hbx⟩
          have HB_w4 := hideC (add_below (HB_w3.out.alloc HB_w3.out.size _) hbx)
          clear hbx
          go_wp2_with fail
          refine (HAp.out _ (HL.out.below (HB_w4.out))).mono ?_
          rintro e w5 ⟨rfl, hbx⟩
          have HB_w5 := hideC (add_below (HB_w4.out) hbx)
          clear hbx
          go_wp2_with fail
          refine (HLc.out _ (HL.out.below (HB_w5.out))).mono ?_
          rintro e w6 ⟨rfl, hbx⟩
          have HB_w6 := hideC (add_below (HB_w5.out) hbx)
          clear hbx
          go_wp2_with fail
          refine (HLb.out _ (HL.out.below (HB_w6.out))).mono ?_
          rintro e w7 ⟨rfl, hbx⟩
          have HB_w7 := hideC (add_below (HB_w6.out) hbx)
          clear hbx
          go_wp2_with fail
          refine (HBG.out _ (HL.out.below (HB_w7.out))).mono ?_
          rintro e w9 ⟨rfl, hbx⟩
          have HB_w9 := hideC (add_below (HB_w7.out) hbx)
          clear hbx
          go_wp2
          go_ret
          exact ⟨by first | rfl | simp, HB_w9.out⟩
      · have hq : ((asmN p).2 == 0) = false := beq_eq_false_iff_ne.2 hasm
        obtain ⟨C, hC⟩ : ∃ C, C = (asmN p).1 := ⟨_, rfl⟩
        obtain ⟨ec, hec⟩ : ∃ ec, ec = (asmN p).2 := ⟨_, rfl⟩
        rw [← hC, ← hec] at HAp
        rw [← hec] at hq
        clear hasm hC hec
        by_cases hlis : (listN b).2 = 0
        · have hal := asm_list b hlis
          have hcs := listN_size b
          have HAl : Hid (∀ V, Lay tb o cap V → Calls Tryd.prog 12 #[.string (listN b).1] V fun e w' => e = .returned (.tuple #[.string b, .int .i64 0]) ∧ Below V.heap.size V w') := fun V hV => by
            have h := asm_any (listN b).1 V tb o cap hV hcs
            rw [hal] at h
            exact h
          rw [hlis] at HLb
          obtain ⟨L, hL⟩ : ∃ L, L = (listN b).1 := ⟨_, rfl⟩
          rw [← hL] at HLb HAl
          clear hlis hal hcs hL
          go_enter Tryd.func5, Tryd.ntmps5
          go_wp2_with fail
          refine (HSh.out _ (HL.out.below (HB0.out))).mono ?_
          rintro e w1 ⟨rfl, hbx⟩
          have HB_w1 := hideC (add_below (HB0.out) hbx)
          have X1 := hideC (B.below (X0.out) hbx (B.isLt (X0.out)))
          clear hbx
          go_wp2_with fail
          refine (HRt.out _ (HL.out.below (HB_w1.out))).mono ?_
          rintro e w2 ⟨rfl, hbx⟩
          have HB_w2 := hideC (add_below (HB_w1.out) hbx)
          have X2 := hideC (B.below (X1.out) hbx (B.isLt (X1.out)))
          clear hbx
          go_wp2_with fail
          refine (HRy.out _ (HL.out.below (HB_w2.out.alloc HB_w2.out.size _))).mono ?_
          rintro e w3 ⟨rfl, hbx⟩
          have HB_w3 := hideC (add_below (HB_w2.out.alloc HB_w2.out.size _) hbx)
          clear hbx
          go_wp2_with fail
          refine (HSy.out _ (HL.out.below (HB_w3.out.alloc HB_w3.out.size _))).mono ?_
          rintro e w4 ⟨rfl, hbx⟩
          have HB_w4 := hideC (add_below (HB_w3.out.alloc HB_w3.out.size _) hbx)
          clear hbx
          go_wp2_with fail
          refine (HAp.out _ (HL.out.below (HB_w4.out))).mono ?_
          rintro e w5 ⟨rfl, hbx⟩
          have HB_w5 := hideC (add_below (HB_w4.out) hbx)
          clear hbx
          go_wp2_with fail
          refine (HLb.out _ (HL.out.below (HB_w5.out))).mono ?_
          rintro e w7 ⟨rfl, hbx⟩
          have HB_w7 := hideC (add_below (HB_w5.out) hbx)
          clear hbx
          go_wp2_with fail
          refine (HAl.out _ (HL.out.below (HB_w7.out))).mono ?_
          rintro e w8 ⟨rfl, hbx⟩
          have HB_w8 := hideC (add_below (HB_w7.out) hbx)
          clear hbx
          go_wp2_with fail
          refine (HBG.out _ (HL.out.below (HB_w8.out))).mono ?_
          rintro e w9 ⟨rfl, hbx⟩
          have HB_w9 := hideC (add_below (HB_w8.out) hbx)
          clear hbx
          go_wp2
          go_ret
          exact ⟨by first | rfl | simp, HB_w9.out⟩
        · have hq2 : ((listN b).2 == 0) = false := beq_eq_false_iff_ne.2 hlis
          obtain ⟨L, hL⟩ : ∃ L, L = (listN b).1 := ⟨_, rfl⟩
          obtain ⟨el, hel⟩ : ∃ el, el = (listN b).2 := ⟨_, rfl⟩
          rw [← hL, ← hel] at HLb
          rw [← hel] at hq2
          clear hlis hL hel
          go_enter Tryd.func5, Tryd.ntmps5
          go_wp2_with fail
          refine (HSh.out _ (HL.out.below (HB0.out))).mono ?_
          rintro e w1 ⟨rfl, hbx⟩
          have HB_w1 := hideC (add_below (HB0.out) hbx)
          have X1 := hideC (B.below (X0.out) hbx (B.isLt (X0.out)))
          clear hbx
          go_wp2_with fail
          refine (HRt.out _ (HL.out.below (HB_w1.out))).mono ?_
          rintro e w2 ⟨rfl, hbx⟩
          have HB_w2 := hideC (add_below (HB_w1.out) hbx)
          have X2 := hideC (B.below (X1.out) hbx (B.isLt (X1.out)))
          clear hbx
          go_wp2_with fail
          refine (HRy.out _ (HL.out.below (HB_w2.out.alloc HB_w2.out.size _))).mono ?_
          rintro e w3 ⟨rfl, hbx⟩
          have HB_w3 := hideC (add_below (HB_w2.out.alloc HB_w2.out.size _) hbx)
          clear hbx
          go_wp2_with fail
          refine (HSy.out _ (HL.out.below (HB_w3.out.alloc HB_w3.out.size _))).mono ?_
          rintro e w4 ⟨rfl, hbx⟩
          have HB_w4 := hideC (add_below (HB_w3.out.alloc HB_w3.out.size _) hbx)
          clear hbx
          go_wp2_with fail
          refine (HAp.out _ (HL.out.below (HB_w4.out))).mono ?_
          rintro e w5 ⟨rfl, hbx⟩
          have HB_w5 := hideC (add_below (HB_w4.out) hbx)
          clear hbx
          go_wp2_with fail
          refine (HLb.out _ (HL.out.below (HB_w5.out))).mono ?_
          rintro e w7 ⟨rfl, hbx⟩
          have HB_w7 := hideC (add_below (HB_w5.out) hbx)
          clear hbx
          go_wp2_with fail
          refine (HBG.out _ (HL.out.below (HB_w7.out))).mono ?_
          rintro e w9 ⟨rfl, hbx⟩
          have HB_w9 := hideC (add_below (HB_w7.out) hbx)
          clear hbx
          go_wp2
          go_ret
          exact ⟨by first | rfl | simp, HB_w9.out⟩
    | none =>
      rw [hrs] at HRd
      have HRy : Hid (∀ V, Lay tb o cap V → Calls Tryd.prog 9 #[.string s] V fun e w' => e = .returned (.tuple #[.agg #[.int .i64 0, .int .i64 0, .int .i64 0, .int .i64 0, .int .i64 0], .int .i64 1]) ∧ Below V.heap.size V w') := HRd.out
      clear hrs HRd
      by_cases hasm : (asmN p).2 = 0
      · have hla := list_asm p hasm
        have hcs := asmN_size p
        have HLc : Hid (∀ V, Lay tb o cap V → Calls Tryd.prog 13 #[.string (asmN p).1] V fun e w' => e = .returned (.tuple #[.string p, .int .i64 0]) ∧ Below V.heap.size V w') := fun V hV => by
          have h := list_any (asmN p).1 V tb o cap hV hcs
          rw [hla] at h
          exact h
        rw [hasm] at HAp
        obtain ⟨C, hC⟩ : ∃ C, C = (asmN p).1 := ⟨_, rfl⟩
        rw [← hC] at HAp HLc
        clear hasm hla hcs hC
        by_cases hlis : (listN b).2 = 0
        · have hal := asm_list b hlis
          have hcs := listN_size b
          have HAl : Hid (∀ V, Lay tb o cap V → Calls Tryd.prog 12 #[.string (listN b).1] V fun e w' => e = .returned (.tuple #[.string b, .int .i64 0]) ∧ Below V.heap.size V w') := fun V hV => by
            have h := asm_any (listN b).1 V tb o cap hV hcs
            rw [hal] at h
            exact h
          rw [hlis] at HLb
          obtain ⟨L, hL⟩ : ∃ L, L = (listN b).1 := ⟨_, rfl⟩
          rw [← hL] at HLb HAl
          clear hlis hal hcs hL
          go_enter Tryd.func5, Tryd.ntmps5
          go_wp2_with fail
          refine (HSh.out _ (HL.out.below (HB0.out))).mono ?_
          rintro e w1 ⟨rfl, hbx⟩
          have HB_w1 := hideC (add_below (HB0.out) hbx)
          have X1 := hideC (B.below (X0.out) hbx (B.isLt (X0.out)))
          clear hbx
          go_wp2_with fail
          refine (HRt.out _ (HL.out.below (HB_w1.out))).mono ?_
          rintro e w2 ⟨rfl, hbx⟩
          have HB_w2 := hideC (add_below (HB_w1.out) hbx)
          have X2 := hideC (B.below (X1.out) hbx (B.isLt (X1.out)))
          clear hbx
          go_wp2_with fail
          refine (HRy.out _ (HL.out.below (HB_w2.out.alloc HB_w2.out.size _))).mono ?_
          rintro e w3 ⟨rfl, hbx⟩
          have HB_w3 := hideC (add_below (HB_w2.out.alloc HB_w2.out.size _) hbx)
          clear hbx
          go_wp2_with fail
          refine (HAp.out _ (HL.out.below (HB_w3.out.alloc HB_w3.out.size _))).mono ?_
          rintro e w5 ⟨rfl, hbx⟩
          have HB_w5 := hideC (add_below (HB_w3.out.alloc HB_w3.out.size _) hbx)
          clear hbx
          go_wp2_with fail
          refine (HLc.out _ (HL.out.below (HB_w5.out))).mono ?_
          rintro e w6 ⟨rfl, hbx⟩
          have HB_w6 := hideC (add_below (HB_w5.out) hbx)
          clear hbx
          go_wp2_with fail
          refine (HLb.out _ (HL.out.below (HB_w6.out))).mono ?_
          rintro e w7 ⟨rfl, hbx⟩
          have HB_w7 := hideC (add_below (HB_w6.out) hbx)
          clear hbx
          go_wp2_with fail
          refine (HAl.out _ (HL.out.below (HB_w7.out))).mono ?_
          rintro e w8 ⟨rfl, hbx⟩
          have HB_w8 := hideC (add_below (HB_w7.out) hbx)
          clear hbx
          go_wp2_with fail
          refine (HBG.out _ (HL.out.below (HB_w8.out))).mono ?_
          rintro e w9 ⟨rfl, hbx⟩
          have HB_w9 := hideC (add_below (HB_w8.out) hbx)
          clear hbx
          go_wp2
          go_ret
          exact ⟨by first | rfl | simp, HB_w9.out⟩
        · have hq2 : ((listN b).2 == 0) = false := beq_eq_false_iff_ne.2 hlis
          obtain ⟨L, hL⟩ : ∃ L, L = (listN b).1 := ⟨_, rfl⟩
          obtain ⟨el, hel⟩ : ∃ el, el = (listN b).2 := ⟨_, rfl⟩
          rw [← hL, ← hel] at HLb
          rw [← hel] at hq2
          clear hlis hL hel
          go_enter Tryd.func5, Tryd.ntmps5
          go_wp2_with fail
          refine (HSh.out _ (HL.out.below (HB0.out))).mono ?_
          rintro e w1 ⟨rfl, hbx⟩
          have HB_w1 := hideC (add_below (HB0.out) hbx)
          have X1 := hideC (B.below (X0.out) hbx (B.isLt (X0.out)))
          clear hbx
          go_wp2_with fail
          refine (HRt.out _ (HL.out.below (HB_w1.out))).mono ?_
          rintro e w2 ⟨rfl, hbx⟩
          have HB_w2 := hideC (add_below (HB_w1.out) hbx)
          have X2 := hideC (B.below (X1.out) hbx (B.isLt (X1.out)))
          clear hbx
          go_wp2_with fail
          refine (HRy.out _ (HL.out.below (HB_w2.out.alloc HB_w2.out.size _))).mono ?_
          rintro e w3 ⟨rfl, hbx⟩
          have HB_w3 := hideC (add_below (HB_w2.out.alloc HB_w2.out.size _) hbx)
          clear hbx
          go_wp2_with fail
          refine (HAp.out _ (HL.out.below (HB_w3.out.alloc HB_w3.out.size _))).mono ?_
          rintro e w5 ⟨rfl, hbx⟩
          have HB_w5 := hideC (add_below (HB_w3.out.alloc HB_w3.out.size _) hbx)
          clear hbx
          go_wp2_with fail
          refine (HLc.out _ (HL.out.below (HB_w5.out))).mono ?_
          rintro e w6 ⟨rfl, hbx⟩
          have HB_w6 := hideC (add_below (HB_w5.out) hbx)
          clear hbx
          go_wp2_with fail
          refine (HLb.out _ (HL.out.below (HB_w6.out))).mono ?_
          rintro e w7 ⟨rfl, hbx⟩
          have HB_w7 := hideC (add_below (HB_w6.out) hbx)
          clear hbx
          go_wp2_with fail
          refine (HBG.out _ (HL.out.below (HB_w7.out))).mono ?_
          rintro e w9 ⟨rfl, hbx⟩
          have HB_w9 := hideC (add_below (HB_w7.out) hbx)
          clear hbx
          go_wp2
          go_ret
          exact ⟨by first | rfl | simp, HB_w9.out⟩
      · have hq : ((asmN p).2 == 0) = false := beq_eq_false_iff_ne.2 hasm
        obtain ⟨C, hC⟩ : ∃ C, C = (asmN p).1 := ⟨_, rfl⟩
        obtain ⟨ec, hec⟩ : ∃ ec, ec = (asmN p).2 := ⟨_, rfl⟩
        rw [← hC, ← hec] at HAp
        rw [← hec] at hq
        clear hasm hC hec
        by_cases hlis : (listN b).2 = 0
        · have hal := asm_list b hlis
          have hcs := listN_size b
          have HAl : Hid (∀ V, Lay tb o cap V → Calls Tryd.prog 12 #[.string (listN b).1] V fun e w' => e = .returned (.tuple #[.string b, .int .i64 0]) ∧ Below V.heap.size V w') := fun V hV => by
            have h := asm_any (listN b).1 V tb o cap hV hcs
            rw [hal] at h
            exact h
          rw [hlis] at HLb
          obtain ⟨L, hL⟩ : ∃ L, L = (listN b).1 := ⟨_, rfl⟩
          rw [← hL] at HLb HAl
          clear hlis hal hcs hL
          go_enter Tryd.func5, Tryd.ntmps5
          go_wp2_with fail
          refine (HSh.out _ (HL.out.below (HB0.out))).mono ?_
          rintro e w1 ⟨rfl, hbx⟩
          have HB_w1 := hideC (add_below (HB0.out) hbx)
          have X1 := hideC (B.below (X0.out) hbx (B.isLt (X0.out)))
          clear hbx
          go_wp2_with fail
          refine (HRt.out _ (HL.out.below (HB_w1.out))).mono ?_
          rintro e w2 ⟨rfl, hbx⟩
          have HB_w2 := hideC (add_below (HB_w1.out) hbx)
          have X2 := hideC (B.below (X1.out) hbx (B.isLt (X1.out)))
          clear hbx
          go_wp2_with fail
          refine (HRy.out _ (HL.out.below (HB_w2.out.alloc HB_w2.out.size _))).mono ?_
          rintro e w3 ⟨rfl, hbx⟩
          have HB_w3 := hideC (add_below (HB_w2.out.alloc HB_w2.out.size _) hbx)
          clear hbx
          go_wp2_with fail
          refine (HAp.out _ (HL.out.below (HB_w3.out.alloc HB_w3.out.size _))).mono ?_
          rintro e w5 ⟨rfl, hbx⟩
          have HB_w5 := hideC (add_below (HB_w3.out.alloc HB_w3.out.size _) hbx)
          clear hbx
          go_wp2_with fail
          refine (HLb.out _ (HL.out.below (HB_w5.out))).mono ?_
          rintro e w7 ⟨rfl, hbx⟩
          have HB_w7 := hideC (add_below (HB_w5.out) hbx)
          clear hbx
          go_wp2_with fail
          refine (HAl.out _ (HL.out.below (HB_w7.out))).mono ?_
          rintro e w8 ⟨rfl, hbx⟩
          have HB_w8 := hideC (add_below (HB_w7.out) hbx)
          clear hbx
          go_wp2_with fail
          refine (HBG.out _ (HL.out.below (HB_w8.out))).mono ?_
          rintro e w9 ⟨rfl, hbx⟩
          have HB_w9 := hideC (add_below (HB_w8.out) hbx)
          clear hbx
          go_wp2
          go_ret
          exact ⟨by first | rfl | simp, HB_w9.out⟩
        · have hq2 : ((listN b).2 == 0) = false := beq_eq_false_iff_ne.2 hlis
          obtain ⟨L, hL⟩ : ∃ L, L = (listN b).1 := ⟨_, rfl⟩
          obtain ⟨el, hel⟩ : ∃ el, el = (listN b).2 := ⟨_, rfl⟩
          rw [← hL, ← hel] at HLb
          rw [← hel] at hq2
          clear hlis hL hel
          go_enter Tryd.func5, Tryd.ntmps5
          go_wp2_with fail
          refine (HSh.out _ (HL.out.below (HB0.out))).mono ?_
          rintro e w1 ⟨rfl, hbx⟩
          have HB_w1 := hideC (add_below (HB0.out) hbx)
          have X1 := hideC (B.below (X0.out) hbx (B.isLt (X0.out)))
          clear hbx
          go_wp2_with fail
          refine (HRt.out _ (HL.out.below (HB_w1.out))).mono ?_
          rintro e w2 ⟨rfl, hbx⟩
          have HB_w2 := hideC (add_below (HB_w1.out) hbx)
          have X2 := hideC (B.below (X1.out) hbx (B.isLt (X1.out)))
          clear hbx
          go_wp2_with fail
          refine (HRy.out _ (HL.out.below (HB_w2.out.alloc HB_w2.out.size _))).mono ?_
          rintro e w3 ⟨rfl, hbx⟩
          have HB_w3 := hideC (add_below (HB_w2.out.alloc HB_w2.out.size _) hbx)
          clear hbx
          go_wp2_with fail
          refine (HAp.out _ (HL.out.below (HB_w3.out.alloc HB_w3.out.size _))).mono ?_
          rintro e w5 ⟨rfl, hbx⟩
          have HB_w5 := hideC (add_below (HB_w3.out.alloc HB_w3.out.size _) hbx)
          clear hbx
          go_wp2_with fail
          refine (HLb.out _ (HL.out.below (HB_w5.out))).mono ?_
          rintro e w7 ⟨rfl, hbx⟩
          have HB_w7 := hideC (add_below (HB_w5.out) hbx)
          clear hbx
          go_wp2_with fail
          refine (HBG.out _ (HL.out.below (HB_w7.out))).mono ?_
          rintro e w9 ⟨rfl, hbx⟩
          have HB_w9 := hideC (add_below (HB_w7.out) hbx)
          clear hbx
          go_wp2
          go_ret
          exact ⟨by first | rfl | simp, HB_w9.out⟩
end Go.Proofs.YtklobjfhjlkgfaaDoor.TW
