import Derived.Test.YtamocjifffbhpaaPX0
import Derived.Deep.CutBlock
import Derived.Deep.DeepCutAuto
namespace Go.Proofs.Ytamocjifffbhpaa.PW
open Go.RowKit
set_option linter.unusedVariables false
set_option maxRecDepth 100000

def Rel (W : World) (pb ib b : Nat) (wx : World) : Prop := wx.cell? ⟨b, 0, none⟩ = some (.int .i64 1) ∧ wx.cell? ⟨b, 1, none⟩ = some (.int .i64 6) ∧ wx.cell? ⟨b, 2, none⟩ = some (.int .i64 4) ∧ wx.cell? ⟨b, 3, none⟩ = some (.int .i64 0) ∧ wx.cell? ⟨b, 4, none⟩ = some (.int .i64 0) ∧ wx.cell? ⟨pb, 1, none⟩ = some (.int .i64 2) ∧ wx.cell? ⟨pb, 8, none⟩ = some (.int .i64 16) ∧ wx.cell? ⟨ib, 4, none⟩ = some (.int .i64 (-3)) ∧ Below W.heap.size W wx
theorem rel_mk {W wx : World} {pb ib b : Nat} {t : TypeId} (bel : Below W.heap.size W wx) (hb : wx.heap[b]? = some (.cells #[.int .i64 1, .int .i64 6, .int .i64 4, .int .i64 0, .int .i64 0] t (0, 0))) (hp : W.heap[pb]? = some (.cells #[.int .i64 0, .int .i64 2, .int .i64 5, .int .i64 0, .int .i64 0, .int .i64 0, .int .i64 0, .int .i64 0, .int .i64 16, .int .i64 0, .int .i64 0, .int .i64 0, .int .i64 0] 38 (0, 0))) (hi : W.heap[ib]? = some (.cells #[.int .i64 8, .int .i64 1, .int .i64 2, .int .i64 0, .int .i64 (-3)] 23 (0, 0))) : Rel W pb ib b wx :=
  ⟨B.cell hb 0 rfl, B.cell hb 1 rfl, B.cell hb 2 rfl, B.cell hb 3 rfl, B.cell hb 4 rfl, B.cell (B.below hp bel (B.isLt hp)) 1 rfl, B.cell (B.below hp bel (B.isLt hp)) 8 rfl, B.cell (B.below hi bel (B.isLt hi)) 4 rfl, bel⟩
def iA : PM.Ins := ⟨8, 1, 2, 0, -3⟩
def iB : PM.Ins := ⟨9, 1, 2, 4, 1⟩
theorem fitsA : iA.fits := by unfold iA PM.Ins.fits PM.Byt; decide
theorem fitsB : iB.fits := by unfold iB PM.Ins.fits PM.Byt; decide
def pA : PM.Pr := ⟨fun k => if k = 2 then 5 else 0, 8, 0, 0, 0, 0⟩
def pB : PM.Pr := ⟨fun k => if k = 1 then 2 else if k = 2 then 5 else 0, 16, 0, 0, 0, 0⟩
theorem doneA : (PM.doneN pA iA 0).row = #[.int .i64 0, .int .i64 2, .int .i64 5, .int .i64 0, .int .i64 0, .int .i64 0, .int .i64 0, .int .i64 0, .int .i64 16, .int .i64 0, .int .i64 0, .int .i64 0, .int .i64 0] := by kernel_rfl
theorem askB : PM.askN pB iB = #[.int .i64 1, .int .i64 6, .int .i64 4, .int .i64 0, .int .i64 0] := by kernel_rfl
set_option maxHeartbeats 20000000 in
theorem begun_any (w : World) : Calls Try.prog 11 #[] w fun e w' => e = .returned (.bool true) ∧ Below w.heap.size w w' := by
  have HE : Hid (∀ V, Calls Try.prog 6 #[.agg #[.int .i64 8, .int .i64 1, .int .i64 2, .int .i64 0, .int .i64 (-3)]] V fun e w' => e = .returned (.tuple #[.string iA.bytes, .int .i64 0]) ∧ Below V.heap.size V w') := fun V => by
    have h := encode_any iA V
    rw [if_pos fitsA] at h
    exact h
  have HD : Hid (∀ V, Calls Try.prog 7 #[.string iA.bytes] V fun e w' => e = .returned (.tuple #[.agg #[.int .i64 8, .int .i64 1, .int .i64 2, .int .i64 0, .int .i64 (-3)], .int .i64 0]) ∧ Below V.heap.size V w') := fun V => by
    have h := decode_yes iA.bytes V (PM.bytes_size _)
    rw [PM.ins_bytes _ fitsA] at h
    exact h
  have HN : Hid (∀ V, Calls Try.prog 13 #[.agg #[.int .i64 0, .int .i64 0, .int .i64 5, .int .i64 0, .int .i64 0, .int .i64 0, .int .i64 0, .int .i64 0, .int .i64 8, .int .i64 0, .int .i64 0, .int .i64 0, .int .i64 0], .string iA.bytes, .int .i64 0] V fun e w' => e = .returned (.tuple #[.agg #[.int .i64 0, .int .i64 2, .int .i64 5, .int .i64 0, .int .i64 0, .int .i64 0, .int .i64 0, .int .i64 0, .int .i64 16, .int .i64 0, .int .i64 0, .int .i64 0, .int .i64 0], .int .i64 0]) ∧ Below V.heap.size V w') := fun V => by
    have h := done_yes pA iA.bytes 0 V (PM.bytes_size _) (by rw [PM.ins_bytes _ fitsA]; rfl)
    rw [PM.ins_bytes _ fitsA, doneA] at h
    exact h
  have HI : Hid (∀ V, Calls Try.prog 9 #[.agg #[.int .i64 9, .int .i64 1, .int .i64 2, .int .i64 4, .int .i64 1]] V fun e w' => e = .returned (.string iB.bytes) ∧ Below V.heap.size V w') := fun V => instr_any iB V
  have HK : Hid (∀ V, Calls Try.prog 12 #[.agg #[.int .i64 0, .int .i64 2, .int .i64 5, .int .i64 0, .int .i64 0, .int .i64 0, .int .i64 0, .int .i64 0, .int .i64 16, .int .i64 0, .int .i64 0, .int .i64 0, .int .i64 0], .string iB.bytes] V fun e w' => e = .returned (.tuple #[.agg #[.int .i64 1, .int .i64 6, .int .i64 4, .int .i64 0, .int .i64 0], .int .i64 0]) ∧ Below V.heap.size V w') := fun V => by
    have h := ask_yes pB iB.bytes V (PM.bytes_size _)
    rw [PM.ins_bytes _ fitsB, askB] at h
    exact h
  have hsz : iA.bytes.size = 8 := PM.bytes_size _
  obtain ⟨SA, hSA⟩ : ∃ SA, SA = iA.bytes := ⟨_, rfl⟩
  obtain ⟨SB, hSB⟩ : ∃ SB, SB = iB.bytes := ⟨_, rfl⟩
  rw [← hSA] at HE HD HN hsz
  rw [← hSB] at HI HK
  clear hSA hSB
  go_enter Try.func11, Try.ntmps11
  go_wp2_with fail
  refine (HE.out _).mono ?_
  rintro e w1 ⟨rfl, hb1⟩
  have HB1 := hideC hb1
  clear hb1
  go_wp2_with fail
  refine (HD.out _).mono ?_
  rintro e w2 ⟨rfl, hb2⟩
  have HB2 := hideC (HB1.out.trans (hb2.mono HB1.out.size))
  have HA2 := hideC ((Below.refl w2.heap.size w2).alloc (Nat.le_refl _) (.cells #[.int .i64 8, .int .i64 1, .int .i64 2, .int .i64 0, .int .i64 (-3)] 23))
  have BD := hideC (B.new w2 #[.int .i64 8, .int .i64 1, .int .i64 2, .int .i64 0, .int .i64 (-3)] 23)
  clear hb2
  go_wp2_with fail
  refine (HN.out _).mono ?_
  rintro e w3 ⟨rfl, hb3⟩
  have HB3 := hideC (HB2.out.trans ((HA2.out.trans (hb3.mono HA2.out.size)).mono HB2.out.size))
  have BD3 := hideC (B.below BD.out hb3 (B.isLt BD.out))
  have HA3 := hideC ((Below.refl w3.heap.size w3).alloc (Nat.le_refl _) (.cells #[.int .i64 0, .int .i64 2, .int .i64 5, .int .i64 0, .int .i64 0, .int .i64 0, .int .i64 0, .int .i64 0, .int .i64 16, .int .i64 0, .int .i64 0, .int .i64 0, .int .i64 0] 38))
  have BP := hideC (B.new w3 #[.int .i64 0, .int .i64 2, .int .i64 5, .int .i64 0, .int .i64 0, .int .i64 0, .int .i64 0, .int .i64 0, .int .i64 16, .int .i64 0, .int .i64 0, .int .i64 0, .int .i64 0] 38)
  have BDA := hideC (B.alloc BD3.out (.cells #[.int .i64 0, .int .i64 2, .int .i64 5, .int .i64 0, .int .i64 0, .int .i64 0, .int .i64 0, .int .i64 0, .int .i64 16, .int .i64 0, .int .i64 0, .int .i64 0, .int .i64 0] 38))
  clear hb3 BD HB1 HA2 HE HD HN
  go_wp2_with fail
  obtain ⟨W, hW⟩ : ∃ W, W = w3.alloc (.cells #[.int .i64 0, .int .i64 2, .int .i64 5, .int .i64 0, .int .i64 0, .int .i64 0, .int .i64 0, .int .i64 0, .int .i64 16, .int .i64 0, .int .i64 0, .int .i64 0, .int .i64 0] 38) := ⟨_, rfl⟩
  rw [← hW] at HA3 BP BDA ⊢
  clear hW
  have HKB : Hid (∀ V, Below W.heap.size W V → V.cell? ⟨w3.heap.size, 0, none⟩ = some (.int .i64 0) ∧ V.cell? ⟨w3.heap.size, 1, none⟩ = some (.int .i64 2) ∧ V.cell? ⟨w3.heap.size, 2, none⟩ = some (.int .i64 5) ∧ V.cell? ⟨w3.heap.size, 3, none⟩ = some (.int .i64 0) ∧ V.cell? ⟨w3.heap.size, 4, none⟩ = some (.int .i64 0) ∧ V.cell? ⟨w3.heap.size, 5, none⟩ = some (.int .i64 0) ∧ V.cell? ⟨w3.heap.size, 6, none⟩ = some (.int .i64 0) ∧ V.cell? ⟨w3.heap.size, 7, none⟩ = some (.int .i64 0) ∧ V.cell? ⟨w3.heap.size, 8, none⟩ = some (.int .i64 16) ∧ V.cell? ⟨w3.heap.size, 9, none⟩ = some (.int .i64 0) ∧ V.cell? ⟨w3.heap.size, 10, none⟩ = some (.int .i64 0) ∧ V.cell? ⟨w3.heap.size, 11, none⟩ = some (.int .i64 0) ∧ V.cell? ⟨w3.heap.size, 12, none⟩ = some (.int .i64 0)) := fun V hV => by
    have h := B.below BP.out hV (B.isLt BP.out)
    exact ⟨B.cell h 0 rfl, B.cell h 1 rfl, B.cell h 2 rfl, B.cell h 3 rfl, B.cell h 4 rfl, B.cell h 5 rfl, B.cell h 6 rfl, B.cell h 7 rfl, B.cell h 8 rfl, B.cell h 9 rfl, B.cell h 10 rfl, B.cell h 11 rfl, B.cell h 12 rfl⟩
  have HK0 := hideC (Below.refl W.heap.size W).drew
  have HS0 := hideC (HKB.out _ HK0.out)
  have l3 := B.isLt BP.out
  have l2 := B.isLt BDA.out
  have HZ0 := hideC (show Below W.heap.size W (W.alloc (.cells #[.int .i64 0, .int .i64 0, .int .i64 0, .int .i64 0, .int .i64 0] 40)).drew from ((Below.refl W.heap.size W).alloc (Nat.le_refl _) _).drew)
  go_cut [7, 8] (fun x7 x8 wx => ∃ b : Nat, x7 = .pointer (some ⟨b, 0, none⟩) ∧ x8 = .int .i64 0 ∧ Rel W w3.heap.size w2.heap.size b wx)
  case first =>
    obtain ⟨c0, c1, c2, c3, c4, c5, c6, c7, c8, c9, c10, c11, c12⟩ := HKB.out _ (Below.refl _ _)
    clear HS0
    go_region_law (first | (go_simp; go_at_call 9; refine (HI.out _).mono ?_; rintro e w4 ⟨rfl, hb4⟩; have HK4 : Hid (Below W.heap.size W w4) := (by first | exact HK0.out.trans hb4 | exact HZ0.out.trans (hb4.mono HZ0.out.size)); (try (have HY := hideC (B.below (w := (W.alloc (.cells #[.int .i64 0, .int .i64 0, .int .i64 0, .int .i64 0, .int .i64 0] 40)).drew) (B.new W #[.int .i64 0, .int .i64 0, .int .i64 0, .int .i64 0, .int .i64 0] 40) hb4 (by simp)))); have HS4 := hideC (HKB.out _ HK4.out); have d0 : w4.cell? ⟨w3.heap.size, 0, none⟩ = some (.int .i64 0) := HS4.out.1; have d1 : w4.cell? ⟨w3.heap.size, 1, none⟩ = some (.int .i64 2) := HS4.out.2.1; have d2 : w4.cell? ⟨w3.heap.size, 2, none⟩ = some (.int .i64 5) := HS4.out.2.2.1; have d3 : w4.cell? ⟨w3.heap.size, 3, none⟩ = some (.int .i64 0) := HS4.out.2.2.2.1; have d4 : w4.cell? ⟨w3.heap.size, 4, none⟩ = some (.int .i64 0) := HS4.out.2.2.2.2.1; have d5 : w4.cell? ⟨w3.heap.size, 5, none⟩ = some (.int .i64 0) := HS4.out.2.2.2.2.2.1; have d6 : w4.cell? ⟨w3.heap.size, 6, none⟩ = some (.int .i64 0) := HS4.out.2.2.2.2.2.2.1; have d7 : w4.cell? ⟨w3.heap.size, 7, none⟩ = some (.int .i64 0) := HS4.out.2.2.2.2.2.2.2.1; have d8 : w4.cell? ⟨w3.heap.size, 8, none⟩ = some (.int .i64 16) := HS4.out.2.2.2.2.2.2.2.2.1; have d9 : w4.cell? ⟨w3.heap.size, 9, none⟩ = some (.int .i64 0) := HS4.out.2.2.2.2.2.2.2.2.2.1; have d10 : w4.cell? ⟨w3.heap.size, 10, none⟩ = some (.int .i64 0) := HS4.out.2.2.2.2.2.2.2.2.2.2.1; have d11 : w4.cell? ⟨w3.heap.size, 11, none⟩ = some (.int .i64 0) := HS4.out.2.2.2.2.2.2.2.2.2.2.2.1; have d12 : w4.cell? ⟨w3.heap.size, 12, none⟩ = some (.int .i64 0) := HS4.out.2.2.2.2.2.2.2.2.2.2.2.2; have l34 : w3.heap.size < w4.heap.size := Nat.lt_of_lt_of_le l3 HK4.out.size; clear hb4; go_simp) | (go_simp; go_at_call 12; refine (HK.out _).mono ?_; rintro e w5 ⟨rfl, hb5⟩; have HK5 : Hid (Below W.heap.size W w5) := (by first | exact HK4.out.trans (hb5.mono HK4.out.size) | exact (HK4.out.alloc HK4.out.size _).trans (hb5.mono (by rw [World.size_alloc]; exact Nat.le_succ_of_le HK4.out.size))); have l35 : w3.heap.size < w5.heap.size := Nat.lt_of_lt_of_le l3 HK5.out.size; have l25 : w2.heap.size < w5.heap.size := Nat.lt_of_lt_of_le l2 HK5.out.size; have HS5 := hideC (HKB.out _ HK5.out); have f1 : w5.cell? ⟨w3.heap.size, 1, none⟩ = some (.int .i64 2) := HS5.out.2.1; have f8 : w5.cell? ⟨w3.heap.size, 8, none⟩ = some (.int .i64 16) := HS5.out.2.2.2.2.2.2.2.2.1; have fd : w5.cell? ⟨w2.heap.size, 4, none⟩ = some (.int .i64 (-3)) := B.cell (B.below BDA.out HK5.out l2) 4 rfl; (first | (have ZZ := B.below HY.out hb5 (B.isLt HY.out); have HZZ := hideC ZZ; obtain ⟨z0, z1, z2, z3, z4, zu, zl⟩ := five ZZ; clear ZZ) | (have ZZ := B.below (B.new w4 #[.int .i64 0, .int .i64 0, .int .i64 0, .int .i64 0, .int .i64 0] 40) hb5 (by simp); have HZZ := hideC ZZ; obtain ⟨z0, z1, z2, z3, z4, zu, zl⟩ := five ZZ; clear ZZ) | skip); clear hb5; go_simp))
    all_goals
      go_wp2_with fail
      go_meet
      case rel => first | exact ⟨_, rfl, rfl, rel_mk (HK5.out.alloc HK5.out.size _) (B.new w5 _ _) BP.out BDA.out⟩ | exact ⟨_, rfl, rfl, rel_mk (set5_below HK5.out (Nat.le_refl _) _ _ _ _ _) (set5_block HZZ.out _ _ _ _ _) BP.out BDA.out⟩ | exact ⟨_, rfl, rfl, rel_mk (set5_below HK5.out HK4.out.size _ _ _ _ _) (set5_block HZZ.out _ _ _ _ _) BP.out BDA.out⟩
  case rest =>
    obtain ⟨b, rfl, rfl, q0, q1, q2, q3, q4, q5, q6, q7, bel⟩ := hcut
    have HBEL := hideC bel
    clear bel HKB HI HK BP BDA
    go_wp2
    go_ret
    exact ⟨by simp, HB3.out.trans ((HA3.out.trans (HBEL.out.mono HA3.out.size)).mono HB3.out.size)⟩
end Go.Proofs.Ytamocjifffbhpaa.PW
