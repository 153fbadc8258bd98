import Derived.Test.YtbgnagognnklbaaG10
/- The linker: Check. -/
namespace Go.Proofs.Ytbgnagognnklbaa.LW
open Go.RowKit
open Go.Proofs.Ytbgnagognnklbaa.W (hideC)
set_option linter.unusedVariables false
set_option maxRecDepth 100000

theorem ret_int {k : IntKind} {a b : Int} (h : a = b) : Ending.returned (.int k a) = .returned (.int k b) := by rw [h]
set_option maxHeartbeats 3000000 in
theorem rightEntry_any (l : List AM.Ar) (va vs : Value) (en : Int) (w : World) (ha : AW.Has w va l) (hf : AW.AllFit l) (hc : AM.checkN l = 0) (he : M.I64 en) (hva : ∃ ao n c, va = .slice ao n c) (hvs : ∃ ao n c, vs = .slice ao n c) :
    Calls Try.prog 43 #[.agg #[va, vs, .int .i64 en]] w fun e w' => e = .returned (.bool (LM.entB l en)) ∧ Below w.heap.size w w' := by
  have HFN : Hid (AM.findN l (en.tdiv 16) = AM.findFrom l (en.tdiv 16)) := by show _ = _; simp [AM.findN, hc]
  have HPR := hideC (LM.found_prot l hc (en.tdiv 16))
  have HE : Hid (LM.entB l en = ((AM.findFrom l (en.tdiv 16)).2 && (decide (2 ≤ (AM.findFrom l (en.tdiv 16)).1.prot) && decide (en.tmod 8 = 0)))) := rfl
  have HFD : Hid (∀ W, Below w.heap.size w W → Calls Try.prog 66 #[va, .int .i64 (en.tdiv 16)] W fun e w' => e = .returned (.tuple #[.agg (AW.cellsOf (AM.findFrom l (en.tdiv 16)).1), .bool (AM.findFrom l (en.tdiv 16)).2]) ∧ Below W.heap.size W w') := fun W hb => by
    have h := AW.find_any l va (en.tdiv 16) W (ha.below hb) hf
    rw [HFN.out] at h
    exact h
  obtain ⟨r, hr⟩ : ∃ r, r = AM.findFrom l (en.tdiv 16) := ⟨_, rfl⟩
  rw [← hr] at HPR HE HFD
  clear hr HFN ha hf hc
  obtain ⟨⟨pg, pn, pr, zr⟩, ok⟩ := r
  simp only [AW.cellsOf] at HFD HPR HE
  obtain ⟨aa, na, ca, rfl⟩ := hva
  obtain ⟨ao, no, co, rfl⟩ := hvs
  unfold M.I64 at he
  have HB := hideC ((Below.refl w.heap.size w).alloc (Nat.le_refl _) (.cells #[.slice aa na ca, .slice ao no co, .int .i64 en] 32))
  have BX := hideC (B.new w #[.slice aa na ca, .slice ao no co, .int .i64 en] 32)
  rw [HE.out]
  cases ok with
  | false =>
    go_enter Try.func43, Try.ntmps43
    go_wp2_with (go_at_call 66; refine (HFD.out _ HB.out).mono ?_; rintro e w1 ⟨rfl, hb⟩; have HB := hideC (HB.out.trans (hb.mono HB.out.size)); clear hb)
    go_ret
    exact ⟨rfl, HB.out.alloc HB.out.size _⟩
  | true =>
    have hpr := LM.prot_cases (HPR.out rfl)
    have b0 : bits BinOp.and IntKind.i64 0 2 = 0 := by decide
    have b1 : bits BinOp.and IntKind.i64 1 2 = 0 := by decide
    have b2 : bits BinOp.and IntKind.i64 2 2 = 2 := by decide
    have b3 : bits BinOp.and IntKind.i64 3 2 = 2 := by decide
    clear HPR
    by_cases h8 : en.tmod 8 = 0
    · rcases hpr with rfl | rfl | rfl | rfl
      all_goals
        go_enter Try.func43, Try.ntmps43
        go_wp2_with (go_at_call 66; refine (HFD.out _ HB.out).mono ?_; rintro e w1 ⟨rfl, hb⟩; have HB := hideC (HB.out.trans (hb.mono HB.out.size)); have BX := hideC (B.below BX.out hb (B.isLt BX.out)); have hbx := B.isLt BX.out; have x2 := B.cell BX.out 2 rfl; clear hb)
        go_ret
        exact ⟨ret_bool (by simp [h8]), HB.out.alloc HB.out.size _⟩
    · have h8' : (en.tmod 8 == 0) = false := by simpa using h8
      rcases hpr with rfl | rfl | rfl | rfl
      all_goals
        go_enter Try.func43, Try.ntmps43
        go_wp2_with (go_at_call 66; refine (HFD.out _ HB.out).mono ?_; rintro e w1 ⟨rfl, hb⟩; have HB := hideC (HB.out.trans (hb.mono HB.out.size)); have BX := hideC (B.below BX.out hb (B.isLt BX.out)); have hbx := B.isLt BX.out; have x2 := B.cell BX.out 2 rfl; clear hb)
        go_ret
        exact ⟨ret_bool (by simp [h8]), HB.out.alloc HB.out.size _⟩

theorem isSlice {w : World} {v : Value} {l : List AM.Ar} (h : AW.Has w v l) : ∃ ao n c, v = .slice ao n c := by
  obtain ⟨ao, cap, h, _⟩ := h
  exact ⟨ao, _, cap, h⟩
set_option maxHeartbeats 3000000 in
theorem check_any (l : List AM.Ar) (hs : List LM.Sh) (en : Int) (va : Value) (ao : Option Addr) (cap : Nat) (w : World) (ha : AW.Has w va l) (hf : AW.AllFit l) (h : LM.HasH w ao hs) (hfs : LM.FitHs hs) (hcap : hs.length ≤ cap) (he : M.I64 en) :
    Calls Try.prog 14 #[.agg #[va, .slice ao hs.length cap, .int .i64 en]] w fun e w' => e = .returned (.int .i64 (LM.checkL l hs en)) ∧ Below w.heap.size w w' := by
  have HCK : Hid (∀ W, Below w.heap.size w W → Calls Try.prog 39 #[va] W fun e w' => e = .returned (.int .i64 (AM.checkN l)) ∧ Below W.heap.size W w') := fun W hb => AW.check_any l va W (ha.below hb) hf
  have HZ : Hid (∀ W, Below w.heap.size w W → Calls Try.prog 40 #[va] W fun e w' => e = .returned (.bool (LM.anyZeroB l)) ∧ Below W.heap.size W w') := fun W hb => anyZero_any l va W (ha.below hb) hf
  have HEA : Hid (AM.checkN l = 0 → ∀ W, Below w.heap.size w W → Calls Try.prog 41 #[.agg #[va, .slice ao hs.length cap, .int .i64 en]] W fun e w' => e = .returned (.bool (LM.forEachB l hs)) ∧ Below W.heap.size W w') := fun hc W hb => forEach_any l hs en va ao cap W (ha.below hb) hc (h.below hb) hfs.1 hcap
  have HSH : Hid (∀ W, Below w.heap.size w W → Calls Try.prog 42 #[.slice ao hs.length cap] W fun e w' => e = .returned (.bool (LM.sheetsB hs)) ∧ Below W.heap.size W w') := fun W hb => rightSheets_any hs ao cap W (h.below hb) hfs
  have HEN : Hid (AM.checkN l = 0 → ∀ W, Below w.heap.size w W → Calls Try.prog 43 #[.agg #[va, .slice ao hs.length cap, .int .i64 en]] W fun e w' => e = .returned (.bool (LM.entB l en)) ∧ Below W.heap.size W w') := fun hc W hb => rightEntry_any l va _ en W (ha.below hb) hf hc he (isSlice ha) ⟨_, _, _, rfl⟩
  have HR : Hid (LM.checkL l hs en = if AM.checkN l = 0 then (if !LM.anyZeroB l && (LM.forEachB l hs && (LM.sheetsB hs && LM.entB l en)) then 0 else 1) else AM.checkN l) := rfl
  obtain ⟨aa, na, ca, rfl⟩ := isSlice ha
  clear ha hf h hfs hcap he
  obtain ⟨N, hN⟩ : ∃ N, N = hs.length := ⟨_, rfl⟩
  rw [← hN] at HEA HSH HEN
  rw [← hN]
  obtain ⟨z, hz⟩ : ∃ z, z = LM.anyZeroB l := ⟨_, rfl⟩
  rw [← hz] at HZ HR
  obtain ⟨q, hq⟩ : ∃ q, q = LM.forEachB l hs := ⟨_, rfl⟩
  rw [← hq] at HEA HR
  obtain ⟨s, hs'⟩ : ∃ s, s = LM.sheetsB hs := ⟨_, rfl⟩
  rw [← hs'] at HSH HR
  obtain ⟨r, hr⟩ : ∃ r, r = LM.entB l en := ⟨_, rfl⟩
  rw [← hr] at HEN HR
  obtain ⟨C, hC⟩ : ∃ C, C = AM.checkN l := ⟨_, rfl⟩
  rw [← hC] at HCK HEA HEN HR
  rw [HR.out]
  clear hN hz hq hs' hr hC HR
  have HB := hideC ((Below.refl w.heap.size w).alloc (Nat.le_refl _) (.cells #[.slice aa na ca, .slice ao N cap, .int .i64 en] 32))
  have BX := hideC (B.new w #[.slice aa na ca, .slice ao N cap, .int .i64 en] 32)
  by_cases hc : C = 0
  · subst hc
    have HEA1 := hideC (HEA.out rfl)
    have HEN1 := hideC (HEN.out rfl)
    clear HEA HEN
    rw [if_pos rfl]
    cases z <;> cases q <;> cases s <;> cases r
    all_goals
      go_enter Try.func14, Try.ntmps14
      go_wp2_with (first
        | (go_at_call 39; refine (HCK.out _ HB.out).mono ?_; rintro e w1 ⟨rfl, hb⟩; have HB := hideC (HB.out.trans (hb.mono HB.out.size)); have BX := hideC (B.below BX.out hb (B.isLt BX.out)); have x0 := B.cell BX.out 0 rfl; have x1 := B.cell BX.out 1 rfl; have x2 := B.cell BX.out 2 rfl; clear hb)
        | (go_at_call 40; refine (HZ.out _ HB.out).mono ?_; rintro e w1 ⟨rfl, hb⟩; have HB := hideC (HB.out.trans (hb.mono HB.out.size)); have BX := hideC (B.below BX.out hb (B.isLt BX.out)); have x0 := B.cell BX.out 0 rfl; have x1 := B.cell BX.out 1 rfl; have x2 := B.cell BX.out 2 rfl; clear hb)
        | (go_at_call 41; refine (HEA1.out _ HB.out).mono ?_; rintro e w1 ⟨rfl, hb⟩; have HB := hideC (HB.out.trans (hb.mono HB.out.size)); have BX := hideC (B.below BX.out hb (B.isLt BX.out)); have x0 := B.cell BX.out 0 rfl; have x1 := B.cell BX.out 1 rfl; have x2 := B.cell BX.out 2 rfl; clear hb)
        | (go_at_call 42; refine (HSH.out _ HB.out).mono ?_; rintro e w1 ⟨rfl, hb⟩; have HB := hideC (HB.out.trans (hb.mono HB.out.size)); have BX := hideC (B.below BX.out hb (B.isLt BX.out)); have x0 := B.cell BX.out 0 rfl; have x1 := B.cell BX.out 1 rfl; have x2 := B.cell BX.out 2 rfl; clear hb)
        | (go_at_call 43; refine (HEN1.out _ HB.out).mono ?_; rintro e w1 ⟨rfl, hb⟩; have HB := hideC (HB.out.trans (hb.mono HB.out.size)); clear hb))
      go_ret
      exact ⟨rfl, HB.out⟩
  · have hc' : (C == 0) = false := by simpa using hc
    rw [if_neg hc]
    go_enter Try.func14, Try.ntmps14
    go_wp2_with (go_at_call 39; refine (HCK.out _ HB.out).mono ?_; rintro e w1 ⟨rfl, hb⟩; have HB := hideC (HB.out.trans (hb.mono HB.out.size)); clear hb)
    go_ret
    exact ⟨rfl, HB.out⟩
end Go.Proofs.Ytbgnagognnklbaa.LW
