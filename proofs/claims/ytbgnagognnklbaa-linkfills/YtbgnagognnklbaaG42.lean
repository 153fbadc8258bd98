import Derived.Test.YtbgnagognnklbaaG38
import Derived.Test.YtbgnagognnklbaaG41
/- The law of filling: the walk. -/
namespace Go.Proofs.Ytbgnagognnklbaa.LW
open Go.RowKit
open Go.Proofs.Ytbgnagognnklbaa.W (hideC)
set_option linter.unusedVariables false
set_option maxRecDepth 100000

set_option maxHeartbeats 6000000 in
theorem fills_any (l : List AM.Ar) (hs : List LM.Sh) (en : Int) (va : Value) (ao : Option Addr) (cap : Nat) (s : LM.Sh) (w : World) (ha : AW.Has w va l) (hf : AW.AllFit l) (h : LM.HasH w ao hs) (hfs : LM.FitHs hs) (hcap : hs.length ≤ cap) (he : M.I64 en) (hsf : LM.HasF w s.ao s.fixes) (hsx : LM.FitH s) :
    Calls Try.prog 4 #[.agg #[va, .slice ao hs.length cap, .int .i64 en], .agg (LM.cellsH s)] w fun e w' => e = .returned (.bool true) ∧ Below w.heap.size w w' := by
  obtain ⟨av, cv, hva, hdum⟩ := id ha
  clear hdum
  subst hva
  have HC : Hid (∀ V, Below w.heap.size w V → Calls Try.prog 14 #[.agg #[.slice av l.length cv, .slice ao hs.length cap, .int .i64 en]] V fun e w' => e = .returned (.int .i64 (LM.checkL l hs en)) ∧ Below V.heap.size V w') := fun V hb => check_any l hs en _ ao cap V (ha.below hb) hf (h.below hb) hfs hcap he
  have HK : Hid (∀ V, Below w.heap.size w V → Calls Try.prog 15 #[.agg #[.slice av l.length cv, .slice ao hs.length cap, .int .i64 en]] V fun e w' => e = .returned (.int .i64 (LM.checkL l hs en)) ∧ Below V.heap.size V w') := fun V hb => by
    have g := checkLinked_any l hs en _ ao cap V (ha.below hb) hf (h.below hb) hfs he
    rw [← LM.check_same] at g
    exact g
  obtain ⟨CN, hCN⟩ : ∃ CN, CN = LM.checkL l hs en := ⟨_, rfl⟩
  rw [← hCN] at HC HK
  have HF : Hid (∀ V, Below w.heap.size w V → Calls Try.prog 11 #[.agg (LM.cellsH s)] V fun e w' => e = .returned (.tuple #[.string (LM.fillN s).1, .int .i64 (LM.fillN s).2]) ∧ Below V.heap.size V w') := fun V hb => fill_any s V (hsf.below hb) hsx
  have HS : Hid (∀ V, Below w.heap.size w V → Calls Try.prog 12 #[.agg (LM.cellsH s)] V fun e w' => e = .returned (.bool (LM.sheetB s)) ∧ Below V.heap.size V w') := fun V hb => sheetFine_any s V (hsf.below hb) hsx
  have HFS : Hid (LM.sheetB s = true → ∀ V, Below w.heap.size w V → Calls Try.prog 13 #[.agg (LM.cellsH s)] V fun e w' => e = .returned (.string (LM.fillS s)) ∧ Below V.heap.size V w') := fun hb V hV => filled_any s V (hsf.below hV) hsx hb
  have HN : Hid (LM.fillN s = if LM.sheetB s then (LM.fillS s, 0) else (⟨#[]⟩, 1)) := rfl
  rw [HN.out] at HF
  have HG := hideC begun_any
  obtain ⟨FS, hFS⟩ : ∃ FS, FS = LM.fillS s := ⟨_, rfl⟩
  rw [← hFS] at HF HFS
  clear ha hf h hfs hcap he hsf hsx hCN HN hFS
  simp only [LM.cellsH] at HF HS HFS ⊢
  have HBA := hideC (((Below.refl w.heap.size w).alloc (Nat.le_refl _) (.cells #[.slice av l.length cv, .slice ao hs.length cap, .int .i64 en] 32)).alloc (by simp) (.cells #[.int .i64 s.page, .string s.data, .slice s.ao s.fixes.length s.cap] 43))
  have BL := hideC (B.alloc (B.new w #[.slice av l.length cv, .slice ao hs.length cap, .int .i64 en] 32) (.cells #[.int .i64 s.page, .string s.data, .slice s.ao s.fixes.length s.cap] 43))
  have BS0 := B.new (w.alloc (.cells #[.slice av l.length cv, .slice ao hs.length cap, .int .i64 en] 32)) #[.int .i64 s.page, .string s.data, .slice s.ao s.fixes.length s.cap] 43
  rw [World.size_alloc] at BS0
  have BS := hideC BS0
  clear BS0
  go_enter Try.func4, Try.ntmps4
  go_wp2_with fail
  refine (HF.out _ HBA.out).mono ?_
  rintro e w1 ⟨rfl, hb⟩
  have HB1 := hideC (HBA.out.trans (hb.mono HBA.out.size))
  have BL1 := hideC (B.below BL.out hb (B.isLt BL.out))
  have BS1 := hideC (B.below BS.out hb (B.isLt BS.out))
  clear hb HBA BL BS HF
  have x0 := B.cell BS1.out 0 rfl
  have x1 := B.cell BS1.out 1 rfl
  have x2 := B.cell BS1.out 2 rfl
  by_cases hsb : LM.sheetB s = true
  · have HF2 := hideC (HFS.out hsb)
    rw [hsb] at HS
    rw [if_pos hsb]
    clear HFS hsb
    go_wp2_with fail
    refine (HS.out _ HB1.out).mono ?_
    rintro e w2 ⟨rfl, hb⟩
    have HB2 := hideC (HB1.out.trans (hb.mono HB1.out.size))
    have BL2 := hideC (B.below BL1.out hb (B.isLt BL1.out))
    have BS2 := hideC (B.below BS1.out hb (B.isLt BS1.out))
    clear hb HB1 BL1 BS1 HS x0 x1 x2
    have x0 := B.cell BS2.out 0 rfl
    have x1 := B.cell BS2.out 1 rfl
    have x2 := B.cell BS2.out 2 rfl
    go_wp2_with fail
    refine (HF2.out _ HB2.out).mono ?_
    rintro e w3 ⟨rfl, hb⟩
    have HB3 := hideC (HB2.out.trans (hb.mono HB2.out.size))
    have BL3 := hideC (B.below BL2.out hb (B.isLt BL2.out))
    clear hb HB2 BL2 BS2 HF2 x0 x1 x2
    go_wp2
    have hkin := Q.kin_some w3
    have hbx := B.isLt BL3.out
    have y0 : ∀ x : Q.Kin w3.heap.size w3, x.world.cell? ⟨w.heap.size, 0, none⟩ = some (.slice av l.length cv) := fun x => by rw [Q.cell_kin x _ _ hbx]; exact B.cell BL3.out 0 rfl
    have y1 : ∀ x : Q.Kin w3.heap.size w3, x.world.cell? ⟨w.heap.size, 1, none⟩ = some (.slice ao hs.length cap) := fun x => by rw [Q.cell_kin x _ _ hbx]; exact B.cell BL3.out 1 rfl
    have y2 : ∀ x : Q.Kin w3.heap.size w3, x.world.cell? ⟨w.heap.size, 2, none⟩ = some (.int .i64 en) := fun x => by rw [Q.cell_kin x _ _ hbx]; exact B.cell BL3.out 2 rfl
    have HG2 : Hid (∀ V, Below w3.heap.size w3 V → Calls Try.prog 9 #[] V fun e w' => e = .returned (.bool true) ∧ Below V.heap.size V w') := fun V _ => HG.out V
    have HC2 : Hid (∀ V, Below w3.heap.size w3 V → Calls Try.prog 14 #[.agg #[.slice av l.length cv, .slice ao hs.length cap, .int .i64 en]] V fun e w' => e = .returned (.int .i64 CN) ∧ Below V.heap.size V w') := fun V hb => HC.out V (HB3.out.trans (hb.mono HB3.out.size))
    have HK2 : Hid (∀ V, Below w3.heap.size w3 V → Calls Try.prog 15 #[.agg #[.slice av l.length cv, .slice ao hs.length cap, .int .i64 en]] V fun e w' => e = .returned (.int .i64 CN) ∧ Below V.heap.size V w') := fun V hb => HK.out V (HB3.out.trans (hb.mono HB3.out.size))
    clear HG HC HK
    refine Q.region_kin (by kernel_rfl) (by kernel_rfl) ?_
    repeat (first | go_big_quiet_step ((first | (go_at_call 9; exact calls_kin _ HG2.out) | (go_at_call 14; exact calls_kin _ HC2.out) | (go_at_call 15; exact calls_kin _ HK2.out))) | quiet_step ((first | (go_at_call 9; exact calls_kin _ HG2.out) | (go_at_call 14; exact calls_kin _ HC2.out) | (go_at_call 15; exact calls_kin _ HK2.out))))
    refine wpQuiet_nil ?_
    intro _ hw'
    obtain ⟨x, hw''⟩ := hw'
    subst hw''
    go_wp2
    go_ret
    exact ⟨by simp, HB3.out.trans (x.keeps.mono HB3.out.size)⟩
  · rw [if_neg hsb]
    have hsb' : LM.sheetB s = false := by simpa using hsb
    rw [hsb'] at HS
    clear HFS hsb hsb'
    go_wp2_with fail
    refine (HS.out _ HB1.out).mono ?_
    rintro e w2 ⟨rfl, hb⟩
    have HB3 := hideC (HB1.out.trans (hb.mono HB1.out.size))
    have BL3 := hideC (B.below BL1.out hb (B.isLt BL1.out))
    clear hb HB1 BL1 BS1 HS x0 x1 x2
    go_wp2
    have hkin := Q.kin_some w2
    have hbx := B.isLt BL3.out
    have y0 : ∀ x : Q.Kin w2.heap.size w2, x.world.cell? ⟨w.heap.size, 0, none⟩ = some (.slice av l.length cv) := fun x => by rw [Q.cell_kin x _ _ hbx]; exact B.cell BL3.out 0 rfl
    have y1 : ∀ x : Q.Kin w2.heap.size w2, x.world.cell? ⟨w.heap.size, 1, none⟩ = some (.slice ao hs.length cap) := fun x => by rw [Q.cell_kin x _ _ hbx]; exact B.cell BL3.out 1 rfl
    have y2 : ∀ x : Q.Kin w2.heap.size w2, x.world.cell? ⟨w.heap.size, 2, none⟩ = some (.int .i64 en) := fun x => by rw [Q.cell_kin x _ _ hbx]; exact B.cell BL3.out 2 rfl
    have HG2 : Hid (∀ V, Below w2.heap.size w2 V → Calls Try.prog 9 #[] V fun e w' => e = .returned (.bool true) ∧ Below V.heap.size V w') := fun V _ => HG.out V
    have HC2 : Hid (∀ V, Below w2.heap.size w2 V → Calls Try.prog 14 #[.agg #[.slice av l.length cv, .slice ao hs.length cap, .int .i64 en]] V fun e w' => e = .returned (.int .i64 CN) ∧ Below V.heap.size V w') := fun V hb => HC.out V (HB3.out.trans (hb.mono HB3.out.size))
    have HK2 : Hid (∀ V, Below w2.heap.size w2 V → Calls Try.prog 15 #[.agg #[.slice av l.length cv, .slice ao hs.length cap, .int .i64 en]] V fun e w' => e = .returned (.int .i64 CN) ∧ Below V.heap.size V w') := fun V hb => HK.out V (HB3.out.trans (hb.mono HB3.out.size))
    clear HG HC HK
    refine Q.region_kin (by kernel_rfl) (by kernel_rfl) ?_
    repeat (first | go_big_quiet_step ((first | (go_at_call 9; exact calls_kin _ HG2.out) | (go_at_call 14; exact calls_kin _ HC2.out) | (go_at_call 15; exact calls_kin _ HK2.out))) | quiet_step ((first | (go_at_call 9; exact calls_kin _ HG2.out) | (go_at_call 14; exact calls_kin _ HC2.out) | (go_at_call 15; exact calls_kin _ HK2.out))))
    refine wpQuiet_nil ?_
    intro _ hw'
    obtain ⟨x, hw''⟩ := hw'
    subst hw''
    go_wp2
    go_ret
    exact ⟨by simp, HB3.out.trans (x.keeps.mono HB3.out.size)⟩
end Go.Proofs.Ytbgnagognnklbaa.LW
