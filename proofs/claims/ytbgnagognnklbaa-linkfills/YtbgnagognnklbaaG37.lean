import Derived.Test.YtbgnagognnklbaaG36
import Derived.Deep.RegionLaw
import Derived.Test.YtbgnagognnklbaaG34
namespace Go.Proofs.Ytbgnagognnklbaa.W
open Go.RowKit
set_option linter.unusedVariables false
set_option maxRecDepth 100000

def le (k : Nat) (n : Int) : ByteArray := ⟨(Lib.leBytes k (CM.low n)).toArray⟩
theorem le_size (k : Nat) (n : Int) : (le k n).size = k := by
  unfold le
  rw [Lib.size_eq]
  simp [Lib.leBytes_length]
def instrB (o m : Int) : ByteArray := (((le 1 o ++ le 1 0) ++ le 1 0) ++ le 1 0) ++ le 4 m

set_option maxHeartbeats 1500000 in
theorem instr_any (o m : Int) (w : World) : Calls Try.prog 61 #[.agg #[.int .i64 o, .int .i64 0, .int .i64 0, .int .i64 0, .int .i64 m]] w fun e w' => e = .returned (.string (instrB o m)) ∧ Below w.heap.size w w' := by
  have HB0 := hideC ((Below.refl w.heap.size w).alloc (Nat.le_refl _) (.cells #[.int .i64 o, .int .i64 0, .int .i64 0, .int .i64 0, .int .i64 m] 121))
  have BX := hideC (B.new w #[.int .i64 o, .int .i64 0, .int .i64 0, .int .i64 0, .int .i64 m] 121)
  obtain ⟨W, hW⟩ : ∃ W, W = w.alloc (.cells #[.int .i64 o, .int .i64 0, .int .i64 0, .int .i64 0, .int .i64 m] 121) := ⟨_, rfl⟩
  have HW := hideC hW
  rw [← hW] at HB0 BX
  have hkin := Q.kin_some W
  have hwl := B.isLt BX.out
  have k0 : ∀ x : Q.Kin W.heap.size W, x.world.cell? ⟨w.heap.size, 0, none⟩ = some (.int .i64 o) := fun x => by rw [Q.cell_kin x _ _ hwl]; exact B.cell BX.out 0 rfl
  have k1 : ∀ x : Q.Kin W.heap.size W, x.world.cell? ⟨w.heap.size, 1, none⟩ = some (.int .i64 0) := fun x => by rw [Q.cell_kin x _ _ hwl]; exact B.cell BX.out 1 rfl
  have k2 : ∀ x : Q.Kin W.heap.size W, x.world.cell? ⟨w.heap.size, 2, none⟩ = some (.int .i64 0) := fun x => by rw [Q.cell_kin x _ _ hwl]; exact B.cell BX.out 2 rfl
  have k3 : ∀ x : Q.Kin W.heap.size W, x.world.cell? ⟨w.heap.size, 3, none⟩ = some (.int .i64 0) := fun x => by rw [Q.cell_kin x _ _ hwl]; exact B.cell BX.out 3 rfl
  have k4 : ∀ x : Q.Kin W.heap.size W, x.world.cell? ⟨w.heap.size, 4, none⟩ = some (.int .i64 m) := fun x => by rw [Q.cell_kin x _ _ hwl]; exact B.cell BX.out 4 rfl
  have hA : ∀ V, Calls Try.prog 48 #[.int .i64 o, .int .i64 1] V fun e w' => e = .returned (.string (le 1 o)) ∧ Below V.heap.size V w' := fun U => CW.bytes_any o 1 U (by omega)
  have hZ : ∀ V, Calls Try.prog 48 #[.int .i64 0, .int .i64 1] V fun e w' => e = .returned (.string (le 1 0)) ∧ Below V.heap.size V w' := fun U => CW.bytes_any 0 1 U (by omega)
  have hM : ∀ V, Calls Try.prog 48 #[.int .i64 m, .int .i64 4] V fun e w' => e = .returned (.string (le 4 m)) ∧ Below V.heap.size V w' := fun U => CW.bytes_any m 4 U (by omega)
  have s1 := le_size 1 o
  have s2 := le_size 1 0
  have s3 := le_size 4 m
  have HR : Hid (instrB o m = (((le 1 o ++ le 1 0) ++ le 1 0) ++ le 1 0) ++ le 4 m) := rfl
  rw [HR.out]
  obtain ⟨A1, h1⟩ : ∃ A, A = le 1 o := ⟨_, rfl⟩
  obtain ⟨A2, h2⟩ : ∃ A, A = le 1 0 := ⟨_, rfl⟩
  obtain ⟨A3, h3⟩ : ∃ A, A = le 4 m := ⟨_, rfl⟩
  rw [← h1] at hA s1
  rw [← h2] at hZ s2
  rw [← h3] at hM s3
  rw [← h1, ← h2, ← h3]
  have HA := hideC hA
  have HZ := hideC hZ
  have HM := hideC hM
  have t1 : (A1 ++ A2).size = 2 := by rw [ByteArray.size_append, s1, s2]
  have t2 : (A1 ++ A2 ++ A2).size = 3 := by rw [ByteArray.size_append, t1, s2]
  have t3 : (A1 ++ A2 ++ A2 ++ A2).size = 4 := by rw [ByteArray.size_append, t2, s2]
  clear h1 h2 h3 hA hZ hM hW
  go_enter Try.func61, Try.ntmps61
  go_wp2
  rw [← HW.out]
  refine Q.region_kin (by kernel_rfl) (by kernel_rfl) ?_
  repeat (first | go_big_quiet_step ((go_at_call 48; first | with_reducible exact Q.calls_kin HA.out _ | with_reducible exact Q.calls_kin HZ.out _ | with_reducible exact Q.calls_kin HM.out _)) | quiet_step ((go_at_call 48; first | with_reducible exact Q.calls_kin HA.out _ | with_reducible exact Q.calls_kin HZ.out _ | with_reducible exact Q.calls_kin HM.out _)))
  refine wpQuiet_nil ?_
  intro _ hw'
  obtain ⟨x, hw''⟩ := hw'
  subst hw''
  go_wp2
  go_ret
  exact ⟨rfl, HB0.out.trans (x.keeps.mono HB0.out.size)⟩
end Go.Proofs.Ytbgnagognnklbaa.W
namespace Go.Proofs.Ytbgnagognnklbaa.W
open Go.RowKit
set_option linter.unusedVariables false
set_option maxRecDepth 100000

def set6 (w : World) (g : Nat) (v0 v1 v2 v3 v4 v5 : Value) : World :=
  (((((w.setCell ⟨g, 0, none⟩ v0).setCell ⟨g, 1, none⟩ v1).setCell ⟨g, 2, none⟩ v2).setCell ⟨g, 3, none⟩ v3).setCell ⟨g, 4, none⟩ v4).setCell ⟨g, 5, none⟩ v5
theorem set6_below {N g : Nat} {w W : World} (h : Below N w W) (hg : N ≤ g) (v0 v1 v2 v3 v4 v5 : Value) : Below N w (set6 W g v0 v1 v2 v3 v4 v5) :=
  (((((h.setCell (p := ⟨g, 0, none⟩) hg v0).setCell (p := ⟨g, 1, none⟩) hg v1).setCell (p := ⟨g, 2, none⟩) hg v2).setCell (p := ⟨g, 3, none⟩) hg v3).setCell (p := ⟨g, 4, none⟩) hg v4).setCell (p := ⟨g, 5, none⟩) hg v5
def tinyD : ByteArray := instrB 1 7 ++ instrB 16 6
theorem instrB_size (o m : Int) : (instrB o m).size = 8 := by
  unfold instrB
  simp only [ByteArray.size_append, le_size]
theorem tinyD_size : tinyD.size = 16 := by
  unfold tinyD
  rw [ByteArray.size_append, instrB_size, instrB_size]
def tinyI : M.Im := ⟨⟨#[116]⟩, [], [⟨0, 1, tinyD, false, true⟩], [], [], 0⟩
theorem tiny_chk : M.chkN tinyI = 0 := by
  have h1 : M.namesB tinyI = true := by unfold M.namesB tinyI; rfl
  have h2 : M.countsB tinyI = true := rfl
  have h3 : M.rangesB tinyI = true := by
    unfold M.rangesB tinyI
    simp only [List.all_cons, List.all_nil, Bool.and_true]
    exact decide_eq_true (by rw [tinyD_size]; decide)
  have h4 : M.thereB tinyI = true := rfl
  have h5 : M.placesB tinyI = true := rfl
  unfold M.chkN
  rw [h1, h2, h3, h4, h5]
  rfl
theorem tiny_fit : M.Fit tinyI := by
  refine ⟨by unfold M.Short tinyI; decide, by unfold M.Short tinyI; decide, fun k hk => absurd hk (by unfold tinyI; simp), by unfold M.Short tinyI; decide, fun k hk => ?_, by unfold M.Short tinyI; decide, fun k hk => absurd hk (by unfold tinyI; simp), by unfold M.Short tinyI; decide, fun k hk => absurd hk (by unfold tinyI; simp), by unfold M.I64 tinyI; decide⟩
  have : k = 0 := by unfold tinyI at hk; simp at hk; omega
  subst this
  exact ⟨by unfold M.I64 tinyI M.sgAt; decide, by unfold M.I64 tinyI M.sgAt; decide, by unfold M.Short; show tinyD.size ≤ _; rw [tinyD_size]; decide⟩

set_option maxHeartbeats 1500000 in
theorem tiny_any (w : World) : Calls Try.prog 31 #[] w fun e w' => (∃ a, e = .returned (.agg (M.cellsI a tinyI)) ∧ M.HasIm w' a tinyI) ∧ Below w.heap.size w w' := by
  have HB0 := hideC ((Below.refl w.heap.size w).alloc (Nat.le_refl _) (.cells #[.string ⟨#[]⟩, .slice none 0 0, .slice none 0 0, .slice none 0 0, .slice none 0 0, .int .i64 0] 27))
  have BX := hideC (B.new w #[.string ⟨#[]⟩, .slice none 0 0, .slice none 0 0, .slice none 0 0, .slice none 0 0, .int .i64 0] 27)
  have H1 := hideC (instr_any 1 7)
  have H2 := hideC (instr_any 16 6)
  have s1 := instrB_size 1 7
  have s2 := instrB_size 16 6
  have HD : Hid (tinyD = instrB 1 7 ++ instrB 16 6) := rfl
  obtain ⟨A1, h1⟩ : ∃ A, A = instrB 1 7 := ⟨_, rfl⟩
  obtain ⟨A2, h2⟩ : ∃ A, A = instrB 16 6 := ⟨_, rfl⟩
  rw [← h1] at H1 s1
  rw [← h2] at H2 s2
  rw [← h1, ← h2] at HD
  clear h1 h2
  have t1 : (A1 ++ A2).size = 16 := by rw [ByteArray.size_append, s1, s2]
  go_enter Try.func31, Try.ntmps31
  go_wp2_with (first | (go_at_call 61; have _ := FIRST; refine (H2.out _).mono ?_; rintro e w2 ⟨rfl, hb⟩; have HB := hideC (HB.out.trans (hb.mono HB.out.size)); have BX := hideC (B.below BX.out hb (B.isLt BX.out)); have y0 := B.cell BX.out 0 rfl; have y1 := B.cell BX.out 1 rfl; have y2 := B.cell BX.out 2 rfl; have y3 := B.cell BX.out 3 rfl; have y4 := B.cell BX.out 4 rfl; have y5 := B.cell BX.out 5 rfl; have yf := B.free BX.out; have hwl := B.isLt BX.out; clear hb) | (go_at_call 61; refine (H1.out _).mono ?_; rintro e w1 ⟨rfl, hb⟩; have FIRST := trivial; have HB := hideC (HB0.out.trans (hb.mono HB0.out.size)); have BX := hideC (B.below BX.out hb (B.isLt BX.out)); clear hb))
  have FB := hideC ((set6_below HB.out (Nat.le_refl w.heap.size) (.string ⟨#[116]⟩) (.slice none 0 0) (.slice (some ⟨w2.heap.size, 0, none⟩) 1 1) (.slice none 0 0) (.slice none 0 0) (.int .i64 0)).alloc (by have := (set6_below HB.out (Nat.le_refl w.heap.size) (.string ⟨#[116]⟩) (.slice none 0 0) (.slice (some ⟨w2.heap.size, 0, none⟩) 1 1) (.slice none 0 0) (.slice none 0 0) (.int .i64 0)).size; exact this) (.cells #[.int .i64 0, .int .i64 1, .string (A1 ++ A2), .bool false, .bool true] 79))
  have NB := B.new (set6 w2 w.heap.size (.string ⟨#[116]⟩) (.slice none 0 0) (.slice (some ⟨w2.heap.size, 0, none⟩) 1 1) (.slice none 0 0) (.slice none 0 0) (.int .i64 0)) #[.int .i64 0, .int .i64 1, .string (A1 ++ A2), .bool false, .bool true] 79
  rw [show (set6 w2 w.heap.size (.string ⟨#[116]⟩) (.slice none 0 0) (.slice (some ⟨w2.heap.size, 0, none⟩) 1 1) (.slice none 0 0) (.slice none 0 0) (.int .i64 0)).heap.size = w2.heap.size by simp [set6]] at NB
  refine bodyPost_ret (v := .agg #[.string ⟨#[116]⟩, .slice none 0 0, .slice (some ⟨w2.heap.size, 0, none⟩) 1 1, .slice none 0 0, .slice none 0 0, .int .i64 0]) (by simp [results, Try.results31, go_sem, y0, y1, y2, y3, y4, y5, hwl]) rfl ⟨⟨⟨none, 0, some ⟨w2.heap.size, 0, none⟩, 1, none, 0, none, 0⟩, rfl, ⟨fun h => absurd h (by decide), fun _ => ⟨w2.heap.size, 0, rfl, B.isLt NB, fun i hi => ?_⟩, fun h => absurd h (by decide), fun h => absurd h (by decide)⟩⟩, FB.out⟩
  obtain rfl : i = 0 := by
    have : i < 1 := hi
    omega
  refine ⟨B.cell NB 0 rfl, B.cell NB 1 rfl, ?_, B.cell NB 3 rfl, B.cell NB 4 rfl⟩
  show _ = some (Value.string tinyD)
  rw [HD.out]
  exact B.cell NB 2 rfl

end Go.Proofs.Ytbgnagognnklbaa.W
/- The tiny image, linked; plain Lean. -/
namespace Go.Proofs.Ytbgnagognnklbaa.LM
open Go.RowKit
set_option linter.unusedVariables false
set_option maxRecDepth 100000

theorem tiny_by (a : M.At) : byErr [⟨W.tinyI, a⟩] = 0 := by
  unfold byErr
  have h : errTo [⟨W.tinyI, a⟩] [(⟨W.tinyI, a⟩ : Li)].length = 0 := by
    show (if (0 : Int) = 0 then M.chkN W.tinyI else 0) = 0
    rw [if_pos rfl]
    exact W.tiny_chk
  rw [if_pos h]
  rfl
theorem tiny_gat (a : M.At) : gat [⟨W.tinyI, a⟩] [(⟨W.tinyI, a⟩ : Li)].length 0 [0] = some [0] := rfl
theorem tiny_obs (a : M.At) : obsFrom [⟨W.tinyI, a⟩] 1 [0] = [⟨W.tinyI, a, 1⟩] := rfl
theorem tiny_end (a : M.At) : endFrom [⟨W.tinyI, a⟩] 1 [0] = 2 := rfl
theorem over_all (s d : ByteArray) (h : s.size = d.size) : CL.over s 0 d = d := by
  unfold CL.over
  rw [List.take_zero, List.nil_append, Nat.zero_add, List.drop_eq_nil_of_le (by rw [← Lib.size_eq, h]; exact Nat.le_refl _), List.append_nil, Array.toArray_toList]
theorem tiny_page : pageN ⟨0, 1, W.tinyD, false, true⟩ 0 = W.tinyD := by
  unfold pageN
  have e : W.tinyD.extract (min (0 * 16) W.tinyD.size) (min (min (0 * 16) W.tinyD.size + 16) W.tinyD.size) = W.tinyD := by
    rw [show min (0 * 16) W.tinyD.size = 0 by omega, show min (0 + 16) W.tinyD.size = W.tinyD.size by rw [W.tinyD_size]; rfl]
    exact ByteArray.extract_zero_size
  rw [show (⟨0, 1, W.tinyD, false, true⟩ : M.Sg).data = W.tinyD from rfl, e]
  exact over_all _ _ (by rw [zeros16_size, W.tinyD_size])
theorem tiny_sheets (a : M.At) : sheetsN [⟨W.tinyI, a, 1⟩] = some [⟨1, W.tinyD, []⟩] := by
  show some ([] ++ ([] ++ [(⟨1, pageN ⟨0, 1, W.tinyD, false, true⟩ 0, []⟩ : Sp)])) = _
  rw [tiny_page]
  rfl
theorem tiny_areas (a : M.At) : areasN [⟨W.tinyI, a, 1⟩] = [⟨1, 1, 2, false⟩] := by
  unfold areasN
  show (AW.mapN [] 1 1 2).1.map clr = _
  kernel_rfl
theorem tiny_err (a : M.At) : linkErr [⟨W.tinyI, a⟩] = 0 := by
  unfold linkErr
  rw [if_neg (by simp), if_pos (tiny_by a), tiny_gat]
  dsimp only
  rw [tiny_end, if_neg (by decide), tiny_obs, tiny_sheets]
end Go.Proofs.Ytbgnagognnklbaa.LM
/- The tiny image, linked: how it ends. -/
namespace Go.Proofs.Ytbgnagognnklbaa.LW
open Go.RowKit
open Go.Proofs.Ytbgnagognnklbaa.W (hideC)
set_option linter.unusedVariables false
set_option maxRecDepth 100000

def tinyS (af : Option Addr) (cf : Nat) : LM.Sh := ⟨1, W.tinyD, [], af, cf⟩
theorem tiny_out {a : M.At} {w w' : World} {e : Ending} (h : OutL [⟨W.tinyI, a⟩] w e w') : Below w.heap.size w w' ∧ ∃ (ar ah : Option Addr) (cr ch : Nat) (af : Option Addr) (cf : Nat), e = .returned (.tuple #[.agg #[.slice ar 1 cr, .slice ah 1 ch, .int .i64 16], .int .i64 0]) ∧ AW.Own w.heap.size w' (.slice ar 1 cr) [⟨1, 1, 2, false⟩] ∧ LM.HasH w' ah [tinyS af cf] ∧ 1 ≤ ch := by
  obtain ⟨hb, h2⟩ := h
  refine ⟨hb, ?_⟩
  rw [if_pos (LM.tiny_err a)] at h2
  obtain ⟨ix, E, r, hs, ao, cap, h3, h4, h5, h6, h7, h8, h9⟩ := h2
  rw [LM.tiny_gat] at h3
  injection h3 with h3
  subst h3
  rw [LM.tiny_obs] at h4 h6 h7
  rw [LM.tiny_sheets] at h4
  injection h4 with h4
  subst h4
  rw [LM.tiny_areas] at h7
  obtain ⟨s, rfl⟩ : ∃ s, hs = [s] := List.length_eq_one_iff.1 (by have := congrArg List.length h5; simpa using this)
  obtain ⟨pg, dt, fs, af, cf⟩ := s
  simp only [List.map_cons, List.map_nil, LM.plain, List.cons.injEq, LM.Sp.mk.injEq, and_true] at h5
  obtain ⟨rfl, rfl, rfl⟩ := h5
  obtain ⟨ar, cr, hr, _⟩ := own_slice h7
  subst hr
  exact ⟨ar, ao, cr, cap, af, cf, h6, h7, h8, h9⟩
theorem tiny_sheetB (af : Option Addr) (cf : Nat) : LM.sheetB (tinyS af cf) = true := by
  unfold LM.sheetB LM.headB tinyS
  simp only [W.tinyD_size]
  rfl
theorem tiny_fill (af : Option Addr) (cf : Nat) : LM.fillN (tinyS af cf) = (W.tinyD, 0) := by
  unfold LM.fillN
  rw [tiny_sheetB]
  rfl
theorem tiny_check (af : Option Addr) (cf : Nat) : LM.checkL [⟨1, 1, 2, false⟩] [tinyS af cf] 16 = 0 := by
  unfold LM.checkL
  rw [if_pos (by rfl), if_pos]
  have h1 : LM.anyZeroB [⟨1, 1, 2, false⟩] = false := rfl
  have h2 : LM.forEachB [⟨1, 1, 2, false⟩] [tinyS af cf] = true := by rfl
  have h3 : LM.sheetsB [tinyS af cf] = true := by
    show (true && LM.sheetB (tinyS af cf)) = true
    rw [tiny_sheetB]
    rfl
  have h4 : LM.entB [⟨1, 1, 2, false⟩] 16 = true := by rfl
  rw [h1, h2, h3, h4]
  rfl
theorem tiny_fitH (af : Option Addr) (cf : Nat) : LM.FitH (tinyS af cf) := ⟨by unfold M.I64; show (-9223372036854775808 : Int) ≤ 1 ∧ (1 : Int) ≤ 9223372036854775807; decide, by unfold M.Short; show W.tinyD.size ≤ _; rw [W.tinyD_size]; decide, by unfold M.Short; show 0 ≤ _; exact Nat.zero_le _, fun k hk => absurd hk (by unfold tinyS; simp)⟩
theorem tiny_fitHs (af : Option Addr) (cf : Nat) : LM.FitHs [tinyS af cf] := ⟨by unfold M.Short; simp, fun k hk => by
  obtain rfl : k = 0 := by simpa using hk
  exact tiny_fitH af cf⟩
theorem tiny_fitA : AW.AllFit [⟨1, 1, 2, false⟩] := (AM.fits_of_check _ (by rfl))
end Go.Proofs.Ytbgnagognnklbaa.LW
