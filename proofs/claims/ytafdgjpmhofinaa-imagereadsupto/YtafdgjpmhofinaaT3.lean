import Derived.Test.YtafdgjpmhofinaaT2
import Derived.Deep.RegionLaw
namespace Go.Proofs.Ytafdgjpmhofinaa.W
open Go.RowKit
set_option linter.unusedVariables false

def tinyD : ByteArray := instrB 1 7 ++ instrB 16 6
theorem instrB_size (o m : Int) : (instrB o m).size = 8 := by
  unfold instrB
  simp only [ByteArray.size_append, le_size]
theorem tinyD_size : tinyD.size = 16 := by
  unfold tinyD
  rw [ByteArray.size_append, instrB_size, instrB_size]
def tinyI : M.Im := ⟨⟨#[116]⟩, [], [⟨0, 1, tinyD, false, true⟩], [], [], 0⟩
theorem tiny_chk : M.chkN tinyI = 0 := by
  have h1 : M.namesB tinyI = true := by unfold M.namesB tinyI; rfl
  have h2 : M.countsB tinyI = true := rfl
  have h3 : M.rangesB tinyI = true := by
    unfold M.rangesB tinyI
    simp only [List.all_cons, List.all_nil, Bool.and_true]
    exact decide_eq_true (by rw [tinyD_size]; decide)
  have h4 : M.thereB tinyI = true := rfl
  have h5 : M.placesB tinyI = true := rfl
  unfold M.chkN
  rw [h1, h2, h3, h4, h5]
  rfl
theorem tiny_fit : M.Fit tinyI := by
  refine ⟨by unfold M.Short tinyI; decide, by unfold M.Short tinyI; decide, fun k hk => absurd hk (by unfold tinyI; simp), by unfold M.Short tinyI; decide, fun k hk => ?_, by unfold M.Short tinyI; decide, fun k hk => absurd hk (by unfold tinyI; simp), by unfold M.Short tinyI; decide, fun k hk => absurd hk (by unfold tinyI; simp), by unfold M.I64 tinyI; decide⟩
  have : k = 0 := by unfold tinyI at hk; simp at hk; omega
  subst this
  exact ⟨by unfold M.I64 tinyI M.sgAt; decide, by unfold M.I64 tinyI M.sgAt; decide, by unfold M.Short; show tinyD.size ≤ _; rw [tinyD_size]; decide⟩

set_option maxRecDepth 100000 in
set_option maxHeartbeats 1500000 in
theorem tiny_any (w : World) : Calls Try.prog 22 #[] w fun e w' => (∃ a, e = .returned (.agg (M.cellsI a tinyI)) ∧ M.HasIm w' a tinyI) ∧ Below w.heap.size w w' := by
  have HB0 := hideC ((Below.refl w.heap.size w).alloc (Nat.le_refl _) (.cells #[.string ⟨#[]⟩, .slice none 0 0, .slice none 0 0, .slice none 0 0, .slice none 0 0, .int .i64 0] 27))
  have BX := hideC (B.new w #[.string ⟨#[]⟩, .slice none 0 0, .slice none 0 0, .slice none 0 0, .slice none 0 0, .int .i64 0] 27)
  have H1 := hideC (instr_any 1 7)
  have H2 := hideC (instr_any 16 6)
  have s1 := instrB_size 1 7
  have s2 := instrB_size 16 6
  have HD : Hid (tinyD = instrB 1 7 ++ instrB 16 6) := rfl
  obtain ⟨A1, h1⟩ : ∃ A, A = instrB 1 7 := ⟨_, rfl⟩
  obtain ⟨A2, h2⟩ : ∃ A, A = instrB 16 6 := ⟨_, rfl⟩
  rw [← h1] at H1 s1
  rw [← h2] at H2 s2
  rw [← h1, ← h2] at HD
  clear h1 h2
  have t1 : (A1 ++ A2).size = 16 := by rw [ByteArray.size_append, s1, s2]
  go_enter Try.func22, Try.ntmps22
  go_wp2_with (first | (go_at_call 46; have _ := FIRST; refine (H2.out _).mono ?_; rintro e w2 ⟨rfl, hb⟩; have HB := hideC (HB.out.trans (hb.mono HB.out.size)); have BX := hideC (B.below BX.out hb (B.isLt BX.out)); have y0 := B.cell BX.out 0 rfl; have y1 := B.cell BX.out 1 rfl; have y2 := B.cell BX.out 2 rfl; have y3 := B.cell BX.out 3 rfl; have y4 := B.cell BX.out 4 rfl; have y5 := B.cell BX.out 5 rfl; have yf := B.free BX.out; have hwl := B.isLt BX.out; clear hb) | (go_at_call 46; refine (H1.out _).mono ?_; rintro e w1 ⟨rfl, hb⟩; have FIRST := trivial; have HB := hideC (HB0.out.trans (hb.mono HB0.out.size)); have BX := hideC (B.below BX.out hb (B.isLt BX.out)); clear hb))
  have FB := hideC ((set6_below HB.out (Nat.le_refl w.heap.size) (.string ⟨#[116]⟩) (.slice none 0 0) (.slice (some ⟨w2.heap.size, 0, none⟩) 1 1) (.slice none 0 0) (.slice none 0 0) (.int .i64 0)).alloc (by have := (set6_below HB.out (Nat.le_refl w.heap.size) (.string ⟨#[116]⟩) (.slice none 0 0) (.slice (some ⟨w2.heap.size, 0, none⟩) 1 1) (.slice none 0 0) (.slice none 0 0) (.int .i64 0)).size; exact this) (.cells #[.int .i64 0, .int .i64 1, .string (A1 ++ A2), .bool false, .bool true] 48))
  have NB := B.new (set6 w2 w.heap.size (.string ⟨#[116]⟩) (.slice none 0 0) (.slice (some ⟨w2.heap.size, 0, none⟩) 1 1) (.slice none 0 0) (.slice none 0 0) (.int .i64 0)) #[.int .i64 0, .int .i64 1, .string (A1 ++ A2), .bool false, .bool true] 48
  rw [show (set6 w2 w.heap.size (.string ⟨#[116]⟩) (.slice none 0 0) (.slice (some ⟨w2.heap.size, 0, none⟩) 1 1) (.slice none 0 0) (.slice none 0 0) (.int .i64 0)).heap.size = w2.heap.size by simp [set6]] at NB
  refine bodyPost_ret (v := .agg #[.string ⟨#[116]⟩, .slice none 0 0, .slice (some ⟨w2.heap.size, 0, none⟩) 1 1, .slice none 0 0, .slice none 0 0, .int .i64 0]) (by simp [results, Try.results22, go_sem, y0, y1, y2, y3, y4, y5, hwl]) rfl ⟨⟨⟨none, 0, some ⟨w2.heap.size, 0, none⟩, 1, none, 0, none, 0⟩, rfl, ⟨fun h => absurd h (by decide), fun _ => ⟨w2.heap.size, 0, rfl, B.isLt NB, fun i hi => ?_⟩, fun h => absurd h (by decide), fun h => absurd h (by decide)⟩⟩, FB.out⟩
  obtain rfl : i = 0 := by
    have : i < 1 := hi
    omega
  refine ⟨B.cell NB 0 rfl, B.cell NB 1 rfl, ?_, B.cell NB 3 rfl, B.cell NB 4 rfl⟩
  show _ = some (Value.string tinyD)
  rw [HD.out]
  exact B.cell NB 2 rfl

def emptyI : M.Im := ⟨⟨#[]⟩, [], [], [], [], 0⟩
theorem empty_chk : M.chkN emptyI = 4 := rfl
theorem empty_fit : M.Fit emptyI := ⟨by unfold M.Short emptyI; decide, by unfold M.Short emptyI; decide, fun k hk => absurd hk (by unfold emptyI; simp), by unfold M.Short emptyI; decide, fun k hk => absurd hk (by unfold emptyI; simp), by unfold M.Short emptyI; decide, fun k hk => absurd hk (by unfold emptyI; simp), by unfold M.Short emptyI; decide, fun k hk => absurd hk (by unfold emptyI; simp), by unfold M.I64 emptyI; decide⟩
theorem empty_has (w : World) : M.HasIm w ⟨none, 0, none, 0, none, 0, none, 0⟩ emptyI := ⟨fun h => absurd h (by decide), fun h => absurd h (by decide), fun h => absurd h (by decide), fun h => absurd h (by decide)⟩
theorem empty_any (w : World) : Calls Try.prog 10 #[.agg #[.string ⟨#[]⟩, .slice none 0 0, .slice none 0 0, .slice none 0 0, .slice none 0 0, .int .i64 0]] w fun e w' => e = .returned (.int .i64 4) ∧ Below w.heap.size w w' := check_any emptyI ⟨none, 0, none, 0, none, 0, none, 0⟩ w (empty_has w) empty_fit
/-- what was written is read -/
theorem read_back {i : M.Im} (h : M.chkN i = 0) (hf : M.Fit i) : readP (bytesL i) = some i := (read_iff _ _).2 ⟨h, of_fit hf, rfl⟩
theorem bytesL_len {i : M.Im} (h : Small i) : (bytesL i).length ≤ 100000 := by
  have e := bytesL_eq i []
  rw [List.append_nil] at e
  rw [e]
  simp only [List.length_append, num8_length, textL_length]
  have a1 := flat_len textL i.needs M.nil 20 (fun j hj => by rw [textL_length]; have := h.need j hj; unfold M.strAt at this; omega) i.needs.length (Nat.le_refl _)
  have a2 := flat_len segL i.segs M.sg0 4120 (fun j hj => segL_len (h.seg j hj)) i.segs.length (Nat.le_refl _)
  have a3 := flat_len symL i.syms M.sy0 28 (fun j hj => symL_len (h.sym j hj)) i.syms.length (Nat.le_refl _)
  have a4 := flat_len relL i.rels M.rl0 36 (fun j hj => relL_len (h.rel j hj)) i.rels.length (Nat.le_refl _)
  rw [List.take_length] at a1 a2 a3 a4
  obtain ⟨z1, z2, _, z4, _, z6, _, z8, _⟩ := h
  simp only [List.length_nil]
  omega
theorem write_ok {i : M.Im} (h : M.chkN i = 0) : writeN i = ⟨(bytesL i).toArray⟩ := if_pos h
theorem write_short {i : M.Im} (h : M.chkN i = 0) : M.Short (writeN i).size := by
  rw [write_ok h, Lib.size_eq]
  have := bytesL_len (chk_small h)
  unfold M.Short
  simp
  omega
theorem read_write {i : M.Im} (h : M.chkN i = 0) (hf : M.Fit i) : readP (writeN i).data.toList = some i := by
  rw [write_ok h]
  exact read_back h hf
end Go.Proofs.Ytafdgjpmhofinaa.W
