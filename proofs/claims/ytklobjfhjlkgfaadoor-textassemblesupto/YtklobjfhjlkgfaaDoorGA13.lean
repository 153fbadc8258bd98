import Derived.Test.YtklobjfhjlkgfaaDoorGA12
import Derived.Test.YtklobjfhjlkgfaaDoorGA09
import Derived.Test.YtklobjfhjlkgfaaDoorGA08
import Derived.Test.YtklobjfhjlkgfaaDoorGA01
/- The reference's InstrText, of every instruction that may be. -/
namespace Go.Proofs.YtklobjfhjlkgfaaDoor.TW
open Go.RowKit
set_option linter.unusedVariables false
set_option maxRecDepth 100000
set_option linter.unusedSimpArgs false

theorem text_plain (i : PM.Ins) (hr : isRaw i = false) : textN i = if i.op = 16 then callL.getD i.m.toNat (str []) else wordsS (opL.getD i.op.toNat (str [])) (partsN i) := by
  unfold textN
  rw [hr]
  rfl
theorem fits_all {xs : List Int} (h : ∀ x ∈ xs, -2147483648 ≤ x ∧ x ≤ 2147483647) : ∀ k, k < xs.length → I64 (xs.getD k 0) := fun k hk => by
  have h1 := h (xs.getD k 0) (by
    rw [List.getD_eq_getElem?_getD, List.getElem?_eq_getElem hk]
    exact List.getElem_mem hk)
  unfold I64
  omega
theorem shown_1 (a b c m : Int) (w : World) (hb : (⟨1, a, b, c, m⟩ : PM.Ins).bad = false) (hp : plainN ⟨1, a, b, c, m⟩ = ⟨1, a, b, c, m⟩) (hf : (⟨1, a, b, c, m⟩ : PM.Ins).fits) :
    Calls Tryd.prog 8 #[.agg (⟨1, a, b, c, m⟩ : PM.Ins).cells] w fun e w' => e = .returned (.string (textN ⟨1, a, b, c, m⟩)) ∧ Below w.heap.size w w' := by
  have hr : isRaw ⟨1, a, b, c, m⟩ = false := by unfold isRaw; rw [hb, hp]; simp
  have hq : plainN ⟨1, a, b, c, m⟩ = ⟨1, a, 0, 0, m⟩ := rfl
  rw [hq] at hp
  simp only [PM.Ins.mk.injEq, true_and, and_true] at hp
  unfold PM.Ins.fits PM.Byt at hf
  simp only at hf
  have ht : textN ⟨1, a, b, c, m⟩ = wordsS (opL.getD 1 (str [])) [a, m] := text_plain _ hr
  rw [ht]
  obtain ⟨rfl, rfl⟩ := hp
  refine show_1 a m w (fun V => ?_) (fits_all (fun x hx => ?_))
  · have hh := PW.isBadR_any ⟨1, a, 0, 0, m⟩ V
    rw [hb] at hh
    exact hh
  · simp only [List.mem_cons, List.not_mem_nil, or_false] at hx
    omega
theorem shown_2 (a b c m : Int) (w : World) (hb : (⟨2, a, b, c, m⟩ : PM.Ins).bad = false) (hp : plainN ⟨2, a, b, c, m⟩ = ⟨2, a, b, c, m⟩) (hf : (⟨2, a, b, c, m⟩ : PM.Ins).fits) :
    Calls Tryd.prog 8 #[.agg (⟨2, a, b, c, m⟩ : PM.Ins).cells] w fun e w' => e = .returned (.string (textN ⟨2, a, b, c, m⟩)) ∧ Below w.heap.size w w' := by
  have hr : isRaw ⟨2, a, b, c, m⟩ = false := by unfold isRaw; rw [hb, hp]; simp
  have hq : plainN ⟨2, a, b, c, m⟩ = ⟨2, a, b, c, 0⟩ := rfl
  rw [hq] at hp
  simp only [PM.Ins.mk.injEq, true_and, and_true] at hp
  unfold PM.Ins.fits PM.Byt at hf
  simp only at hf
  have ht : textN ⟨2, a, b, c, m⟩ = wordsS (opL.getD 2 (str [])) [a, b, c] := text_plain _ hr
  rw [ht]
  obtain rfl := hp
  refine show_2 a b c w (fun V => ?_) (fits_all (fun x hx => ?_))
  · have hh := PW.isBadR_any ⟨2, a, b, c, 0⟩ V
    rw [hb] at hh
    exact hh
  · simp only [List.mem_cons, List.not_mem_nil, or_false] at hx
    omega
theorem shown_3 (a b c m : Int) (w : World) (hb : (⟨3, a, b, c, m⟩ : PM.Ins).bad = false) (hp : plainN ⟨3, a, b, c, m⟩ = ⟨3, a, b, c, m⟩) (hf : (⟨3, a, b, c, m⟩ : PM.Ins).fits) :
    Calls Tryd.prog 8 #[.agg (⟨3, a, b, c, m⟩ : PM.Ins).cells] w fun e w' => e = .returned (.string (textN ⟨3, a, b, c, m⟩)) ∧ Below w.heap.size w w' := by
  have hr : isRaw ⟨3, a, b, c, m⟩ = false := by unfold isRaw; rw [hb, hp]; simp
  have hq : plainN ⟨3, a, b, c, m⟩ = ⟨3, a, b, c, 0⟩ := rfl
  rw [hq] at hp
  simp only [PM.Ins.mk.injEq, true_and, and_true] at hp
  unfold PM.Ins.fits PM.Byt at hf
  simp only at hf
  have ht : textN ⟨3, a, b, c, m⟩ = wordsS (opL.getD 3 (str [])) [a, b, c] := text_plain _ hr
  rw [ht]
  obtain rfl := hp
  refine show_3 a b c w (fun V => ?_) (fits_all (fun x hx => ?_))
  · have hh := PW.isBadR_any ⟨3, a, b, c, 0⟩ V
    rw [hb] at hh
    exact hh
  · simp only [List.mem_cons, List.not_mem_nil, or_false] at hx
    omega
theorem shown_4 (a b c m : Int) (w : World) (hb : (⟨4, a, b, c, m⟩ : PM.Ins).bad = false) (hp : plainN ⟨4, a, b, c, m⟩ = ⟨4, a, b, c, m⟩) (hf : (⟨4, a, b, c, m⟩ : PM.Ins).fits) :
    Calls Tryd.prog 8 #[.agg (⟨4, a, b, c, m⟩ : PM.Ins).cells] w fun e w' => e = .returned (.string (textN ⟨4, a, b, c, m⟩)) ∧ Below w.heap.size w w' := by
  have hr : isRaw ⟨4, a, b, c, m⟩ = false := by unfold isRaw; rw [hb, hp]; simp
  have hq : plainN ⟨4, a, b, c, m⟩ = ⟨4, a, b, c, 0⟩ := rfl
  rw [hq] at hp
  simp only [PM.Ins.mk.injEq, true_and, and_true] at hp
  unfold PM.Ins.fits PM.Byt at hf
  simp only at hf
  have ht : textN ⟨4, a, b, c, m⟩ = wordsS (opL.getD 4 (str [])) [a, b, c] := text_plain _ hr
  rw [ht]
  obtain rfl := hp
  refine show_4 a b c w (fun V => ?_) (fits_all (fun x hx => ?_))
  · have hh := PW.isBadR_any ⟨4, a, b, c, 0⟩ V
    rw [hb] at hh
    exact hh
  · simp only [List.mem_cons, List.not_mem_nil, or_false] at hx
    omega
theorem shown_5 (a b c m : Int) (w : World) (hb : (⟨5, a, b, c, m⟩ : PM.Ins).bad = false) (hp : plainN ⟨5, a, b, c, m⟩ = ⟨5, a, b, c, m⟩) (hf : (⟨5, a, b, c, m⟩ : PM.Ins).fits) :
    Calls Tryd.prog 8 #[.agg (⟨5, a, b, c, m⟩ : PM.Ins).cells] w fun e w' => e = .returned (.string (textN ⟨5, a, b, c, m⟩)) ∧ Below w.heap.size w w' := by
  have hr : isRaw ⟨5, a, b, c, m⟩ = false := by unfold isRaw; rw [hb, hp]; simp
  have hq : plainN ⟨5, a, b, c, m⟩ = ⟨5, a, b, c, 0⟩ := rfl
  rw [hq] at hp
  simp only [PM.Ins.mk.injEq, true_and, and_true] at hp
  unfold PM.Ins.fits PM.Byt at hf
  simp only at hf
  have ht : textN ⟨5, a, b, c, m⟩ = wordsS (opL.getD 5 (str [])) [a, b, c] := text_plain _ hr
  rw [ht]
  obtain rfl := hp
  refine show_5 a b c w (fun V => ?_) (fits_all (fun x hx => ?_))
  · have hh := PW.isBadR_any ⟨5, a, b, c, 0⟩ V
    rw [hb] at hh
    exact hh
  · simp only [List.mem_cons, List.not_mem_nil, or_false] at hx
    omega
theorem shown_6 (a b c m : Int) (w : World) (hb : (⟨6, a, b, c, m⟩ : PM.Ins).bad = false) (hp : plainN ⟨6, a, b, c, m⟩ = ⟨6, a, b, c, m⟩) (hf : (⟨6, a, b, c, m⟩ : PM.Ins).fits) :
    Calls Tryd.prog 8 #[.agg (⟨6, a, b, c, m⟩ : PM.Ins).cells] w fun e w' => e = .returned (.string (textN ⟨6, a, b, c, m⟩)) ∧ Below w.heap.size w w' := by
  have hr : isRaw ⟨6, a, b, c, m⟩ = false := by unfold isRaw; rw [hb, hp]; simp
  have hq : plainN ⟨6, a, b, c, m⟩ = ⟨6, a, b, c, 0⟩ := rfl
  rw [hq] at hp
  simp only [PM.Ins.mk.injEq, true_and, and_true] at hp
  unfold PM.Ins.fits PM.Byt at hf
  simp only at hf
  have ht : textN ⟨6, a, b, c, m⟩ = wordsS (opL.getD 6 (str [])) [a, b, c] := text_plain _ hr
  rw [ht]
  obtain rfl := hp
  refine show_6 a b c w (fun V => ?_) (fits_all (fun x hx => ?_))
  · have hh := PW.isBadR_any ⟨6, a, b, c, 0⟩ V
    rw [hb] at hh
    exact hh
  · simp only [List.mem_cons, List.not_mem_nil, or_false] at hx
    omega
theorem shown_7 (a b c m : Int) (w : World) (hb : (⟨7, a, b, c, m⟩ : PM.Ins).bad = false) (hp : plainN ⟨7, a, b, c, m⟩ = ⟨7, a, b, c, m⟩) (hf : (⟨7, a, b, c, m⟩ : PM.Ins).fits) :
    Calls Tryd.prog 8 #[.agg (⟨7, a, b, c, m⟩ : PM.Ins).cells] w fun e w' => e = .returned (.string (textN ⟨7, a, b, c, m⟩)) ∧ Below w.heap.size w w' := by
  have hr : isRaw ⟨7, a, b, c, m⟩ = false := by unfold isRaw; rw [hb, hp]; simp
  have hq : plainN ⟨7, a, b, c, m⟩ = ⟨7, a, b, c, 0⟩ := rfl
  rw [hq] at hp
  simp only [PM.Ins.mk.injEq, true_and, and_true] at hp
  unfold PM.Ins.fits PM.Byt at hf
  simp only at hf
  have ht : textN ⟨7, a, b, c, m⟩ = wordsS (opL.getD 7 (str [])) [a, b, c] := text_plain _ hr
  rw [ht]
  obtain rfl := hp
  refine show_7 a b c w (fun V => ?_) (fits_all (fun x hx => ?_))
  · have hh := PW.isBadR_any ⟨7, a, b, c, 0⟩ V
    rw [hb] at hh
    exact hh
  · simp only [List.mem_cons, List.not_mem_nil, or_false] at hx
    omega
theorem shown_8 (a b c m : Int) (w : World) (hb : (⟨8, a, b, c, m⟩ : PM.Ins).bad = false) (hp : plainN ⟨8, a, b, c, m⟩ = ⟨8, a, b, c, m⟩) (hf : (⟨8, a, b, c, m⟩ : PM.Ins).fits) :
    Calls Tryd.prog 8 #[.agg (⟨8, a, b, c, m⟩ : PM.Ins).cells] w fun e w' => e = .returned (.string (textN ⟨8, a, b, c, m⟩)) ∧ Below w.heap.size w w' := by
  have hr : isRaw ⟨8, a, b, c, m⟩ = false := by unfold isRaw; rw [hb, hp]; simp
  have hq : plainN ⟨8, a, b, c, m⟩ = ⟨8, a, b, 0, m⟩ := rfl
  rw [hq] at hp
  simp only [PM.Ins.mk.injEq, true_and, and_true] at hp
  unfold PM.Ins.fits PM.Byt at hf
  simp only at hf
  have ht : textN ⟨8, a, b, c, m⟩ = wordsS (opL.getD 8 (str [])) [a, b, m] := text_plain _ hr
  rw [ht]
  obtain rfl := hp
  refine show_8 a b m w (fun V => ?_) (fits_all (fun x hx => ?_))
  · have hh := PW.isBadR_any ⟨8, a, b, 0, m⟩ V
    rw [hb] at hh
    exact hh
  · simp only [List.mem_cons, List.not_mem_nil, or_false] at hx
    omega
theorem shown_9 (a b c m : Int) (w : World) (hb : (⟨9, a, b, c, m⟩ : PM.Ins).bad = false) (hp : plainN ⟨9, a, b, c, m⟩ = ⟨9, a, b, c, m⟩) (hf : (⟨9, a, b, c, m⟩ : PM.Ins).fits) :
    Calls Tryd.prog 8 #[.agg (⟨9, a, b, c, m⟩ : PM.Ins).cells] w fun e w' => e = .returned (.string (textN ⟨9, a, b, c, m⟩)) ∧ Below w.heap.size w w' := by
  have hr : isRaw ⟨9, a, b, c, m⟩ = false := by unfold isRaw; rw [hb, hp]; simp
  have hq : plainN ⟨9, a, b, c, m⟩ = ⟨9, a, b, c, m⟩ := rfl
  rw [hq] at hp
  simp only [PM.Ins.mk.injEq, true_and, and_true] at hp
  unfold PM.Ins.fits PM.Byt at hf
  simp only at hf
  have ht : textN ⟨9, a, b, c, m⟩ = wordsS (opL.getD 9 (str [])) [a, b, m, c] := text_plain _ hr
  rw [ht]
  refine show_9 a b c m w (fun V => ?_) (fits_all (fun x hx => ?_))
  · have hh := PW.isBadR_any ⟨9, a, b, c, m⟩ V
    rw [hb] at hh
    exact hh
  · simp only [List.mem_cons, List.not_mem_nil, or_false] at hx
    omega
theorem shown_10 (a b c m : Int) (w : World) (hb : (⟨10, a, b, c, m⟩ : PM.Ins).bad = false) (hp : plainN ⟨10, a, b, c, m⟩ = ⟨10, a, b, c, m⟩) (hf : (⟨10, a, b, c, m⟩ : PM.Ins).fits) :
    Calls Tryd.prog 8 #[.agg (⟨10, a, b, c, m⟩ : PM.Ins).cells] w fun e w' => e = .returned (.string (textN ⟨10, a, b, c, m⟩)) ∧ Below w.heap.size w w' := by
  have hr : isRaw ⟨10, a, b, c, m⟩ = false := by unfold isRaw; rw [hb, hp]; simp
  have hq : plainN ⟨10, a, b, c, m⟩ = ⟨10, a, b, c, m⟩ := rfl
  rw [hq] at hp
  simp only [PM.Ins.mk.injEq, true_and, and_true] at hp
  unfold PM.Ins.fits PM.Byt at hf
  simp only at hf
  have ht : textN ⟨10, a, b, c, m⟩ = wordsS (opL.getD 10 (str [])) [a, b, m, c] := text_plain _ hr
  rw [ht]
  refine show_10 a b c m w (fun V => ?_) (fits_all (fun x hx => ?_))
  · have hh := PW.isBadR_any ⟨10, a, b, c, m⟩ V
    rw [hb] at hh
    exact hh
  · simp only [List.mem_cons, List.not_mem_nil, or_false] at hx
    omega
theorem shown_11 (a b c m : Int) (w : World) (hb : (⟨11, a, b, c, m⟩ : PM.Ins).bad = false) (hp : plainN ⟨11, a, b, c, m⟩ = ⟨11, a, b, c, m⟩) (hf : (⟨11, a, b, c, m⟩ : PM.Ins).fits) :
    Calls Tryd.prog 8 #[.agg (⟨11, a, b, c, m⟩ : PM.Ins).cells] w fun e w' => e = .returned (.string (textN ⟨11, a, b, c, m⟩)) ∧ Below w.heap.size w w' := by
  have hr : isRaw ⟨11, a, b, c, m⟩ = false := by unfold isRaw; rw [hb, hp]; simp
  have hq : plainN ⟨11, a, b, c, m⟩ = ⟨11, a, 0, 0, m⟩ := rfl
  rw [hq] at hp
  simp only [PM.Ins.mk.injEq, true_and, and_true] at hp
  unfold PM.Ins.fits PM.Byt at hf
  simp only at hf
  have ht : textN ⟨11, a, b, c, m⟩ = wordsS (opL.getD 11 (str [])) [a, m] := text_plain _ hr
  rw [ht]
  obtain ⟨rfl, rfl⟩ := hp
  refine show_11 a m w (fun V => ?_) (fits_all (fun x hx => ?_))
  · have hh := PW.isBadR_any ⟨11, a, 0, 0, m⟩ V
    rw [hb] at hh
    exact hh
  · simp only [List.mem_cons, List.not_mem_nil, or_false] at hx
    omega
theorem shown_12 (a b c m : Int) (w : World) (hb : (⟨12, a, b, c, m⟩ : PM.Ins).bad = false) (hp : plainN ⟨12, a, b, c, m⟩ = ⟨12, a, b, c, m⟩) (hf : (⟨12, a, b, c, m⟩ : PM.Ins).fits) :
    Calls Tryd.prog 8 #[.agg (⟨12, a, b, c, m⟩ : PM.Ins).cells] w fun e w' => e = .returned (.string (textN ⟨12, a, b, c, m⟩)) ∧ Below w.heap.size w w' := by
  have hr : isRaw ⟨12, a, b, c, m⟩ = false := by unfold isRaw; rw [hb, hp]; simp
  have hq : plainN ⟨12, a, b, c, m⟩ = ⟨12, 0, 0, 0, m⟩ := rfl
  rw [hq] at hp
  simp only [PM.Ins.mk.injEq, true_and, and_true] at hp
  unfold PM.Ins.fits PM.Byt at hf
  simp only at hf
  have ht : textN ⟨12, a, b, c, m⟩ = wordsS (opL.getD 12 (str [])) [m] := text_plain _ hr
  rw [ht]
  obtain ⟨rfl, rfl, rfl⟩ := hp
  refine show_12 m w (fun V => ?_) (fits_all (fun x hx => ?_))
  · have hh := PW.isBadR_any ⟨12, 0, 0, 0, m⟩ V
    rw [hb] at hh
    exact hh
  · simp only [List.mem_cons, List.not_mem_nil, or_false] at hx
    omega
theorem shown_13 (a b c m : Int) (w : World) (hb : (⟨13, a, b, c, m⟩ : PM.Ins).bad = false) (hp : plainN ⟨13, a, b, c, m⟩ = ⟨13, a, b, c, m⟩) (hf : (⟨13, a, b, c, m⟩ : PM.Ins).fits) :
    Calls Tryd.prog 8 #[.agg (⟨13, a, b, c, m⟩ : PM.Ins).cells] w fun e w' => e = .returned (.string (textN ⟨13, a, b, c, m⟩)) ∧ Below w.heap.size w w' := by
  have hr : isRaw ⟨13, a, b, c, m⟩ = false := by unfold isRaw; rw [hb, hp]; simp
  have hq : plainN ⟨13, a, b, c, m⟩ = ⟨13, a, b, 0, m⟩ := rfl
  rw [hq] at hp
  simp only [PM.Ins.mk.injEq, true_and, and_true] at hp
  unfold PM.Ins.fits PM.Byt at hf
  simp only at hf
  have ht : textN ⟨13, a, b, c, m⟩ = wordsS (opL.getD 13 (str [])) [a, b, m] := text_plain _ hr
  rw [ht]
  obtain rfl := hp
  refine show_13 a b m w (fun V => ?_) (fits_all (fun x hx => ?_))
  · have hh := PW.isBadR_any ⟨13, a, b, 0, m⟩ V
    rw [hb] at hh
    exact hh
  · simp only [List.mem_cons, List.not_mem_nil, or_false] at hx
    omega
theorem shown_14 (a b c m : Int) (w : World) (hb : (⟨14, a, b, c, m⟩ : PM.Ins).bad = false) (hp : plainN ⟨14, a, b, c, m⟩ = ⟨14, a, b, c, m⟩) (hf : (⟨14, a, b, c, m⟩ : PM.Ins).fits) :
    Calls Tryd.prog 8 #[.agg (⟨14, a, b, c, m⟩ : PM.Ins).cells] w fun e w' => e = .returned (.string (textN ⟨14, a, b, c, m⟩)) ∧ Below w.heap.size w w' := by
  have hr : isRaw ⟨14, a, b, c, m⟩ = false := by unfold isRaw; rw [hb, hp]; simp
  have hq : plainN ⟨14, a, b, c, m⟩ = ⟨14, a, b, 0, m⟩ := rfl
  rw [hq] at hp
  simp only [PM.Ins.mk.injEq, true_and, and_true] at hp
  unfold PM.Ins.fits PM.Byt at hf
  simp only at hf
  have ht : textN ⟨14, a, b, c, m⟩ = wordsS (opL.getD 14 (str [])) [a, b, m] := text_plain _ hr
  rw [ht]
  obtain rfl := hp
  refine show_14 a b m w (fun V => ?_) (fits_all (fun x hx => ?_))
  · have hh := PW.isBadR_any ⟨14, a, b, 0, m⟩ V
    rw [hb] at hh
    exact hh
  · simp only [List.mem_cons, List.not_mem_nil, or_false] at hx
    omega
theorem shown_15 (a b c m : Int) (w : World) (hb : (⟨15, a, b, c, m⟩ : PM.Ins).bad = false) (hp : plainN ⟨15, a, b, c, m⟩ = ⟨15, a, b, c, m⟩) (hf : (⟨15, a, b, c, m⟩ : PM.Ins).fits) :
    Calls Tryd.prog 8 #[.agg (⟨15, a, b, c, m⟩ : PM.Ins).cells] w fun e w' => e = .returned (.string (textN ⟨15, a, b, c, m⟩)) ∧ Below w.heap.size w w' := by
  have hr : isRaw ⟨15, a, b, c, m⟩ = false := by unfold isRaw; rw [hb, hp]; simp
  have hq : plainN ⟨15, a, b, c, m⟩ = ⟨15, a, 0, 0, 0⟩ := rfl
  rw [hq] at hp
  simp only [PM.Ins.mk.injEq, true_and, and_true] at hp
  unfold PM.Ins.fits PM.Byt at hf
  simp only at hf
  have ht : textN ⟨15, a, b, c, m⟩ = wordsS (opL.getD 15 (str [])) [a] := text_plain _ hr
  rw [ht]
  obtain ⟨rfl, rfl, rfl⟩ := hp
  refine show_15 a w (fun V => ?_) (fits_all (fun x hx => ?_))
  · have hh := PW.isBadR_any ⟨15, a, 0, 0, 0⟩ V
    rw [hb] at hh
    exact hh
  · simp only [List.mem_cons, List.not_mem_nil, or_false] at hx
    omega
theorem shown_16 (a b c m : Int) (w : World) (hb : (⟨16, a, b, c, m⟩ : PM.Ins).bad = false) (hp : plainN ⟨16, a, b, c, m⟩ = ⟨16, a, b, c, m⟩) :
    Calls Tryd.prog 8 #[.agg (⟨16, a, b, c, m⟩ : PM.Ins).cells] w fun e w' => e = .returned (.string (textN ⟨16, a, b, c, m⟩)) ∧ Below w.heap.size w w' := by
  have hr : isRaw ⟨16, a, b, c, m⟩ = false := by unfold isRaw; rw [hb, hp]; simp
  have hq : plainN ⟨16, a, b, c, m⟩ = ⟨16, 0, 0, 0, m⟩ := rfl
  rw [hq] at hp
  simp only [PM.Ins.mk.injEq, true_and, and_true] at hp
  have ht : textN ⟨16, a, b, c, m⟩ = callL.getD m.toNat (str []) := text_plain _ hr
  rw [ht]
  obtain ⟨rfl, rfl, rfl⟩ := hp
  have hm : 1 ≤ m ∧ m ≤ 6 := by
    have e : (⟨16, 0, 0, 0, m⟩ : PM.Ins).bad = !decide (1 ≤ m ∧ m ≤ 6) := rfl
    rw [e] at hb
    simpa using hb
  have hbd : ∀ V, Calls Tryd.prog 23 #[.agg (⟨16, 0, 0, 0, m⟩ : PM.Ins).cells] V fun e w' => e = .returned (.bool false) ∧ Below V.heap.size V w' := fun V => by
    have hh := PW.isBadR_any ⟨16, 0, 0, 0, m⟩ V
    rw [hb] at hh
    exact hh
  have h6 : m = 1 ∨ m = 2 ∨ m = 3 ∨ m = 4 ∨ m = 5 ∨ m = 6 := by omega
  rcases h6 with rfl | rfl | rfl | rfl | rfl | rfl
  · exact call_1 w hbd
  · exact call_2 w hbd
  · exact call_3 w hbd
  · exact call_4 w hbd
  · exact call_5 w hbd
  · exact call_6 w hbd
/-- InstrText, of every instruction that may be -/
theorem text_any (i : PM.Ins) (hf : i.fits) (w : World) : Calls Tryd.prog 8 #[.agg i.cells] w fun e w' => e = .returned (.string (textN i)) ∧ Below w.heap.size w w' := by
  by_cases h1 : i.bad = true
  · exact text_bad i w h1 hf
  · have hb : i.bad = false := by simpa using h1
    by_cases hp : plainN i = i
    · have ho : 1 ≤ i.op ∧ i.op ≤ 16 := by
        by_cases c : i.op < 1 ∨ 16 < i.op
        · exact (h1 (PW.bad_else i c)).elim
        · omega
      obtain ⟨op, a, b, c, m⟩ := i
      simp only at ho
      have hk : op = 1 ∨ op = 2 ∨ op = 3 ∨ op = 4 ∨ op = 5 ∨ op = 6 ∨ op = 7 ∨ op = 8 ∨ op = 9 ∨ op = 10 ∨ op = 11 ∨ op = 12 ∨ op = 13 ∨ op = 14 ∨ op = 15 ∨ op = 16 := by omega
      rcases hk with rfl | rfl | rfl | rfl | rfl | rfl | rfl | rfl | rfl | rfl | rfl | rfl | rfl | rfl | rfl | rfl
      · exact shown_1 a b c m w hb hp hf
      · exact shown_2 a b c m w hb hp hf
      · exact shown_3 a b c m w hb hp hf
      · exact shown_4 a b c m w hb hp hf
      · exact shown_5 a b c m w hb hp hf
      · exact shown_6 a b c m w hb hp hf
      · exact shown_7 a b c m w hb hp hf
      · exact shown_8 a b c m w hb hp hf
      · exact shown_9 a b c m w hb hp hf
      · exact shown_10 a b c m w hb hp hf
      · exact shown_11 a b c m w hb hp hf
      · exact shown_12 a b c m w hb hp hf
      · exact shown_13 a b c m w hb hp hf
      · exact shown_14 a b c m w hb hp hf
      · exact shown_15 a b c m w hb hp hf
      · exact shown_16 a b c m w hb hp
    · exact text_raw i w hb hp hf
end Go.Proofs.YtklobjfhjlkgfaaDoor.TW
/- Plain: what Show answers is what InstrText answers. -/
namespace Go.Proofs.YtklobjfhjlkgfaaDoor.TW
open Go.RowKit
set_option linter.unusedVariables false
set_option maxRecDepth 100000
set_option linter.unusedSimpArgs false

theorem show_by (i : PM.Ins) (k : Nat) (hb : i.bad = false) (h : rowFrom i 22 0 = rowAt k) : showN i = wordsS (rowAt k).name (numsOf (rowAt k) i) := by
  unfold showN
  rw [hb]
  show wordsS (rowFrom i 22 0).name (numsOf (rowFrom i 22 0) i) = _
  rw [h]
theorem raw_by (i : PM.Ins) (h : isRaw i = true) : textN i = wordsS rawS [i.op, i.a, i.b, i.c, i.m] := by
  unfold textN
  rw [if_pos h]
theorem plain_cases (i : PM.Ins) (hb : i.bad = false) (hp : plainN i = i) : textN i = if i.op = 16 then callL.getD i.m.toNat (str []) else wordsS (opL.getD i.op.toNat (str [])) (partsN i) := by
  have hr : isRaw i = false := by unfold isRaw; rw [hb, hp]; simp
  unfold textN
  rw [hr]
  rfl
theorem show_text (i : PM.Ins) : showN i = textN i := by
  by_cases h1 : i.bad = true
  · rw [raw_by i (by unfold isRaw; rw [h1]; rfl)]
    unfold showN
    rw [h1]
    show wordsS (rowAt 21).name (numsOf (rowAt 21) i) = _
    rw [nums_21]
    rfl
  · have hb : i.bad = false := by simpa using h1
    by_cases hp : plainN i = i
    · have ho : 1 ≤ i.op ∧ i.op ≤ 16 := by
        by_cases c : i.op < 1 ∨ 16 < i.op
        · exact (h1 (PW.bad_else i c)).elim
        · omega
      have ht := plain_cases i hb hp
      rw [ht]
      clear ht h1
      obtain ⟨op, a, b, c, m⟩ := i
      simp only at ho
      have hk : op = 1 ∨ op = 11 ∨ op = 2 ∨ op = 3 ∨ op = 4 ∨ op = 5 ∨ op = 6 ∨ op = 7 ∨ op = 8 ∨ op = 13 ∨ op = 14 ∨ op = 9 ∨ op = 10 ∨ op = 12 ∨ op = 15 ∨ op = 16 := by omega
      rcases hk with rfl | rfl | rfl | rfl | rfl | rfl | rfl | rfl | rfl | rfl | rfl | rfl | rfl | rfl | rfl | rfl
      · have hq : plainN ⟨1, a, b, c, m⟩ = ⟨1, a, 0, 0, m⟩ := rfl
        rw [hq] at hp
        simp only [PM.Ins.mk.injEq, true_and, and_true] at hp
        obtain ⟨rfl, rfl⟩ := hp
        rw [show_by _ 0 hb (by_0 a m), nums_0]
        rfl
      · have hq : plainN ⟨11, a, b, c, m⟩ = ⟨11, a, 0, 0, m⟩ := rfl
        rw [hq] at hp
        simp only [PM.Ins.mk.injEq, true_and, and_true] at hp
        obtain ⟨rfl, rfl⟩ := hp
        rw [show_by _ 1 hb (by_1 a m), nums_1]
        rfl
      · have hq : plainN ⟨2, a, b, c, m⟩ = ⟨2, a, b, c, 0⟩ := rfl
        rw [hq] at hp
        simp only [PM.Ins.mk.injEq, true_and, and_true] at hp
        obtain rfl := hp
        rw [show_by _ 2 hb (by_2 a b c), nums_2]
        rfl
      · have hq : plainN ⟨3, a, b, c, m⟩ = ⟨3, a, b, c, 0⟩ := rfl
        rw [hq] at hp
        simp only [PM.Ins.mk.injEq, true_and, and_true] at hp
        obtain rfl := hp
        rw [show_by _ 3 hb (by_3 a b c), nums_3]
        rfl
      · have hq : plainN ⟨4, a, b, c, m⟩ = ⟨4, a, b, c, 0⟩ := rfl
        rw [hq] at hp
        simp only [PM.Ins.mk.injEq, true_and, and_true] at hp
        obtain rfl := hp
        rw [show_by _ 4 hb (by_4 a b c), nums_4]
        rfl
      · have hq : plainN ⟨5, a, b, c, m⟩ = ⟨5, a, b, c, 0⟩ := rfl
        rw [hq] at hp
        simp only [PM.Ins.mk.injEq, true_and, and_true] at hp
        obtain rfl := hp
        rw [show_by _ 5 hb (by_5 a b c), nums_5]
        rfl
      · have hq : plainN ⟨6, a, b, c, m⟩ = ⟨6, a, b, c, 0⟩ := rfl
        rw [hq] at hp
        simp only [PM.Ins.mk.injEq, true_and, and_true] at hp
        obtain rfl := hp
        rw [show_by _ 6 hb (by_6 a b c), nums_6]
        rfl
      · have hq : plainN ⟨7, a, b, c, m⟩ = ⟨7, a, b, c, 0⟩ := rfl
        rw [hq] at hp
        simp only [PM.Ins.mk.injEq, true_and, and_true] at hp
        obtain rfl := hp
        rw [show_by _ 7 hb (by_7 a b c), nums_7]
        rfl
      · have hq : plainN ⟨8, a, b, c, m⟩ = ⟨8, a, b, 0, m⟩ := rfl
        rw [hq] at hp
        simp only [PM.Ins.mk.injEq, true_and, and_true] at hp
        obtain rfl := hp
        rw [show_by _ 8 hb (by_8 a b m), nums_8]
        rfl
      · have hq : plainN ⟨13, a, b, c, m⟩ = ⟨13, a, b, 0, m⟩ := rfl
        rw [hq] at hp
        simp only [PM.Ins.mk.injEq, true_and, and_true] at hp
        obtain rfl := hp
        rw [show_by _ 9 hb (by_9 a b m), nums_9]
        rfl
      · have hq : plainN ⟨14, a, b, c, m⟩ = ⟨14, a, b, 0, m⟩ := rfl
        rw [hq] at hp
        simp only [PM.Ins.mk.injEq, true_and, and_true] at hp
        obtain rfl := hp
        rw [show_by _ 10 hb (by_10 a b m), nums_10]
        rfl
      · have hq : plainN ⟨9, a, b, c, m⟩ = ⟨9, a, b, c, m⟩ := rfl
        rw [hq] at hp
        rw [show_by _ 11 hb (by_11 a b c m), nums_11]
        rfl
      · have hq : plainN ⟨10, a, b, c, m⟩ = ⟨10, a, b, c, m⟩ := rfl
        rw [hq] at hp
        rw [show_by _ 12 hb (by_12 a b c m), nums_12]
        rfl
      · have hq : plainN ⟨12, a, b, c, m⟩ = ⟨12, 0, 0, 0, m⟩ := rfl
        rw [hq] at hp
        simp only [PM.Ins.mk.injEq, true_and, and_true] at hp
        obtain ⟨rfl, rfl, rfl⟩ := hp
        rw [show_by _ 13 hb (by_13 m), nums_13]
        rfl
      · have hq : plainN ⟨15, a, b, c, m⟩ = ⟨15, a, 0, 0, 0⟩ := rfl
        rw [hq] at hp
        simp only [PM.Ins.mk.injEq, true_and, and_true] at hp
        obtain ⟨rfl, rfl, rfl⟩ := hp
        rw [show_by _ 14 hb (by_14 a), nums_14]
        rfl
      · have hq : plainN ⟨16, a, b, c, m⟩ = ⟨16, 0, 0, 0, m⟩ := rfl
        rw [hq] at hp
        simp only [PM.Ins.mk.injEq, true_and, and_true] at hp
        obtain ⟨rfl, rfl, rfl⟩ := hp
        have hm : 1 ≤ m ∧ m ≤ 6 := by
          have e : (⟨16, 0, 0, 0, m⟩ : PM.Ins).bad = !decide (1 ≤ m ∧ m ≤ 6) := rfl
          rw [e] at hb
          simpa using hb
        have h6 : m = 1 ∨ m = 2 ∨ m = 3 ∨ m = 4 ∨ m = 5 ∨ m = 6 := by omega
        rcases h6 with rfl | rfl | rfl | rfl | rfl | rfl
        · rw [show_by _ 15 hb by_15, nums_15]
          rfl
        · rw [show_by _ 16 hb by_16, nums_16]
          rfl
        · rw [show_by _ 17 hb by_17, nums_17]
          rfl
        · rw [show_by _ 18 hb by_18, nums_18]
          rfl
        · rw [show_by _ 19 hb by_19, nums_19]
          rfl
        · rw [show_by _ 20 hb by_20, nums_20]
          rfl
    · rw [raw_by i (by unfold isRaw; rw [hb, decide_eq_true hp]; rfl)]
      rw [show_by i 21 hb (by_raw i (fun k hk h => hp (told_plain i k hk h))), nums_21]
      rfl
end Go.Proofs.YtklobjfhjlkgfaaDoor.TW
/- Plain: what is shown is guessed as it was. -/
namespace Go.Proofs.YtklobjfhjlkgfaaDoor.TW
open Go.RowKit
set_option linter.unusedVariables false
set_option maxRecDepth 100000
set_option linter.unusedSimpArgs false

def NoB (c : UInt8) (l : List UInt8) : Prop := ∀ x ∈ l, x ≠ c
theorem pre_one (b c : UInt8) (l : List UInt8) : [c].isPrefixOf (b :: l) = (c == b) := by simp [List.isPrefixOf]
theorem index_no (c : UInt8) : ∀ l : List UInt8, NoB c l → Lib.index l [c] = -1
  | [], _ => rfl
  | b :: l, h => by
    have hb : ¬ (c == b) = true := fun e => h b List.mem_cons_self (beq_iff_eq.1 e).symm
    rw [Lib.index, pre_one, if_neg hb, index_no c l (fun x hx => h x (List.mem_cons_of_mem _ hx))]
    rfl
theorem index_at (c : UInt8) (t : List UInt8) : ∀ l : List UInt8, NoB c l → Lib.index (l ++ c :: t) [c] = l.length
  | [], _ => by
    show Lib.index (c :: t) [c] = _
    rw [Lib.index, pre_one, if_pos (by simp)]
    rfl
  | b :: l, h => by
    have hb : ¬ (c == b) = true := fun e => h b List.mem_cons_self (beq_iff_eq.1 e).symm
    show Lib.index (b :: (l ++ c :: t)) [c] = _
    have ih := index_at c t l (fun x hx => h x (List.mem_cons_of_mem _ hx))
    have hne : ¬ (Lib.index (l ++ c :: t) [c] == -1) = true := by rw [ih, beq_iff_eq]; omega
    rw [Lib.index, pre_one, if_neg hb, if_neg hne, ih]
    simp
theorem tail_cons (sep x : List UInt8) (r : List (List UInt8)) : Lib.joinTail sep (x :: r) = sep ++ Lib.join (x :: r) sep := by
  rw [Lib.join_cons]
  simp [Lib.joinTail]
theorem split_join : ∀ (r : List (List UInt8)) (k : Nat) (x : List UInt8), NoB 32 x → (∀ y ∈ r, NoB 32 y) → r.length ≤ k → Lib.splitK [32] 0 k (Lib.join (x :: r) [32]) = x :: r
  | [], k, x, hx, _, _ => by
    rw [Lib.join_one]
    cases k with
    | zero => rfl
    | succ k => rw [Lib.splitK, index_no 32 x hx]; rfl
  | y :: r, 0, x, _, _, hk => by simp at hk
  | y :: r, k + 1, x, hx, hr, hk => by
    have ih := split_join r k y (hr y List.mem_cons_self) (fun z hz => hr z (List.mem_cons_of_mem _ hz)) (by simp at hk; omega)
    have e : Lib.join (x :: y :: r) [32] = x ++ 32 :: Lib.join (y :: r) [32] := by
      rw [Lib.join_cons, tail_cons]
      rfl
    have hi := index_at 32 (Lib.join (y :: r) [32]) x hx
    have hne : ¬ (Lib.index (x ++ 32 :: Lib.join (y :: r) [32]) [32] == -1) = true := by rw [hi, beq_iff_eq]; omega
    rw [e, Lib.splitK, if_neg hne, hi]
    have h1 : ((x.length : Int)).toNat = x.length := by omega
    rw [h1]
    have h2 : (x ++ 32 :: Lib.join (y :: r) [32]).take (x.length + 0) = x := by simp
    have h3 : (x ++ 32 :: Lib.join (y :: r) [32]).drop (x.length + [(32 : UInt8)].length) = Lib.join (y :: r) [32] := by
      rw [List.drop_append]
      simp
    rw [h2, h3, ih]
theorem digit_val (d : Nat) (h : d < 10) : (UInt8.ofNat (48 + d)).toNat = 48 + d := by
  rw [UInt8.toNat_ofNat']
  omega
theorem dec_byte : ∀ (n u : Nat), u ≤ n → ∀ x ∈ Lib.decDigits u, 48 ≤ x.toNat ∧ x.toNat ≤ 57
  | 0, u, h, x, hx => by
    rw [Lib.decDigits, dif_pos (by omega)] at hx
    obtain rfl := List.mem_singleton.1 hx
    rw [digit_val u (by omega)]; omega
  | n + 1, u, h, x, hx => by
    by_cases c : u < 10
    · rw [Lib.decDigits, dif_pos c] at hx
      obtain rfl := List.mem_singleton.1 hx
      rw [digit_val u c]; omega
    · rw [Lib.decDigits, dif_neg c] at hx
      rcases List.mem_append.1 hx with hx | hx
      · exact dec_byte n (u / 10) (by omega) x hx
      · obtain rfl := List.mem_singleton.1 hx
        rw [digit_val (u % 10) (by omega)]; omega
theorem itoa_byte (n : Int) : ∀ x ∈ Lib.itoa n, x.toNat = 45 ∨ 48 ≤ x.toNat ∧ x.toNat ≤ 57 := by
  intro x hx
  unfold Lib.itoa at hx
  split at hx
  · rcases List.mem_cons.1 hx with rfl | hx
    · exact .inl rfl
    · exact .inr (dec_byte _ _ (Nat.le_refl _) x hx)
  · exact .inr (dec_byte _ _ (Nat.le_refl _) x hx)
theorem itoa_no (n : Int) (c : UInt8) (hc : c.toNat < 45) : NoB c (Lib.itoa n) := by
  intro x hx e
  have := itoa_byte n x hx
  rw [e] at this
  omega
theorem parse_snoc (l : List UInt8) (c : UInt8) : ∀ (acc u : Nat), Lib.parseUint10 acc l = .ok u → Lib.parseUint10 acc (l ++ [c]) = Lib.parseUint10 u [c] := by
  induction l with
  | nil => intro acc u h; simp only [Lib.parseUint10] at h; injection h with h; rw [h]; rfl
  | cons b l ih =>
    intro acc u h
    show Lib.parseUint10 acc (b :: (l ++ [c])) = _
    rw [Lib.parseUint10] at h ⊢
    split at h
    · rename_i h1
      split at h
      · cases h
      · rename_i h2
        split at h
        · cases h
        · rename_i h3
          rw [if_pos h1, if_neg h2, if_neg h3]
          exact ih _ _ h
    · cases h
theorem parse_dec : ∀ (n u : Nat), u ≤ n → u < 18446744073709551616 → Lib.parseUint10 0 (Lib.decDigits u) = .ok u
  | 0, u, h, hu => by
    obtain rfl : u = 0 := by omega
    rw [Lib.decDigits, dif_pos (by omega)]
    rfl
  | n + 1, u, h, hu => by
    by_cases c : u < 10
    · rw [Lib.decDigits, dif_pos c, Lib.parseUint10, digit_val u c, if_pos (by omega), if_neg (by omega), if_neg (by omega)]
      simp only [Lib.parseUint10]
      congr 1
      omega
    · have ih := parse_dec n (u / 10) (by omega) (by omega)
      rw [Lib.decDigits, dif_neg c, parse_snoc _ _ _ _ ih, Lib.parseUint10, digit_val (u % 10) (by omega), if_pos (by omega), if_neg (by omega), if_neg (by omega)]
      simp only [Lib.parseUint10]
      congr 1
      omega
theorem dec_ne : ∀ u : Nat, Lib.decDigits u ≠ [] := fun u => by
  by_cases c : u < 10
  · rw [Lib.decDigits, dif_pos c]; simp
  · rw [Lib.decDigits, dif_neg c]; simp
theorem atoi_itoa (n : Int) (h : I64 n) : Lib.atoiAll (Lib.itoa n) = .ok n := by
  unfold I64 at h
  by_cases c : n < 0
  · have e : Lib.itoa n = 45 :: Lib.decDigits n.natAbs := by unfold Lib.itoa; rw [if_pos c]
    rw [e]
    have hp := parse_dec _ n.natAbs (Nat.le_refl _) (by omega)
    have hm : Lib.parseMag (Lib.decDigits n.natAbs) = .ok n.natAbs := by unfold Lib.parseMag; rw [if_neg (dec_ne _), hp]
    unfold Lib.atoiAll
    simp only
    rw [if_pos (by right; rfl), hm]
    simp only
    rw [if_neg (by intro g; exact g.1 rfl), if_neg (by omega), if_pos (by rfl)]
    congr 1
    omega
  · have e : Lib.itoa n = Lib.decDigits n.toNat := by unfold Lib.itoa; rw [if_neg c]
    rw [e]
    have hp := parse_dec _ n.toNat (Nat.le_refl _) (by omega)
    have hb := dec_byte _ n.toNat (Nat.le_refl _)
    have hne := dec_ne n.toNat
    cases hd : Lib.decDigits n.toNat with
    | nil => exact (hne hd).elim
    | cons b l =>
      rw [hd] at hp hb
      have hbb := hb b List.mem_cons_self
      have hm : Lib.parseMag (b :: l) = .ok n.toNat := by unfold Lib.parseMag; rw [if_neg (by simp), hp]
      unfold Lib.atoiAll
      simp only
      rw [if_neg (by omega), hm]
      simp only
      rw [if_neg (by omega), if_neg (by omega), if_neg (by omega)]
      congr 1
      omega
/-- a row of the table is the one of its name -/
theorem look_row (k : Nat) (h : k < 22) : lookTo (rowAt k).name 22 = some (rowAt k) := by
  have hk : k = 0 ∨ k = 1 ∨ k = 2 ∨ k = 3 ∨ k = 4 ∨ k = 5 ∨ k = 6 ∨ k = 7 ∨ k = 8 ∨ k = 9 ∨ k = 10 ∨ k = 11 ∨ k = 12 ∨ k = 13 ∨ k = 14 ∨ k = 15 ∨ k = 16 ∨ k = 17 ∨ k = 18 ∨ k = 19 ∨ k = 20 ∨ k = 21 := by omega
  rcases hk with rfl | rfl | rfl | rfl | rfl | rfl | rfl | rfl | rfl | rfl | rfl | rfl | rfl | rfl | rfl | rfl | rfl | rfl | rfl | rfl | rfl | rfl <;> rfl
theorem rows_noB : (noRow :: tableL).all (fun r => r.name.data.toList.all fun c => decide (c ≠ 32 ∧ c ≠ 10)) = true := by decide
theorem row_noB (k : Nat) : ∀ c ∈ (rowAt k).name.data.toList, c ≠ 32 ∧ c ≠ 10 := by
  have h := List.all_eq_true.1 rows_noB _ (row_mem k)
  intro c hc
  have := List.all_eq_true.1 h c hc
  simpa using this
theorem rowFrom_in (i : PM.Ins) : ∀ n k, n + k = 22 → ∃ j, j < 22 ∧ rowFrom i n k = rowAt j ∧ (toldN (rowAt j) i = i)
  | 0, k, _ => ⟨21, by omega, rfl, told_21 i⟩
  | n + 1, k, h => by
    unfold rowFrom
    split
    · rename_i hh; exact ⟨k, by omega, rfl, hh⟩
    · exact rowFrom_in i n (k + 1) (by omega)
/-- the row that an instruction is shown by is of the table, and tells it whole -/
theorem rowOf_tells (i : PM.Ins) (bad : Bool) : ∃ j, j < 22 ∧ rowOfN i bad = rowAt j ∧ toldN (rowAt j) i = i := by
  cases bad with
  | true => exact ⟨21, by omega, rfl, told_21 i⟩
  | false => exact rowFrom_in i 22 0 rfl
theorem guessTo_told (r : Row) (i : PM.Ins) (s : ByteArray) : ∀ k, (∀ j, j < k → Lib.atoiAll (wordAt s (1 + j)).data.toList = .ok (partL r i j)) → guessTo r s k = some (toldTo r i k)
  | 0, _ => rfl
  | k + 1, h => by
    rw [guessTo, guessTo_told r i s k (fun j hj => h j (by omega)), h k (by omega)]
    rfl
theorem show_list (i : PM.Ins) (r : Row) (hr : rowOfN i i.bad = r) : (showN i).data.toList = Lib.join ((wordL r i r.parts.size).map (·.data.toList)) [32] := by
  unfold showN
  rw [hr, ← show_eq]
theorem split_show (i : PM.Ins) (k : Nat) (hr : rowOfN i i.bad = rowAt k) : splitW (showN i) = wordL (rowAt k) i (rowAt k).parts.size := by
  have hl := show_list i (rowAt k) hr
  have hp := row_size k
  have hmap : (splitW (showN i)).map (·.data.toList) = (wordL (rowAt k) i (rowAt k).parts.size).map (·.data.toList) := by
    unfold splitW
    rw [Lib.splitB_data, hl]
    show Lib.splitK [32] 0 _ (Lib.join ((rowAt k).name.data.toList :: ((List.range (rowAt k).parts.size).map fun j => itoaS (partL (rowAt k) i j)).map (·.data.toList)) [32]) = _
    refine split_join _ _ _ (fun x hx => (row_noB k x hx).1) ?_ ?_
    · intro y hy
      rw [List.map_map] at hy
      obtain ⟨j, _, rfl⟩ := List.mem_map.1 hy
      show NoB 32 (itoaS (partL (rowAt k) i j)).data.toList
      have : (itoaS (partL (rowAt k) i j)).data.toList = Lib.itoa (partL (rowAt k) i j) := by unfold itoaS; simp
      rw [this]
      exact itoa_no _ 32 (by decide)
    · have h5 : (((List.range (rowAt k).parts.size).map fun j => itoaS (partL (rowAt k) i j)).map (·.data.toList)).length = (rowAt k).parts.size := by simp
      rw [h5]
      have hsz : (rowAt k).parts.size ≤ (showN i).size := by
        have e2 : (showN i).size = (showN i).data.toList.length := Lib.size_eq _
        rw [e2, hl]
        show _ ≤ (Lib.join ((rowAt k).name.data.toList :: ((List.range (rowAt k).parts.size).map fun j => itoaS (partL (rowAt k) i j)).map (·.data.toList)) [32]).length
        rw [Lib.join_length, h5]
        simp
      omega
  have inj : ∀ (a b : List ByteArray), a.map (·.data.toList) = b.map (·.data.toList) → a = b := by
    intro a
    induction a with
    | nil => intro b h; cases b with
      | nil => rfl
      | cons y b => simp at h
    | cons x a ih => intro b h; cases b with
      | nil => simp at h
      | cons y b =>
        simp only [List.map_cons, List.cons.injEq] at h
        rw [str_data h.1, ih b h.2]
  exact inj _ _ hmap
/-- what is shown is guessed as it was -/
theorem guess_show (i : PM.Ins) (hf : i.fits) : guessN (showN i) = some i := by
  obtain ⟨k, hk, hr, ht⟩ := rowOf_tells i i.bad
  have hs := split_show i k hr
  have h0 : wordAt (showN i) 0 = (rowAt k).name := by unfold wordAt; rw [hs]; rfl
  have hlk := look_row k hk
  have hR : lookR (rowAt k).name = rowAt k := by unfold lookR; rw [hlk]; rfl
  have hB : lookB (rowAt k).name = true := by unfold lookB; rw [hlk]; rfl
  have hlen : (splitW (showN i)).length = (rowAt k).parts.size + 1 := by rw [hs, wordL_length]
  unfold guessN
  rw [h0, hR, if_pos ⟨hB, hlen⟩, guessTo_told (rowAt k) i]
  · show some (toldN (rowAt k) i) = _
    rw [ht]
  · intro j hj
    have hw : wordAt (showN i) (1 + j) = itoaS (partL (rowAt k) i j) := by
      unfold wordAt wordL at *
      rw [hs, List.getD_eq_getElem?_getD, Nat.add_comm 1 j, List.getElem?_cons_succ, List.getElem?_map, List.getElem?_range hj]
      rfl
    rw [hw]
    have : (itoaS (partL (rowAt k) i j)).data.toList = Lib.itoa (partL (rowAt k) i j) := by unfold itoaS; simp
    rw [this]
    exact atoi_itoa _ (partL_i64 _ i hf j)
theorem read_show (i : PM.Ins) (hf : i.fits) : readN (showN i) = some i := by
  unfold readN
  rw [guess_show i hf]
  show (if i.fits ∧ showN i = showN i then some i else none) = _
  rw [if_pos ⟨hf, rfl⟩]
end Go.Proofs.YtklobjfhjlkgfaaDoor.TW
/- The program's List. -/
namespace Go.Proofs.YtklobjfhjlkgfaaDoor.TW
open Go.RowKit
set_option linter.unusedVariables false
set_option maxRecDepth 100000
set_option linter.unusedSimpArgs false

def chunk (s : ByteArray) (k : Nat) : ByteArray := s.extract (8 * k) (8 * k + 8)
theorem chunk_size (s : ByteArray) (k : Nat) (h : 8 * k + 8 ≤ s.size) : (chunk s k).size = 8 := by
  unfold chunk
  rw [ByteArray.size_extract]
  omega
def nl : ByteArray := ⟨#[10]⟩
/-- the lines of the first k instructions -/
def listTo (s : ByteArray) : Nat → ByteArray
  | 0 => ⟨#[]⟩
  | k + 1 => listTo s k ++ (showN (PM.ins (chunk s k)) ++ nl)
def listN (s : ByteArray) : ByteArray × Int := if 512 < s.size / 8 then (⟨#[]⟩, 2) else if s.size % 8 ≠ 0 then (⟨#[]⟩, 3) else (listTo s (s.size / 8), 0)
theorem show_size (i : PM.Ins) (hf : i.fits) : (showN i).size ≤ 200 := by
  unfold showN
  obtain ⟨k, hk⟩ := rowOf_in i i.bad
  have hn := (row_fine k).2.2.1
  have hp := row_size k
  rw [hk]
  have hl : (numsOf (rowAt k) i).length = (rowAt k).parts.size := by simp [numsOf]
  have h1 := wordsTo_size (rowAt k).name (numsOf (rowAt k) i) (fun j hj => by
    have hj2 : j < (rowAt k).parts.size := by omega
    unfold numsOf
    rw [List.getD_eq_getElem?_getD, List.getElem?_map, List.getElem?_range hj2]
    exact partL_i64 (rowAt k) i hf j) (numsOf (rowAt k) i).length (Nat.le_refl _)
  show (wordsTo (rowAt k).name (numsOf (rowAt k) i) (numsOf (rowAt k) i).length).size ≤ _
  omega
theorem list_size (s : ByteArray) : ∀ k, 8 * k ≤ s.size → (listTo s k).size ≤ 201 * k
  | 0, _ => by show 0 ≤ _; omega
  | k + 1, h => by
    have ih := list_size s k (by omega)
    have h1 := show_size (PM.ins (chunk s k)) (PM.ins_fits _ (chunk_size s k (by omega)))
    show (listTo s k ++ (showN (PM.ins (chunk s k)) ++ nl)).size ≤ _
    rw [ByteArray.size_append, ByteArray.size_append]
    have : nl.size = 1 := rfl
    omega
set_option maxHeartbeats 4000000 in
theorem list_any (s : ByteArray) (w : World) (tb o cap : Nat) (hl : Lay tb o cap w) (hs : s.size < 4294967281) : Calls Tryd.prog 13 #[.string s] w fun e w' => e = .returned (.tuple #[.string (listN s).1, .int .i64 (listN s).2]) ∧ Below w.heap.size w w' := by
  have HL := hideC hl
  by_cases h1 : 512 < s.size / 8
  · have HN : Hid (listN s = (⟨#[]⟩, 2)) := by show _ = _; unfold listN; rw [if_pos h1]
    rw [HN.out]
    have h2 : (512 : Int) < (s.size : Int) / 8 := by omega
    clear h1 hl
    go_enter Tryd.func13, Tryd.ntmps13
    go_wp2
    go_ret2
    exact ⟨rfl, Below.refl _ _⟩
  · have h2 : ¬ (512 : Int) < (s.size : Int) / 8 := by omega
    by_cases h3 : s.size % 8 = 0
    · have HN : Hid (listN s = (listTo s (s.size / 8), 0)) := by show _ = _; unfold listN; rw [if_neg h1, if_neg (by omega)]
      rw [HN.out]
      have h4 : (s.size : Int) % 8 = 0 := by omega
      obtain ⟨K, hK⟩ : ∃ K, K = s.size / 8 := ⟨_, rfl⟩
      rw [← hK]
      have HK : Hid (s.size = 8 * K) := by show _ = _; omega
      have hK5 : K ≤ 512 := by omega
      clear h1 h3 hl hK
      go_enter Tryd.func13, Tryd.ntmps13
      go_wp2
      have HLZ := hideC (list_size s)
      have HL0 : Hid (listTo s 0 = ⟨#[]⟩) := rfl
      have HLS : Hid (∀ k, listTo s (k + 1) = listTo s k ++ (showN (PM.ins (chunk s k)) ++ nl)) := fun k => rfl
      clear h4 h2
      go_loopw [4, 5] (fun lv av wr => ∃ k p : Nat, p = 8 * k ∧ k ≤ K ∧ av = .int .i64 (p : Int) ∧ lv = .string (listTo s k) ∧ Below w.heap.size w wr) (fun _ av _ => s.size - (intOf av).toNat)
      case atStart => exact ⟨0, 0, rfl, by omega, rfl, rfl, Below.refl _ _⟩
      case round =>
        obtain ⟨k, p, hp, hk, rfl, rfl, hb⟩ := hrel
        have HP := hideC hp
        have HB := hideC hb
        clear hb
        by_cases hlt : k < K
        · have hsz : p + 8 ≤ s.size := by have := HK.out; omega
          have hi1 : (p : Int) < (s.size : Int) := by omega
          have hz := HLZ.out k (by have := HK.out; omega)
          have hz1 := HLZ.out (k + 1) (by have := HK.out; omega)
          have hck : s.extract p (p + 8) = chunk s k := by rw [hp]; rfl
          have hc8 := chunk_size s k (by have := HK.out; omega)
          have hfi := PM.ins_fits _ hc8
          have HD : Hid (∀ V, Calls Tryd.prog 33 #[.string (chunk s k)] V fun e w' => e = .returned (.tuple #[.agg #[.int .i64 (PM.ins (chunk s k)).op, .int .i64 (PM.ins (chunk s k)).a, .int .i64 (PM.ins (chunk s k)).b, .int .i64 (PM.ins (chunk s k)).c, .int .i64 (PM.ins (chunk s k)).m], .int .i64 0]) ∧ Below V.heap.size V w') := fun V => PW.decode_yes (chunk s k) V hc8
          have HSH : Hid (∀ V, Lay tb o cap V → Calls Tryd.prog 6 #[.agg #[.int .i64 (PM.ins (chunk s k)).op, .int .i64 (PM.ins (chunk s k)).a, .int .i64 (PM.ins (chunk s k)).b, .int .i64 (PM.ins (chunk s k)).c, .int .i64 (PM.ins (chunk s k)).m]] V fun e w' => e = .returned (.tuple #[.string (showN (PM.ins (chunk s k))), .int .i64 0]) ∧ Below V.heap.size V w') := fun V hV => show_yes (PM.ins (chunk s k)) V tb o cap hV hfi
          have hss := show_size _ hfi
          have HST := hideC (HLS.out k)
          obtain ⟨i, hi⟩ : ∃ i, i = PM.ins (chunk s k) := ⟨_, rfl⟩
          rw [← hi] at HD HSH hss HST
          rw [← hck] at HD
          obtain ⟨S, hS⟩ : ∃ S, S = showN i := ⟨_, rfl⟩
          rw [← hS] at HSH hss HST
          clear hi hS hck hc8 hfi hp
          obtain ⟨A, hA⟩ : ∃ A, A = listTo s k := ⟨_, rfl⟩
          rw [← hA] at hz HST ⊢
          clear hA
          have hpn : ((p : Int) + 8).toNat = p + 8 := by omega
          go_wp2_with (first
            | (go_at_call 33; refine (HD.out _).mono ?_; rintro e w2 ⟨rfl, hb2⟩; have HB2 := hideC (add_below HB.out hb2); clear hb2)
            | (go_at_call 6; refine (HSH.out _ (HL.out.below (HB2.out.alloc HB2.out.size _))).mono ?_; rintro e w3 ⟨rfl, hb3⟩; have HB3 := hideC (add_below (HB2.out.alloc HB2.out.size _) hb3); clear hb3))
          go_roundw
          case rel => exact ⟨k + 1, p + 8, by have := HP.out; omega, by omega, by go_num, by rw [HST.out]; rfl, HB3.out⟩
          case measure => simp [intOf]; omega
        · obtain rfl : k = K := by omega
          have hge : ¬ (p : Int) < (s.size : Int) := by have := HK.out; omega
          clear hp
          go_wp2
          go_ret2
          exact ⟨rfl, HB.out⟩
    · have HN : Hid (listN s = (⟨#[]⟩, 3)) := by show _ = _; unfold listN; rw [if_neg h1, if_pos h3]
      rw [HN.out]
      have h4 : ¬ (s.size : Int) % 8 = 0 := by omega
      clear h1 h3 hl
      go_enter Tryd.func13, Tryd.ntmps13
      go_wp2
      go_ret2
      exact ⟨rfl, Below.refl _ _⟩
end Go.Proofs.YtklobjfhjlkgfaaDoor.TW
