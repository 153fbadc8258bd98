import Derived.Test.YtklobjfhjlkgfaaDoorGS10
import Derived.Test.YtklobjfhjlkgfaaDoorGS04
import Derived.Maps.OwnSet
import Derived.StringKeys
import Derived.Test.YtklobjfhjlkgfaaDoorGS07
/- The reference's InstrText, of every instruction that may be. -/
namespace Go.Proofs.YtklobjfhjlkgfaaDoor.TW
open Go.RowKit
set_option linter.unusedVariables false
set_option maxRecDepth 100000
set_option linter.unusedSimpArgs false

theorem text_plain (i : PM.Ins) (hr : isRaw i = false) : textN i = if i.op = 16 then callL.getD i.m.toNat (str []) else wordsS (opL.getD i.op.toNat (str [])) (partsN i) := by
  unfold textN
  rw [hr]
  rfl
theorem fits_all {xs : List Int} (h : ∀ x ∈ xs, -2147483648 ≤ x ∧ x ≤ 2147483647) : ∀ k, k < xs.length → I64 (xs.getD k 0) := fun k hk => by
  have h1 := h (xs.getD k 0) (by
    rw [List.getD_eq_getElem?_getD, List.getElem?_eq_getElem hk]
    exact List.getElem_mem hk)
  unfold I64
  omega
theorem shown_1 (a b c m : Int) (w : World) (hb : (⟨1, a, b, c, m⟩ : PM.Ins).bad = false) (hp : plainN ⟨1, a, b, c, m⟩ = ⟨1, a, b, c, m⟩) (hf : (⟨1, a, b, c, m⟩ : PM.Ins).fits) :
    Calls Tryd.prog 8 #[.agg (⟨1, a, b, c, m⟩ : PM.Ins).cells] w fun e w' => e = .returned (.string (textN ⟨1, a, b, c, m⟩)) ∧ Below w.heap.size w w' := by
  have hr : isRaw ⟨1, a, b, c, m⟩ = false := by unfold isRaw; rw [hb, hp]; simp
  have hq : plainN ⟨1, a, b, c, m⟩ = ⟨1, a, 0, 0, m⟩ := rfl
  rw [hq] at hp
  simp only [PM.Ins.mk.injEq, true_and, and_true] at hp
  unfold PM.Ins.fits PM.Byt at hf
  simp only at hf
  have ht : textN ⟨1, a, b, c, m⟩ = wordsS (opL.getD 1 (str [])) [a, m] := text_plain _ hr
  rw [ht]
  obtain ⟨rfl, rfl⟩ := hp
  refine show_1 a m w (fun V => ?_) (fits_all (fun x hx => ?_))
  · have hh := PW.isBadR_any ⟨1, a, 0, 0, m⟩ V
    rw [hb] at hh
    exact hh
  · simp only [List.mem_cons, List.not_mem_nil, or_false] at hx
    omega
theorem shown_2 (a b c m : Int) (w : World) (hb : (⟨2, a, b, c, m⟩ : PM.Ins).bad = false) (hp : plainN ⟨2, a, b, c, m⟩ = ⟨2, a, b, c, m⟩) (hf : (⟨2, a, b, c, m⟩ : PM.Ins).fits) :
    Calls Tryd.prog 8 #[.agg (⟨2, a, b, c, m⟩ : PM.Ins).cells] w fun e w' => e = .returned (.string (textN ⟨2, a, b, c, m⟩)) ∧ Below w.heap.size w w' := by
  have hr : isRaw ⟨2, a, b, c, m⟩ = false := by unfold isRaw; rw [hb, hp]; simp
  have hq : plainN ⟨2, a, b, c, m⟩ = ⟨2, a, b, c, 0⟩ := rfl
  rw [hq] at hp
  simp only [PM.Ins.mk.injEq, true_and, and_true] at hp
  unfold PM.Ins.fits PM.Byt at hf
  simp only at hf
  have ht : textN ⟨2, a, b, c, m⟩ = wordsS (opL.getD 2 (str [])) [a, b, c] := text_plain _ hr
  rw [ht]
  obtain rfl := hp
  refine show_2 a b c w (fun V => ?_) (fits_all (fun x hx => ?_))
  · have hh := PW.isBadR_any ⟨2, a, b, c, 0⟩ V
    rw [hb] at hh
    exact hh
  · simp only [List.mem_cons, List.not_mem_nil, or_false] at hx
    omega
theorem shown_3 (a b c m : Int) (w : World) (hb : (⟨3, a, b, c, m⟩ : PM.Ins).bad = false) (hp : plainN ⟨3, a, b, c, m⟩ = ⟨3, a, b, c, m⟩) (hf : (⟨3, a, b, c, m⟩ : PM.Ins).fits) :
    Calls Tryd.prog 8 #[.agg (⟨3, a, b, c, m⟩ : PM.Ins).cells] w fun e w' => e = .returned (.string (textN ⟨3, a, b, c, m⟩)) ∧ Below w.heap.size w w' := by
  have hr : isRaw ⟨3, a, b, c, m⟩ = false := by unfold isRaw; rw [hb, hp]; simp
  have hq : plainN ⟨3, a, b, c, m⟩ = ⟨3, a, b, c, 0⟩ := rfl
  rw [hq] at hp
  simp only [PM.Ins.mk.injEq, true_and, and_true] at hp
  unfold PM.Ins.fits PM.Byt at hf
  simp only at hf
  have ht : textN ⟨3, a, b, c, m⟩ = wordsS (opL.getD 3 (str [])) [a, b, c] := text_plain _ hr
  rw [ht]
  obtain rfl := hp
  refine show_3 a b c w (fun V => ?_) (fits_all (fun x hx => ?_))
  · have hh := PW.isBadR_any ⟨3, a, b, c, 0⟩ V
    rw [hb] at hh
    exact hh
  · simp only [List.mem_cons, List.not_mem_nil, or_false] at hx
    omega
theorem shown_4 (a b c m : Int) (w : World) (hb : (⟨4, a, b, c, m⟩ : PM.Ins).bad = false) (hp : plainN ⟨4, a, b, c, m⟩ = ⟨4, a, b, c, m⟩) (hf : (⟨4, a, b, c, m⟩ : PM.Ins).fits) :
    Calls Tryd.prog 8 #[.agg (⟨4, a, b, c, m⟩ : PM.Ins).cells] w fun e w' => e = .returned (.string (textN ⟨4, a, b, c, m⟩)) ∧ Below w.heap.size w w' := by
  have hr : isRaw ⟨4, a, b, c, m⟩ = false := by unfold isRaw; rw [hb, hp]; simp
  have hq : plainN ⟨4, a, b, c, m⟩ = ⟨4, a, b, c, 0⟩ := rfl
  rw [hq] at hp
  simp only [PM.Ins.mk.injEq, true_and, and_true] at hp
  unfold PM.Ins.fits PM.Byt at hf
  simp only at hf
  have ht : textN ⟨4, a, b, c, m⟩ = wordsS (opL.getD 4 (str [])) [a, b, c] := text_plain _ hr
  rw [ht]
  obtain rfl := hp
  refine show_4 a b c w (fun V => ?_) (fits_all (fun x hx => ?_))
  · have hh := PW.isBadR_any ⟨4, a, b, c, 0⟩ V
    rw [hb] at hh
    exact hh
  · simp only [List.mem_cons, List.not_mem_nil, or_false] at hx
    omega
theorem shown_5 (a b c m : Int) (w : World) (hb : (⟨5, a, b, c, m⟩ : PM.Ins).bad = false) (hp : plainN ⟨5, a, b, c, m⟩ = ⟨5, a, b, c, m⟩) (hf : (⟨5, a, b, c, m⟩ : PM.Ins).fits) :
    Calls Tryd.prog 8 #[.agg (⟨5, a, b, c, m⟩ : PM.Ins).cells] w fun e w' => e = .returned (.string (textN ⟨5, a, b, c, m⟩)) ∧ Below w.heap.size w w' := by
  have hr : isRaw ⟨5, a, b, c, m⟩ = false := by unfold isRaw; rw [hb, hp]; simp
  have hq : plainN ⟨5, a, b, c, m⟩ = ⟨5, a, b, c, 0⟩ := rfl
  rw [hq] at hp
  simp only [PM.Ins.mk.injEq, true_and, and_true] at hp
  unfold PM.Ins.fits PM.Byt at hf
  simp only at hf
  have ht : textN ⟨5, a, b, c, m⟩ = wordsS (opL.getD 5 (str [])) [a, b, c] := text_plain _ hr
  rw [ht]
  obtain rfl := hp
  refine show_5 a b c w (fun V => ?_) (fits_all (fun x hx => ?_))
  · have hh := PW.isBadR_any ⟨5, a, b, c, 0⟩ V
    rw [hb] at hh
    exact hh
  · simp only [List.mem_cons, List.not_mem_nil, or_false] at hx
    omega
theorem shown_6 (a b c m : Int) (w : World) (hb : (⟨6, a, b, c, m⟩ : PM.Ins).bad = false) (hp : plainN ⟨6, a, b, c, m⟩ = ⟨6, a, b, c, m⟩) (hf : (⟨6, a, b, c, m⟩ : PM.Ins).fits) :
    Calls Tryd.prog 8 #[.agg (⟨6, a, b, c, m⟩ : PM.Ins).cells] w fun e w' => e = .returned (.string (textN ⟨6, a, b, c, m⟩)) ∧ Below w.heap.size w w' := by
  have hr : isRaw ⟨6, a, b, c, m⟩ = false := by unfold isRaw; rw [hb, hp]; simp
  have hq : plainN ⟨6, a, b, c, m⟩ = ⟨6, a, b, c, 0⟩ := rfl
  rw [hq] at hp
  simp only [PM.Ins.mk.injEq, true_and, and_true] at hp
  unfold PM.Ins.fits PM.Byt at hf
  simp only at hf
  have ht : textN ⟨6, a, b, c, m⟩ = wordsS (opL.getD 6 (str [])) [a, b, c] := text_plain _ hr
  rw [ht]
  obtain rfl := hp
  refine show_6 a b c w (fun V => ?_) (fits_all (fun x hx => ?_))
  · have hh := PW.isBadR_any ⟨6, a, b, c, 0⟩ V
    rw [hb] at hh
    exact hh
  · simp only [List.mem_cons, List.not_mem_nil, or_false] at hx
    omega
theorem shown_7 (a b c m : Int) (w : World) (hb : (⟨7, a, b, c, m⟩ : PM.Ins).bad = false) (hp : plainN ⟨7, a, b, c, m⟩ = ⟨7, a, b, c, m⟩) (hf : (⟨7, a, b, c, m⟩ : PM.Ins).fits) :
    Calls Tryd.prog 8 #[.agg (⟨7, a, b, c, m⟩ : PM.Ins).cells] w fun e w' => e = .returned (.string (textN ⟨7, a, b, c, m⟩)) ∧ Below w.heap.size w w' := by
  have hr : isRaw ⟨7, a, b, c, m⟩ = false := by unfold isRaw; rw [hb, hp]; simp
  have hq : plainN ⟨7, a, b, c, m⟩ = ⟨7, a, b, c, 0⟩ := rfl
  rw [hq] at hp
  simp only [PM.Ins.mk.injEq, true_and, and_true] at hp
  unfold PM.Ins.fits PM.Byt at hf
  simp only at hf
  have ht : textN ⟨7, a, b, c, m⟩ = wordsS (opL.getD 7 (str [])) [a, b, c] := text_plain _ hr
  rw [ht]
  obtain rfl := hp
  refine show_7 a b c w (fun V => ?_) (fits_all (fun x hx => ?_))
  · have hh := PW.isBadR_any ⟨7, a, b, c, 0⟩ V
    rw [hb] at hh
    exact hh
  · simp only [List.mem_cons, List.not_mem_nil, or_false] at hx
    omega
theorem shown_8 (a b c m : Int) (w : World) (hb : (⟨8, a, b, c, m⟩ : PM.Ins).bad = false) (hp : plainN ⟨8, a, b, c, m⟩ = ⟨8, a, b, c, m⟩) (hf : (⟨8, a, b, c, m⟩ : PM.Ins).fits) :
    Calls Tryd.prog 8 #[.agg (⟨8, a, b, c, m⟩ : PM.Ins).cells] w fun e w' => e = .returned (.string (textN ⟨8, a, b, c, m⟩)) ∧ Below w.heap.size w w' := by
  have hr : isRaw ⟨8, a, b, c, m⟩ = false := by unfold isRaw; rw [hb, hp]; simp
  have hq : plainN ⟨8, a, b, c, m⟩ = ⟨8, a, b, 0, m⟩ := rfl
  rw [hq] at hp
  simp only [PM.Ins.mk.injEq, true_and, and_true] at hp
  unfold PM.Ins.fits PM.Byt at hf
  simp only at hf
  have ht : textN ⟨8, a, b, c, m⟩ = wordsS (opL.getD 8 (str [])) [a, b, m] := text_plain _ hr
  rw [ht]
  obtain rfl := hp
  refine show_8 a b m w (fun V => ?_) (fits_all (fun x hx => ?_))
  · have hh := PW.isBadR_any ⟨8, a, b, 0, m⟩ V
    rw [hb] at hh
    exact hh
  · simp only [List.mem_cons, List.not_mem_nil, or_false] at hx
    omega
theorem shown_9 (a b c m : Int) (w : World) (hb : (⟨9, a, b, c, m⟩ : PM.Ins).bad = false) (hp : plainN ⟨9, a, b, c, m⟩ = ⟨9, a, b, c, m⟩) (hf : (⟨9, a, b, c, m⟩ : PM.Ins).fits) :
    Calls Tryd.prog 8 #[.agg (⟨9, a, b, c, m⟩ : PM.Ins).cells] w fun e w' => e = .returned (.string (textN ⟨9, a, b, c, m⟩)) ∧ Below w.heap.size w w' := by
  have hr : isRaw ⟨9, a, b, c, m⟩ = false := by unfold isRaw; rw [hb, hp]; simp
  have hq : plainN ⟨9, a, b, c, m⟩ = ⟨9, a, b, c, m⟩ := rfl
  rw [hq] at hp
  simp only [PM.Ins.mk.injEq, true_and, and_true] at hp
  unfold PM.Ins.fits PM.Byt at hf
  simp only at hf
  have ht : textN ⟨9, a, b, c, m⟩ = wordsS (opL.getD 9 (str [])) [a, b, m, c] := text_plain _ hr
  rw [ht]
  refine show_9 a b c m w (fun V => ?_) (fits_all (fun x hx => ?_))
  · have hh := PW.isBadR_any ⟨9, a, b, c, m⟩ V
    rw [hb] at hh
    exact hh
  · simp only [List.mem_cons, List.not_mem_nil, or_false] at hx
    omega
theorem shown_10 (a b c m : Int) (w : World) (hb : (⟨10, a, b, c, m⟩ : PM.Ins).bad = false) (hp : plainN ⟨10, a, b, c, m⟩ = ⟨10, a, b, c, m⟩) (hf : (⟨10, a, b, c, m⟩ : PM.Ins).fits) :
    Calls Tryd.prog 8 #[.agg (⟨10, a, b, c, m⟩ : PM.Ins).cells] w fun e w' => e = .returned (.string (textN ⟨10, a, b, c, m⟩)) ∧ Below w.heap.size w w' := by
  have hr : isRaw ⟨10, a, b, c, m⟩ = false := by unfold isRaw; rw [hb, hp]; simp
  have hq : plainN ⟨10, a, b, c, m⟩ = ⟨10, a, b, c, m⟩ := rfl
  rw [hq] at hp
  simp only [PM.Ins.mk.injEq, true_and, and_true] at hp
  unfold PM.Ins.fits PM.Byt at hf
  simp only at hf
  have ht : textN ⟨10, a, b, c, m⟩ = wordsS (opL.getD 10 (str [])) [a, b, m, c] := text_plain _ hr
  rw [ht]
  refine show_10 a b c m w (fun V => ?_) (fits_all (fun x hx => ?_))
  · have hh := PW.isBadR_any ⟨10, a, b, c, m⟩ V
    rw [hb] at hh
    exact hh
  · simp only [List.mem_cons, List.not_mem_nil, or_false] at hx
    omega
theorem shown_11 (a b c m : Int) (w : World) (hb : (⟨11, a, b, c, m⟩ : PM.Ins).bad = false) (hp : plainN ⟨11, a, b, c, m⟩ = ⟨11, a, b, c, m⟩) (hf : (⟨11, a, b, c, m⟩ : PM.Ins).fits) :
    Calls Tryd.prog 8 #[.agg (⟨11, a, b, c, m⟩ : PM.Ins).cells] w fun e w' => e = .returned (.string (textN ⟨11, a, b, c, m⟩)) ∧ Below w.heap.size w w' := by
  have hr : isRaw ⟨11, a, b, c, m⟩ = false := by unfold isRaw; rw [hb, hp]; simp
  have hq : plainN ⟨11, a, b, c, m⟩ = ⟨11, a, 0, 0, m⟩ := rfl
  rw [hq] at hp
  simp only [PM.Ins.mk.injEq, true_and, and_true] at hp
  unfold PM.Ins.fits PM.Byt at hf
  simp only at hf
  have ht : textN ⟨11, a, b, c, m⟩ = wordsS (opL.getD 11 (str [])) [a, m] := text_plain _ hr
  rw [ht]
  obtain ⟨rfl, rfl⟩ := hp
  refine show_11 a m w (fun V => ?_) (fits_all (fun x hx => ?_))
  · have hh := PW.isBadR_any ⟨11, a, 0, 0, m⟩ V
    rw [hb] at hh
    exact hh
  · simp only [List.mem_cons, List.not_mem_nil, or_false] at hx
    omega
theorem shown_12 (a b c m : Int) (w : World) (hb : (⟨12, a, b, c, m⟩ : PM.Ins).bad = false) (hp : plainN ⟨12, a, b, c, m⟩ = ⟨12, a, b, c, m⟩) (hf : (⟨12, a, b, c, m⟩ : PM.Ins).fits) :
    Calls Tryd.prog 8 #[.agg (⟨12, a, b, c, m⟩ : PM.Ins).cells] w fun e w' => e = .returned (.string (textN ⟨12, a, b, c, m⟩)) ∧ Below w.heap.size w w' := by
  have hr : isRaw ⟨12, a, b, c, m⟩ = false := by unfold isRaw; rw [hb, hp]; simp
  have hq : plainN ⟨12, a, b, c, m⟩ = ⟨12, 0, 0, 0, m⟩ := rfl
  rw [hq] at hp
  simp only [PM.Ins.mk.injEq, true_and, and_true] at hp
  unfold PM.Ins.fits PM.Byt at hf
  simp only at hf
  have ht : textN ⟨12, a, b, c, m⟩ = wordsS (opL.getD 12 (str [])) [m] := text_plain _ hr
  rw [ht]
  obtain ⟨rfl, rfl, rfl⟩ := hp
  refine show_12 m w (fun V => ?_) (fits_all (fun x hx => ?_))
  · have hh := PW.isBadR_any ⟨12, 0, 0, 0, m⟩ V
    rw [hb] at hh
    exact hh
  · simp only [List.mem_cons, List.not_mem_nil, or_false] at hx
    omega
theorem shown_13 (a b c m : Int) (w : World) (hb : (⟨13, a, b, c, m⟩ : PM.Ins).bad = false) (hp : plainN ⟨13, a, b, c, m⟩ = ⟨13, a, b, c, m⟩) (hf : (⟨13, a, b, c, m⟩ : PM.Ins).fits) :
    Calls Tryd.prog 8 #[.agg (⟨13, a, b, c, m⟩ : PM.Ins).cells] w fun e w' => e = .returned (.string (textN ⟨13, a, b, c, m⟩)) ∧ Below w.heap.size w w' := by
  have hr : isRaw ⟨13, a, b, c, m⟩ = false := by unfold isRaw; rw [hb, hp]; simp
  have hq : plainN ⟨13, a, b, c, m⟩ = ⟨13, a, b, 0, m⟩ := rfl
  rw [hq] at hp
  simp only [PM.Ins.mk.injEq, true_and, and_true] at hp
  unfold PM.Ins.fits PM.Byt at hf
  simp only at hf
  have ht : textN ⟨13, a, b, c, m⟩ = wordsS (opL.getD 13 (str [])) [a, b, m] := text_plain _ hr
  rw [ht]
  obtain rfl := hp
  refine show_13 a b m w (fun V => ?_) (fits_all (fun x hx => ?_))
  · have hh := PW.isBadR_any ⟨13, a, b, 0, m⟩ V
    rw [hb] at hh
    exact hh
  · simp only [List.mem_cons, List.not_mem_nil, or_false] at hx
    omega
theorem shown_14 (a b c m : Int) (w : World) (hb : (⟨14, a, b, c, m⟩ : PM.Ins).bad = false) (hp : plainN ⟨14, a, b, c, m⟩ = ⟨14, a, b, c, m⟩) (hf : (⟨14, a, b, c, m⟩ : PM.Ins).fits) :
    Calls Tryd.prog 8 #[.agg (⟨14, a, b, c, m⟩ : PM.Ins).cells] w fun e w' => e = .returned (.string (textN ⟨14, a, b, c, m⟩)) ∧ Below w.heap.size w w' := by
  have hr : isRaw ⟨14, a, b, c, m⟩ = false := by unfold isRaw; rw [hb, hp]; simp
  have hq : plainN ⟨14, a, b, c, m⟩ = ⟨14, a, b, 0, m⟩ := rfl
  rw [hq] at hp
  simp only [PM.Ins.mk.injEq, true_and, and_true] at hp
  unfold PM.Ins.fits PM.Byt at hf
  simp only at hf
  have ht : textN ⟨14, a, b, c, m⟩ = wordsS (opL.getD 14 (str [])) [a, b, m] := text_plain _ hr
  rw [ht]
  obtain rfl := hp
  refine show_14 a b m w (fun V => ?_) (fits_all (fun x hx => ?_))
  · have hh := PW.isBadR_any ⟨14, a, b, 0, m⟩ V
    rw [hb] at hh
    exact hh
  · simp only [List.mem_cons, List.not_mem_nil, or_false] at hx
    omega
theorem shown_15 (a b c m : Int) (w : World) (hb : (⟨15, a, b, c, m⟩ : PM.Ins).bad = false) (hp : plainN ⟨15, a, b, c, m⟩ = ⟨15, a, b, c, m⟩) (hf : (⟨15, a, b, c, m⟩ : PM.Ins).fits) :
    Calls Tryd.prog 8 #[.agg (⟨15, a, b, c, m⟩ : PM.Ins).cells] w fun e w' => e = .returned (.string (textN ⟨15, a, b, c, m⟩)) ∧ Below w.heap.size w w' := by
  have hr : isRaw ⟨15, a, b, c, m⟩ = false := by unfold isRaw; rw [hb, hp]; simp
  have hq : plainN ⟨15, a, b, c, m⟩ = ⟨15, a, 0, 0, 0⟩ := rfl
  rw [hq] at hp
  simp only [PM.Ins.mk.injEq, true_and, and_true] at hp
  unfold PM.Ins.fits PM.Byt at hf
  simp only at hf
  have ht : textN ⟨15, a, b, c, m⟩ = wordsS (opL.getD 15 (str [])) [a] := text_plain _ hr
  rw [ht]
  obtain ⟨rfl, rfl, rfl⟩ := hp
  refine show_15 a w (fun V => ?_) (fits_all (fun x hx => ?_))
  · have hh := PW.isBadR_any ⟨15, a, 0, 0, 0⟩ V
    rw [hb] at hh
    exact hh
  · simp only [List.mem_cons, List.not_mem_nil, or_false] at hx
    omega
theorem shown_16 (a b c m : Int) (w : World) (hb : (⟨16, a, b, c, m⟩ : PM.Ins).bad = false) (hp : plainN ⟨16, a, b, c, m⟩ = ⟨16, a, b, c, m⟩) :
    Calls Tryd.prog 8 #[.agg (⟨16, a, b, c, m⟩ : PM.Ins).cells] w fun e w' => e = .returned (.string (textN ⟨16, a, b, c, m⟩)) ∧ Below w.heap.size w w' := by
  have hr : isRaw ⟨16, a, b, c, m⟩ = false := by unfold isRaw; rw [hb, hp]; simp
  have hq : plainN ⟨16, a, b, c, m⟩ = ⟨16, 0, 0, 0, m⟩ := rfl
  rw [hq] at hp
  simp only [PM.Ins.mk.injEq, true_and, and_true] at hp
  have ht : textN ⟨16, a, b, c, m⟩ = callL.getD m.toNat (str []) := text_plain _ hr
  rw [ht]
  obtain ⟨rfl, rfl, rfl⟩ := hp
  have hm : 1 ≤ m ∧ m ≤ 6 := by
    have e : (⟨16, 0, 0, 0, m⟩ : PM.Ins).bad = !decide (1 ≤ m ∧ m ≤ 6) := rfl
    rw [e] at hb
    simpa using hb
  have hbd : ∀ V, Calls Tryd.prog 23 #[.agg (⟨16, 0, 0, 0, m⟩ : PM.Ins).cells] V fun e w' => e = .returned (.bool false) ∧ Below V.heap.size V w' := fun V => by
    have hh := PW.isBadR_any ⟨16, 0, 0, 0, m⟩ V
    rw [hb] at hh
    exact hh
  have h6 : m = 1 ∨ m = 2 ∨ m = 3 ∨ m = 4 ∨ m = 5 ∨ m = 6 := by omega
  rcases h6 with rfl | rfl | rfl | rfl | rfl | rfl
  · exact call_1 w hbd
  · exact call_2 w hbd
  · exact call_3 w hbd
  · exact call_4 w hbd
  · exact call_5 w hbd
  · exact call_6 w hbd
/-- InstrText, of every instruction that may be -/
theorem text_any (i : PM.Ins) (hf : i.fits) (w : World) : Calls Tryd.prog 8 #[.agg i.cells] w fun e w' => e = .returned (.string (textN i)) ∧ Below w.heap.size w w' := by
  by_cases h1 : i.bad = true
  · exact text_bad i w h1 hf
  · have hb : i.bad = false := by simpa using h1
    by_cases hp : plainN i = i
    · have ho : 1 ≤ i.op ∧ i.op ≤ 16 := by
        by_cases c : i.op < 1 ∨ 16 < i.op
        · exact (h1 (PW.bad_else i c)).elim
        · omega
      obtain ⟨op, a, b, c, m⟩ := i
      simp only at ho
      have hk : op = 1 ∨ op = 2 ∨ op = 3 ∨ op = 4 ∨ op = 5 ∨ op = 6 ∨ op = 7 ∨ op = 8 ∨ op = 9 ∨ op = 10 ∨ op = 11 ∨ op = 12 ∨ op = 13 ∨ op = 14 ∨ op = 15 ∨ op = 16 := by omega
      rcases hk with rfl | rfl | rfl | rfl | rfl | rfl | rfl | rfl | rfl | rfl | rfl | rfl | rfl | rfl | rfl | rfl
      · exact shown_1 a b c m w hb hp hf
      · exact shown_2 a b c m w hb hp hf
      · exact shown_3 a b c m w hb hp hf
      · exact shown_4 a b c m w hb hp hf
      · exact shown_5 a b c m w hb hp hf
      · exact shown_6 a b c m w hb hp hf
      · exact shown_7 a b c m w hb hp hf
      · exact shown_8 a b c m w hb hp hf
      · exact shown_9 a b c m w hb hp hf
      · exact shown_10 a b c m w hb hp hf
      · exact shown_11 a b c m w hb hp hf
      · exact shown_12 a b c m w hb hp hf
      · exact shown_13 a b c m w hb hp hf
      · exact shown_14 a b c m w hb hp hf
      · exact shown_15 a b c m w hb hp hf
      · exact shown_16 a b c m w hb hp
    · exact text_raw i w hb hp hf
end Go.Proofs.YtklobjfhjlkgfaaDoor.TW
/- The program's rows: the table by its names, in a map. -/
namespace Go.Proofs.YtklobjfhjlkgfaaDoor.TW
open Go.RowKit
set_option linter.unusedVariables false
set_option maxRecDepth 100000
set_option linter.unusedSimpArgs false

/-- how a row in a map reads -/
def rowD (r : Row) : DataW Unit := .agg [.lit (.string r.name.data.toList), .lit (.int .i64 r.op), .lit (.int .i64 r.call), .lit (.string r.parts.data.toList)]
def rowRdL : List Value → Option (DataW Unit × List MemPlace)
  | [.string n, .int .i64 o, .int .i64 c, .string p] => some (rowD ⟨n, o, c, p⟩, [])
  | _ => none
def rowRd : Value → Option (DataW Unit × List MemPlace)
  | .agg cs => rowRdL cs.toList
  | _ => none
theorem rowRd_mk (r : Row) : rowRd (.agg r.cells) = some (rowD r, []) := rfl
theorem rowRd_inv {v : Value} {d : DataW Unit} {ps : List MemPlace} (h : rowRd v = some (d, ps)) : ∃ r : Row, v = .agg r.cells ∧ d = rowD r := by
  unfold rowRd at h
  split at h
  · rename_i cs
    unfold rowRdL at h
    split at h
    · rename_i n o c p hcs
      injection h with h
      injection h with h1 h2
      refine ⟨⟨n, o, c, p⟩, ?_, h1.symm⟩
      congr 1
      apply Array.ext'
      rw [hcs]
      rfl
    · cases h
  · cases h
theorem str_data {a b : ByteArray} (h : a.data.toList = b.data.toList) : a = b := by
  apply ByteArray.ext
  exact Array.toList_inj.1 h
theorem rowD_inj {r q : Row} (h : rowD r = rowD q) : r = q := by
  obtain ⟨a, b, c, d⟩ := r
  obtain ⟨a2, b2, c2, d2⟩ := q
  unfold rowD at h
  simp only [DataW.agg.injEq, List.cons.injEq, DataW.lit.injEq, Lit.string.injEq, Lit.int.injEq, true_and, and_true] at h
  obtain ⟨h1, h2, h3, h4⟩ := h
  rw [str_data h1, h2, h3, str_data h4]
def keyS (s : ByteArray) : Lit := .string s.data.toList
/-- the map behind the first k rows -/
def mapTo : Nat → DataW Unit
  | 0 => .map []
  | k + 1 => (mapTo k).put (keyS (rowAt k).name) (rowD (rowAt k))
theorem mapTo_is : ∀ k, Maps.IsMap (mapTo k)
  | 0 => Maps.isMap_empty
  | k + 1 => (mapTo_is k).put _ _
/-- which row has the name, among the first k, the last of them; fuel k -/
def lookTo (s : ByteArray) : Nat → Option Row
  | 0 => none
  | k + 1 => if s = (rowAt k).name then some (rowAt k) else lookTo s k
theorem keyS_ne {a b : ByteArray} (h : a ≠ b) : keyS a ≠ keyS b := fun e => h (str_data (Lit.string.inj e))
theorem look_at (s : ByteArray) (z : DataW Unit) : ∀ k, (mapTo k).atKey (keyS s) z = ((lookTo s k).map rowD).getD z ∧ Maps.has (mapTo k) (keyS s) = (lookTo s k).isSome
  | 0 => ⟨rfl, rfl⟩
  | k + 1 => by
    have ih := look_at s z k
    by_cases h : s = (rowAt k).name
    · have e : lookTo s (k + 1) = some (rowAt k) := by unfold lookTo; rw [if_pos h]
      rw [e]
      constructor
      · show ((mapTo k).put (keyS (rowAt k).name) (rowD (rowAt k))).atKey (keyS s) z = _
        rw [← h, Maps.atKey_put_same (mapTo_is k) (by trivial)]
        rfl
      · show Maps.has ((mapTo k).put (keyS (rowAt k).name) (rowD (rowAt k))) (keyS s) = _
        rw [← h, Maps.has_put_same (mapTo_is k) (by trivial)]
        rfl
    · have e : lookTo s (k + 1) = lookTo s k := by rw [lookTo, if_neg h]
      rw [e]
      constructor
      · show ((mapTo k).put (keyS (rowAt k).name) (rowD (rowAt k))).atKey (keyS s) z = _
        rw [Maps.atKey_put_other (keyS_ne h)]
        exact ih.1
      · show Maps.has ((mapTo k).put (keyS (rowAt k).name) (rowD (rowAt k))) (keyS s) = _
        rw [Maps.has_put_other (keyS_ne h)]
        exact ih.2
def lookR (s : ByteArray) : Row := (lookTo s 22).getD noRow
def lookB (s : ByteArray) : Bool := (lookTo s 22).isSome
theorem lawS : Maps.Keyed Tryd.prog 9 := Maps.string_keyed Tryd.underlying9
theorem zeroR (w : World) : (zeroValue 48).run Tryd.prog w = .ok (.agg noRow.cells) w := by kernel_rfl
theorem look_any {w : World} {b n : Nat} (h : w.ownsMap Tryd.prog 9 rowRd b n (mapTo 22)) (s : ByteArray) (hs : s.size ≤ maxLen) : (Instr.lookup 85 (.map (some b)) (.string s) true).run Tryd.prog w = .ok (.tuple #[.agg (lookR s).cells, .bool (lookB s)]) w := by
  obtain ⟨v, ps, hrun, hv⟩ := h.look_ok lawS Tryd.underlying85 (zeroR w) (rowRd_mk noRow) (WideMaps.keyOf_string_mk Tryd.underlying9 hs)
  obtain ⟨h1, h2⟩ := look_at s (rowD noRow) 22
  obtain ⟨r, rfl, hr⟩ := rowRd_inv hv
  have e : rowD r = rowD (lookR s) := by
    rw [← hr]
    show (mapTo 22).atKey (keyS s) (rowD noRow) = _
    rw [h1]
    unfold lookR
    cases lookTo s 22 <;> rfl
  rw [hrun, rowD_inj e]
  have h3 : Maps.has (mapTo 22) (keyS s) = lookB s := h2
  show _ = Result.ok (Value.tuple #[.agg (lookR s).cells, .bool (lookB s)]) w
  rw [← h3]
  rfl
set_option maxHeartbeats 2000000 in
theorem rows_any (w : World) (tb o cap : Nat) (ht : Tab tb o cap w) : Calls Tryd.prog 46 #[] w fun e w' => ∃ b, e = .returned (.map (some b)) ∧ w'.ownsMap Tryd.prog 9 rowRd b 22 (mapTo 22) ∧ Below w.heap.size w w' := by
  have HT := hideC ht
  have g0 := ht.glob
  have hw0 : 0 < w.heap.size := by have := ht.lt; omega
  have htb := ht.lt
  have HM : Hid (∀ k, mapTo (k + 1) = (mapTo k).put (keyS (rowAt k).name) (rowD (rowAt k))) := fun k => rfl
  have L0 := hideC (World.ownsMap_made w Tryd.prog 9 rowRd)
  have LB := hideC ((Below.refl w.heap.size w).alloc (Nat.le_refl _) (.map #[] 0))
  clear ht
  have hmm := @run_makeMap Tryd.prog
  go_enter Tryd.func46, Tryd.ntmps46
  go_wp2
  go_loopw [7] (fun kx wr => ∃ k : Nat, kx = .int .i64 k ∧ k ≤ 22 ∧ wr.ownsMap Tryd.prog 9 rowRd w.heap.size k (mapTo k) ∧ Below w.heap.size w wr) (fun kx _ => 22 - (intOf kx).toNat)
  case atStart => exact ⟨0, rfl, by omega, L0.out, LB.out⟩
  case round =>
    obtain ⟨k, rfl, hk, hown, hb⟩ := hrel
    have HO := hideC hown
    have HB := hideC hb
    have HTr := hideC (HT.out.below hb)
    have hsz := hb.size
    clear hown hb L0 LB hmm
    by_cases hk2 : k < 22
    · have hki : (k : Int) < 22 := by omega
      have e0 : wr.cell? ⟨tb, o + k * 4, none⟩ = some (.string (rowAt k).name) := HTr.out.row k hk2 0 _ rfl
      have e1 : wr.cell? ⟨tb, o + k * 4 + 1, none⟩ = some (.int .i64 (rowAt k).op) := HTr.out.row k hk2 1 _ rfl
      have e2 : wr.cell? ⟨tb, o + k * 4 + 2, none⟩ = some (.int .i64 (rowAt k).call) := HTr.out.row k hk2 2 _ rfl
      have e3 : wr.cell? ⟨tb, o + k * 4 + 3, none⟩ = some (.string (rowAt k).parts) := HTr.out.row k hk2 3 _ rfl
      have hrn := (row_fine k).2.2.1
      have HM1 := hideC (HM.out k)
      obtain ⟨r, hr⟩ : ∃ r, r = rowAt k := ⟨_, rfl⟩
      rw [← hr] at e0 e1 e2 e3 HM1 hrn
      clear hr
      have HK : Hid (keyOf Tryd.prog 9 (.string r.name) = some (keyS r.name)) := WideMaps.keyOf_string_mk Tryd.underlying9 (by unfold maxLen; omega)
      have HV : Hid (rowRd (.agg #[.string r.name, .int .i64 r.op, .int .i64 r.call, .string r.parts]) = some (rowD r, [])) := rfl
      go_wp2_with (at_mapUpdate; refine wpList_mapUpdate_own _ rfl _ _ _ 85 rfl 9 48 lawS Tryd.underlying85 _ w.heap.size k _ rfl (HO.out.alloc _) (by unfold maxLen; omega) _ _ _ rfl rfl HK.out _ [] HV.out ?_; intro w1 hown1 hgrow1; have HO1 := hideC hown1; have HG1 := hideC hgrow1; clear hown1 hgrow1)
      go_roundw
      case rel => exact ⟨k + 1, by go_num, by omega, by rw [HM1.out]; exact HO1.out, (HB.out.alloc HB.out.size _).grown HG1.out (by simp; omega) (fun j hj => by injection hj with hj; omega)⟩
      case measure => simp [intOf]; omega
    · obtain rfl : k = 22 := by omega
      have hk3 : ¬ ((22 : Int) < 22) := by omega
      go_wp2
      go_ret
      exact ⟨_, rfl, HO.out, HB.out⟩
end Go.Proofs.YtklobjfhjlkgfaaDoor.TW
/- The program's guess: what it answers; the contracts that it leans on. -/
namespace Go.Proofs.YtklobjfhjlkgfaaDoor.TW
open Go.RowKit
set_option linter.unusedVariables false
set_option maxRecDepth 100000
set_option linter.unusedSimpArgs false

/-- the words of a line, seven at most -/
def splitW (s : ByteArray) : List ByteArray := Lib.splitB ⟨#[32]⟩ 0 (min 7 (s.size + 1) - 1) s
theorem splitB_pos (sep : ByteArray) (sv : Nat) : ∀ (k : Nat) (s : ByteArray), 1 ≤ (Lib.splitB sep sv k s).length
  | 0, s => Nat.le_refl _
  | k + 1, s => by
    unfold Lib.splitB
    split
    · exact Nat.le_refl _
    · simp
theorem splitW_pos (s : ByteArray) : 1 ≤ (splitW s).length := splitB_pos _ _ _ _
theorem splitW_le (s : ByteArray) : (splitW s).length ≤ 7 := by
  have := Lib.splitB_length_le ⟨#[32]⟩ 0 (min 7 (s.size + 1) - 1) s
  unfold splitW
  omega
theorem splitB_size (sep : ByteArray) : ∀ (k : Nat) (s x : ByteArray), x ∈ Lib.splitB sep 0 k s → x.size ≤ s.size
  | 0, s, x, h => by
    have : x = s := by simpa [Lib.splitB] using h
    rw [this]; exact Nat.le_refl _
  | k + 1, s, x, h => by
    unfold Lib.splitB at h
    split at h
    · have : x = s := by simpa using h
      rw [this]; exact Nat.le_refl _
    · rcases List.mem_cons.1 h with h | h
      · rw [h, ByteArray.size_extract]; omega
      · have := splitB_size sep k _ x h
        rw [ByteArray.size_extract] at this
        omega
def wordAt (s : ByteArray) (k : Nat) : ByteArray := (splitW s).getD k ByteArray.empty
theorem wordAt_size (s : ByteArray) (k : Nat) : (wordAt s k).size ≤ s.size := by
  unfold wordAt
  rw [List.getD_eq_getElem?_getD]
  cases e : (splitW s)[k]? with
  | none => exact Nat.zero_le _
  | some x => exact splitB_size _ _ _ _ (List.mem_of_getElem? e)
def guessTo (r : Row) (s : ByteArray) : Nat → Option PM.Ins
  | 0 => some r.blank
  | k + 1 => match guessTo r s k with
    | none => none
    | some i => match Lib.atoiAll (wordAt s (1 + k)).data.toList with
      | .ok v => some (setL i (letIx (letAt r.parts k)) v)
      | _ => none
def guessN (s : ByteArray) : Option PM.Ins :=
  if lookB (wordAt s 0) = true ∧ (splitW s).length = (lookR (wordAt s 0)).parts.size + 1 then guessTo (lookR (wordAt s 0)) s (lookR (wordAt s 0)).parts.size else none
theorem guessTo_none {r : Row} {s : ByteArray} {k : Nat} (h : guessTo r s k = none) : ∀ n, k ≤ n → guessTo r s n = none
  | 0, hn => by obtain rfl : k = 0 := by omega
                exact h
  | n + 1, hn => by
    by_cases e : k = n + 1
    · subst e; exact h
    · rw [guessTo, guessTo_none h n (by omega)]
def zeroI : PM.Ins := ⟨0, 0, 0, 0, 0⟩
/-- what guess answers, as two values -/
def outG : Option PM.Ins → PM.Ins × Bool
  | none => (zeroI, false)
  | some i => (i, true)
theorem look_in (s : ByteArray) : ∃ k, lookR s = rowAt k := by
  have : ∀ n, ∃ k, (lookTo s n).getD noRow = rowAt k := by
    intro n
    induction n with
    | zero => exact ⟨22, rfl⟩
    | succ n ih =>
      unfold lookTo
      split
      · exact ⟨n, rfl⟩
      · exact ih
  exact this 22
theorem split_any (s : ByteArray) (w : World) (tb o cap : Nat) (hl : Lay tb o cap w) (hs : s.size < 4294967281) : Calls Tryd.prog 45 #[.string s, .string ⟨#[32]⟩, .int .i64 7] w fun e w' => ∃ b c, e = .returned (.slice (some ⟨b, 0, none⟩) (splitW s).length c) ∧ (∀ j, j < (splitW s).length → w'.cell? ⟨b, j, none⟩ = some (.string (wordAt s j))) ∧ b < w'.heap.size ∧ Below w.heap.size w w' := by
  obtain ⟨m, hm⟩ := hl.ml
  refine (Tryd.strings_SplitN s ⟨#[32]⟩ 7 m w hs hm (by decide) (by omega) (by omega)).mono ?_
  rintro e w' ⟨rfl, rfl⟩
  refine ⟨w.heap.size, min 7 (s.size + 1), rfl, fun j hj => ?_, by simp, (Below.refl _ _).alloc (Nat.le_refl _) _⟩
  refine B.cell (B.new w _ _) j ?_
  have hj2 : j < ((splitW s).map Value.string).length := by simpa using hj
  show ((((splitW s).map Value.string) ++ List.replicate (min 7 (s.size + 1) - (splitW s).length) (Value.string ByteArray.empty)).toArray)[j]? = _
  rw [List.getElem?_toArray, List.getElem?_append_left hj2, List.getElem?_map]
  unfold wordAt
  rw [List.getD_eq_getElem?_getD, List.getElem?_eq_getElem hj]
  rfl
theorem atoi_ok (s : ByteArray) (v : Int) (w : World) (h : Lib.atoiAll s.data.toList = .ok v) (hs : s.size ≤ 4294967281) : Calls Tryd.prog 48 #[.string s] w fun e w' => e = .returned (.tuple #[.int .i64 v, .nilIface]) ∧ Below w.heap.size w w' := by
  refine (Tryd.strconv_Atoi_ok s (by omega) v h w).mono ?_
  rintro e w' ⟨rfl, hw⟩
  refine ⟨rfl, ?_⟩
  rcases hw with rfl | ⟨t, rfl⟩
  · exact Below.refl _ _
  · exact Lib.bytesWorld_below w _ t
theorem atoi_no (s : ByteArray) (w : World) (tb o cap : Nat) (hl : Lay tb o cap w) (h : ∀ v, Lib.atoiAll s.data.toList ≠ .ok v) (hs : s.size ≤ 4294967281) : Calls Tryd.prog 48 #[.string s] w fun e w' => ∃ v N, e = .returned (.tuple #[.int .i64 v, .iface 116 (.pointer (some ⟨N, 0, none⟩))]) ∧ Below w.heap.size w w' := by
  cases e : Lib.atoiAll s.data.toList with
  | ok v => exact (h v e).elim
  | «syntax» =>
    obtain ⟨ev, h1, h2⟩ := hl.es
    refine (Tryd.strconv_Atoi_syntax s (by omega) e ev w h1 h2).mono ?_
    rintro e w' ⟨N, rfl, _, _, hb⟩
    exact ⟨_, N, rfl, hb⟩
  | range =>
    obtain ⟨ev, h1, h2⟩ := hl.er
    refine (Tryd.strconv_Atoi_range s (by omega) e ev w h1 h2).mono ?_
    rintro e w' ⟨N, rfl, _, _, hb⟩
    exact ⟨_, N, rfl, hb⟩
end Go.Proofs.YtklobjfhjlkgfaaDoor.TW
