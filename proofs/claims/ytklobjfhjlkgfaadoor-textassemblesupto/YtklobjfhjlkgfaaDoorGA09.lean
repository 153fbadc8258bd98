import Derived.Test.YtklobjfhjlkgfaaDoorGA08
import Derived.Scope
import Derived.WalkMore
import Derived.Test.YtklobjfhjlkgfaaDoorGA07
import Derived.Test.YtklobjfhjlkgfaaDoorGA04
/- The program's Assemble. -/
namespace Go.Proofs.YtklobjfhjlkgfaaDoor.TW
open Go.RowKit
set_option linter.unusedVariables false
set_option maxRecDepth 100000
set_option linter.unusedSimpArgs false

def lineN (s : ByteArray) : ByteArray := ⟨(Lib.cut s.data.toList [10]).1.toArray⟩
def restN (s : ByteArray) : ByteArray := ⟨(Lib.cut s.data.toList [10]).2.1.toArray⟩
def endN (s : ByteArray) : Bool := (Lib.cut s.data.toList [10]).2.2
theorem line_size (s : ByteArray) : (lineN s).size ≤ s.size := by
  have e : (lineN s).size = (Lib.cut s.data.toList [10]).1.length := by
    show ((Lib.cut s.data.toList [10]).1.toArray).size = _
    exact List.size_toArray
  rw [e, Lib.size_eq s]
  unfold Lib.cut
  split
  · rw [List.length_take]; omega
  · exact Nat.le_refl _
theorem rest_size (s : ByteArray) (h : endN s = true) : (restN s).size < s.size := by
  show ((Lib.cut s.data.toList [10]).2.1.toArray).size < _
  unfold endN at h
  by_cases c : 0 ≤ Lib.index s.data.toList [10]
  · have h2 := Lib.index_room s.data.toList [10] c
    unfold Lib.cut
    rw [if_pos c]
    simp only [List.length_singleton, List.size_toArray, List.length_drop, Lib.size_eq] at h2 ⊢
    omega
  · unfold Lib.cut at h
    rw [if_neg c] at h
    cases h
/-- the instructions of all lines; fuel n -/
def asmTo : Nat → ByteArray → Option (List PM.Ins)
  | 0, _ => none
  | n + 1, s => if endN s = true then (match readN (lineN s) with
      | none => none
      | some i => (asmTo n (restN s)).map (i :: ·))
    else if s.size = 0 then some [] else none
def codeOf : List PM.Ins → ByteArray
  | [] => ⟨#[]⟩
  | i :: l => i.bytes ++ codeOf l
def asmN (s : ByteArray) : ByteArray × Int := if 512 < Lib.countByte s.data.toList 10 then (⟨#[]⟩, 2) else match asmTo (s.size + 1) s with
  | none => (⟨#[]⟩, 1)
  | some l => (codeOf l, 0)
theorem asm_step {n : Nat} {s : ByteArray} {i : PM.Ins} (h : endN s = true) (hi : readN (lineN s) = some i) : asmTo (n + 1) s = (asmTo n (restN s)).map (i :: ·) := by
  rw [asmTo, if_pos h, hi]
theorem asm_bad {n : Nat} {s : ByteArray} (h : endN s = true) (hi : readN (lineN s) = none) : asmTo (n + 1) s = none := by
  rw [asmTo, if_pos h, hi]
theorem asm_end {n : Nat} {s : ByteArray} (h : endN s = false) : asmTo (n + 1) s = if s.size = 0 then some [] else none := by
  rw [asmTo, h]
  rfl
theorem end_pos {s : ByteArray} (h : endN s = true) : 0 < s.size := by have := rest_size s h; omega
theorem read_fits {s : ByteArray} {i : PM.Ins} (h : readN s = some i) : i.fits ∧ showN i = s := by
  unfold readN at h
  split at h
  · cases h
  · split at h
    · rename_i j _ hh
      injection h with h
      rw [← h]; exact hh
    · cases h
/-- what is done so far, and what is left -/
def AsmRel (s : ByteArray) (code rest : ByteArray) : Prop := ∃ (n : Nat) (done : List PM.Ins), rest.size < n ∧ asmTo (s.size + 1) s = (asmTo n rest).map (done ++ ·) ∧ (∀ l, codeOf (done ++ l) = code ++ codeOf l) ∧ code.size + 8 * rest.size ≤ 8 * s.size
theorem AsmRel.start (s : ByteArray) : AsmRel s ⟨#[]⟩ s := ⟨s.size + 1, [], by omega, by simp, fun l => by
  show codeOf l = _
  apply ByteArray.ext
  rw [ByteArray.data_append]
  simp, by show 0 + _ ≤ _; omega⟩
theorem AsmRel.step {s code rest : ByteArray} {i : PM.Ins} (h : AsmRel s code rest) (he : endN rest = true) (hi : readN (lineN rest) = some i) : AsmRel s (code ++ i.bytes) (restN rest) := by
  obtain ⟨n, done, hn, ha, hc, hz⟩ := h
  obtain ⟨m, rfl⟩ : ∃ m, n = m + 1 := ⟨n - 1, by omega⟩
  have hr := rest_size rest he
  refine ⟨m, done ++ [i], by omega, ?_, fun l => ?_, ?_⟩
  · rw [ha, asm_step he hi]
    cases asmTo m (restN rest) <;> simp
  · rw [List.append_assoc]
    have := hc ([i] ++ l)
    rw [this, ByteArray.append_assoc]
    rfl
  · rw [ByteArray.size_append, PM.bytes_size]
    omega
theorem AsmRel.bad {s code rest : ByteArray} (h : AsmRel s code rest) (he : endN rest = true) (hi : readN (lineN rest) = none) : asmTo (s.size + 1) s = none := by
  obtain ⟨n, done, hn, ha, hc, hz⟩ := h
  obtain ⟨m, rfl⟩ : ∃ m, n = m + 1 := ⟨n - 1, by omega⟩
  rw [ha, asm_bad he hi]
  rfl
theorem AsmRel.left {s code rest : ByteArray} (h : AsmRel s code rest) (he : endN rest = false) (hz0 : rest.size ≠ 0) : asmTo (s.size + 1) s = none := by
  obtain ⟨n, done, hn, ha, hc, hz⟩ := h
  obtain ⟨m, rfl⟩ : ∃ m, n = m + 1 := ⟨n - 1, by omega⟩
  rw [ha, asm_end he, if_neg hz0]
  rfl
theorem AsmRel.fine {s code rest : ByteArray} (h : AsmRel s code rest) (he : endN rest = false) (hz0 : rest.size = 0) : ∃ l, asmTo (s.size + 1) s = some l ∧ codeOf l = code := by
  obtain ⟨n, done, hn, ha, hc, hz⟩ := h
  obtain ⟨m, rfl⟩ : ∃ m, n = m + 1 := ⟨n - 1, by omega⟩
  rw [ha, asm_end he, if_pos hz0]
  refine ⟨done ++ [], rfl, ?_⟩
  rw [hc []]
  apply ByteArray.ext
  rw [ByteArray.data_append]
  show code.data ++ #[] = _
  simp
theorem cut_any (s : ByteArray) (w : World) (tb o cap : Nat) (hl : Lay tb o cap w) (hs : s.size < 4294967281) : Calls Tryd.prog 32 #[.string s, .string ⟨#[10]⟩] w fun e w' => e = .returned (.tuple #[.string (lineN s), .string (restN s), .bool (endN s)]) ∧ Below w.heap.size w w' := by
  obtain ⟨m, hm⟩ := hl.ml
  refine (Tryd.strings_Cut s ⟨#[10]⟩ m w hs hm).mono ?_
  rintro e w' ⟨rfl, n, rfl⟩
  exact ⟨rfl, below_drewN (Below.refl _ _) n⟩
set_option maxHeartbeats 4000000 in
theorem asm_many (s : ByteArray) (w : World) (h : 512 < Lib.countByte s.data.toList 10) (hs : s.size < 4294967281) : Calls Tryd.prog 12 #[.string s] w fun e w' => e = .returned (.tuple #[.string ⟨#[]⟩, .int .i64 2]) ∧ Below w.heap.size w w' := by
  have HC := hideC (Tryd.strings_Count_one s 10 w)
  obtain ⟨n, hn⟩ : ∃ n, n = Lib.countByte s.data.toList 10 := ⟨_, rfl⟩
  rw [← hn] at HC h
  clear hn
  have h2 : (512 : Int) < (n : Int) := by omega
  go_enter Tryd.func12, Tryd.ntmps12
  go_wp2_with fail
  go_step3
  go_wp2_with (go_at_call 31; refine HC.out.mono ?_; rintro e w1 ⟨rfl, rfl⟩)
  rw [Exit.noGoto_ret]
  go_ret2
  exact ⟨rfl, Below.refl _ _⟩
def strOf : Value → ByteArray
  | .string s => s
  | _ => ⟨#[]⟩
theorem empty_yes {s : ByteArray} (h : s.size = 0) : s.toList.isEmpty = true := by
  have e : s.data.toList = [] := by
    rw [Lib.size_eq] at h
    exact List.length_eq_zero_iff.1 h
  rw [ByteArray.toList_eq, e]
  rfl
theorem empty_no {s : ByteArray} (h : s.size ≠ 0) : s.toList.isEmpty = false := by
  rw [ByteArray.toList_eq]
  rw [Lib.size_eq] at h
  cases e : s.data.toList with
  | nil => rw [e] at h; exact (h rfl).elim
  | cons a r => rfl
set_option maxHeartbeats 8000000 in
theorem asm_walk (s : ByteArray) (w : World) (tb o cap : Nat) (hl : Lay tb o cap w) (hs : s.size < 4294967281) (h : ¬ 512 < Lib.countByte s.data.toList 10) : Calls Tryd.prog 12 #[.string s] w fun e w' => e = .returned (.tuple #[.string (asmN s).1, .int .i64 (asmN s).2]) ∧ Below w.heap.size w w' := by
  have HL := hideC hl
  have HC := hideC (Tryd.strings_Count_one s 10 w)
  have HC2 : Hid (Calls Tryd.prog 31 #[.string s, .string ⟨#[10]⟩] w fun e w' => e = .returned (.int .i64 (Lib.countByte s.data.toList 10)) ∧ w = w') := HC.out.mono fun e w' ⟨h1, h2⟩ => ⟨h1, h2.symm⟩
  have HN : Hid (asmN s = match asmTo (s.size + 1) s with | none => (⟨#[]⟩, 1) | some l => (codeOf l, 0)) := by show _ = _; unfold asmN; rw [if_neg h]
  have HST := hideC (AsmRel.start s)
  obtain ⟨n, hn⟩ : ∃ n, n = Lib.countByte s.data.toList 10 := ⟨_, rfl⟩
  rw [← hn] at HC HC2 h
  obtain ⟨⟨R1, R2⟩, hR⟩ : ∃ R, R = asmN s := ⟨_, rfl⟩
  rw [← hR] at HN ⊢
  clear hn hR hl
  simp only
  have h2 : ¬ (512 : Int) < (n : Int) := by omega
  go_enter Tryd.func12, Tryd.ntmps12
  go_wp2_with fail
  go_step3
  go_wp2_with (go_at_call 31; refine HC2.out.mono ?_; rintro e w1 ⟨rfl, rfl⟩)
  go_step3
  go_wp2_with fail
  clear HC HC2 h2
  go_loopw [4, 5] (fun cv rv wr => ∃ code rest : ByteArray, cv = .string code ∧ rv = .string rest ∧ AsmRel s code rest ∧ Below w.heap.size w wr) (fun _ rv _ => (strOf rv).size)
  case atStart => exact ⟨_, _, rfl, rfl, HST.out, Below.refl _ _⟩
  case round =>
    obtain ⟨code, rest, rfl, rfl, hrl, hb⟩ := hrel
    have HRL := hideC hrl
    have HB := hideC hb
    have hsz : code.size + 8 * rest.size ≤ 8 * s.size := by obtain ⟨_, _, _, _, _, h⟩ := hrl; exact h
    clear hrl hb HST
    have hrs : rest.size < 4294967281 := by omega
    have HCT := hideC (fun V (hV : Lay tb o cap V) => cut_any rest V tb o cap hV hrs)
    have hls := line_size rest
    have HRD := hideC (fun V (hV : Lay tb o cap V) => read_any (lineN rest) V tb o cap hV (by omega))
    have hmz := rest_size rest
    cases he : endN rest with
    | true =>
      have hrz := hmz he
      cases hr : readN (lineN rest) with
      | some i =>
        have HST2 := hideC (HRL.out.step he hr)
        have hif := (read_fits hr).1
        rw [hr] at HRD
        rw [he] at HCT
        have HRD2 : Hid (∀ V, Lay tb o cap V → Calls Tryd.prog 9 #[.string (lineN rest)] V fun e w' => e = .returned (.tuple #[.agg #[.int .i64 i.op, .int .i64 i.a, .int .i64 i.b, .int .i64 i.c, .int .i64 i.m], .int .i64 0]) ∧ Below V.heap.size V w') := HRD.out
        have HE : Hid (∀ V, Calls Tryd.prog 16 #[.agg #[.int .i64 i.op, .int .i64 i.a, .int .i64 i.b, .int .i64 i.c, .int .i64 i.m]] V fun e w' => e = .returned (.tuple #[.string i.bytes, .int .i64 0]) ∧ Below V.heap.size V w') := fun V => by
          have hh := PW.encode_any i V
          rw [if_pos hif] at hh
          exact hh
        have hbs := PM.bytes_size i
        obtain ⟨EB, hEB⟩ : ∃ EB, EB = i.bytes := ⟨_, rfl⟩
        obtain ⟨LN, hLN⟩ : ∃ LN, LN = lineN rest := ⟨_, rfl⟩
        obtain ⟨RN, hRN⟩ : ∃ RN, RN = restN rest := ⟨_, rfl⟩
        rw [← hEB] at HE hbs HST2
        rw [← hLN] at HCT HRD2
        rw [← hRN] at HCT HST2 hrz
        clear hEB hLN hRN hr he hif HRD hmz hls
        go_wp2_with (first
          | (go_at_call 32; refine (HCT.out _ (HL.out.below HB.out)).mono ?_; rintro e w2 ⟨rfl, hb2⟩; have HB2 := hideC (add_below HB.out hb2); clear hb2)
          | (go_at_call 9; refine (HRD2.out _ (HL.out.below HB2.out)).mono ?_; rintro e w3 ⟨rfl, hb3⟩; have HB3 := hideC (add_below HB2.out hb3); clear hb3)
          | (go_at_call 16; refine (HE.out _).mono ?_; rintro e w4 ⟨rfl, hb4⟩; have HB4 := hideC (add_below (HB3.out.alloc HB3.out.size _) hb4); clear hb4))
        go_roundw
        case rel => exact ⟨_, _, rfl, rfl, HST2.out, HB4.out⟩
        case measure => simp [strOf]; omega
      | none =>
        have HBD := hideC (HRL.out.bad he hr)
        have HNN : Hid ((R1, R2) = (⟨#[]⟩, 1)) := by show _ = _; rw [HN.out, HBD.out]
        rw [hr] at HRD
        rw [he] at HCT
        have HRD2 : Hid (∀ V, Lay tb o cap V → Calls Tryd.prog 9 #[.string (lineN rest)] V fun e w' => e = .returned (.tuple #[.agg #[.int .i64 0, .int .i64 0, .int .i64 0, .int .i64 0, .int .i64 0], .int .i64 1]) ∧ Below V.heap.size V w') := HRD.out
        have hem := empty_no (s := rest) (by omega)
        obtain ⟨LN, hLN⟩ : ∃ LN, LN = lineN rest := ⟨_, rfl⟩
        obtain ⟨RN, hRN⟩ : ∃ RN, RN = restN rest := ⟨_, rfl⟩
        rw [← hLN] at HCT HRD2
        rw [← hRN] at HCT
        clear hLN hRN hr he HRD hmz hls hrz
        go_wp2_with (first
          | (go_at_call 32; refine (HCT.out _ (HL.out.below HB.out)).mono ?_; rintro e w2 ⟨rfl, hb2⟩; have HB2 := hideC (add_below HB.out hb2); clear hb2)
          | (go_at_call 9; refine (HRD2.out _ (HL.out.below HB2.out)).mono ?_; rintro e w3 ⟨rfl, hb3⟩; have HB3 := hideC (add_below HB2.out hb3); clear hb3))
        rw [Exit.noGoto_ret]
        go_ret2
        exact ⟨by rw [(Prod.mk.inj HNN.out).1, (Prod.mk.inj HNN.out).2]; rfl, HB3.out.alloc HB3.out.size _⟩
    | false =>
      rw [he] at HCT
      obtain ⟨ri, hri⟩ : ∃ ri, ri = (outR (readN (lineN rest))).1 := ⟨_, rfl⟩
      obtain ⟨rc, hrc⟩ : ∃ rc, rc = (outR (readN (lineN rest))).2 := ⟨_, rfl⟩
      rw [← hri, ← hrc] at HRD
      have HRD2 : Hid (∀ V, Lay tb o cap V → Calls Tryd.prog 9 #[.string (lineN rest)] V fun e w' => e = .returned (.tuple #[.agg #[.int .i64 ri.op, .int .i64 ri.a, .int .i64 ri.b, .int .i64 ri.c, .int .i64 ri.m], .int .i64 rc]) ∧ Below V.heap.size V w') := HRD.out
      obtain ⟨LN, hLN⟩ : ∃ LN, LN = lineN rest := ⟨_, rfl⟩
      obtain ⟨RN, hRN⟩ : ∃ RN, RN = restN rest := ⟨_, rfl⟩
      rw [← hLN] at HCT HRD2
      rw [← hRN] at HCT
      by_cases hz : rest.size = 0
      · have HFN := hideC (HRL.out.fine he hz)
        have hem := empty_yes hz
        have HNN : Hid ((R1, R2) = (code, 0)) := by
          show _ = _
          obtain ⟨l, h1, h2⟩ := HFN.out
          rw [HN.out, h1]
          show (codeOf l, (0 : Int)) = _
          rw [h2]
        clear hLN hRN he HRD hmz hls hri hrc hz
        go_wp2_with (first
          | (go_at_call 32; refine (HCT.out _ (HL.out.below HB.out)).mono ?_; rintro e w2 ⟨rfl, hb2⟩; have HB2 := hideC (add_below HB.out hb2); clear hb2)
          | (go_at_call 9; refine (HRD2.out _ (HL.out.below HB2.out)).mono ?_; rintro e w3 ⟨rfl, hb3⟩; have HB3 := hideC (add_below HB2.out hb3); clear hb3))
        rw [Exit.noGoto_ret]
        go_ret2
        exact ⟨by rw [(Prod.mk.inj HNN.out).1, (Prod.mk.inj HNN.out).2]; rfl, HB3.out.alloc HB3.out.size _⟩
      · have HBD := hideC (HRL.out.left he hz)
        have HNN : Hid ((R1, R2) = (⟨#[]⟩, 1)) := by show _ = _; rw [HN.out, HBD.out]
        have hem := empty_no hz
        clear hLN hRN he HRD hmz hls hri hrc hz
        go_wp2_with (first
          | (go_at_call 32; refine (HCT.out _ (HL.out.below HB.out)).mono ?_; rintro e w2 ⟨rfl, hb2⟩; have HB2 := hideC (add_below HB.out hb2); clear hb2)
          | (go_at_call 9; refine (HRD2.out _ (HL.out.below HB2.out)).mono ?_; rintro e w3 ⟨rfl, hb3⟩; have HB3 := hideC (add_below HB2.out hb3); clear hb3))
        rw [Exit.noGoto_ret]
        go_ret2
        exact ⟨by rw [(Prod.mk.inj HNN.out).1, (Prod.mk.inj HNN.out).2]; rfl, HB3.out.alloc HB3.out.size _⟩
theorem asm_any (s : ByteArray) (w : World) (tb o cap : Nat) (hl : Lay tb o cap w) (hs : s.size < 4294967281) : Calls Tryd.prog 12 #[.string s] w fun e w' => e = .returned (.tuple #[.string (asmN s).1, .int .i64 (asmN s).2]) ∧ Below w.heap.size w w' := by
  by_cases h : 512 < Lib.countByte s.data.toList 10
  · have e : asmN s = (⟨#[]⟩, 2) := by unfold asmN; rw [if_pos h]
    rw [e]
    exact asm_many s w h hs
  · exact asm_walk s w tb o cap hl hs h
end Go.Proofs.YtklobjfhjlkgfaaDoor.TW
/- Plain: both lines of an instruction are one. -/
namespace Go.Proofs.YtklobjfhjlkgfaaDoor.TW
open Go.RowKit
set_option linter.unusedVariables false
set_option maxRecDepth 100000
set_option linter.unusedSimpArgs false

theorem told_0 (i : PM.Ins) : toldN (rowAt 0) i = ⟨1, i.a, 0, 0, i.m⟩ := rfl
theorem nums_0 (i : PM.Ins) : numsOf (rowAt 0) i = [i.a, i.m] := rfl
theorem told_1 (i : PM.Ins) : toldN (rowAt 1) i = ⟨11, i.a, 0, 0, i.m⟩ := rfl
theorem nums_1 (i : PM.Ins) : numsOf (rowAt 1) i = [i.a, i.m] := rfl
theorem told_2 (i : PM.Ins) : toldN (rowAt 2) i = ⟨2, i.a, i.b, i.c, 0⟩ := rfl
theorem nums_2 (i : PM.Ins) : numsOf (rowAt 2) i = [i.a, i.b, i.c] := rfl
theorem told_3 (i : PM.Ins) : toldN (rowAt 3) i = ⟨3, i.a, i.b, i.c, 0⟩ := rfl
theorem nums_3 (i : PM.Ins) : numsOf (rowAt 3) i = [i.a, i.b, i.c] := rfl
theorem told_4 (i : PM.Ins) : toldN (rowAt 4) i = ⟨4, i.a, i.b, i.c, 0⟩ := rfl
theorem nums_4 (i : PM.Ins) : numsOf (rowAt 4) i = [i.a, i.b, i.c] := rfl
theorem told_5 (i : PM.Ins) : toldN (rowAt 5) i = ⟨5, i.a, i.b, i.c, 0⟩ := rfl
theorem nums_5 (i : PM.Ins) : numsOf (rowAt 5) i = [i.a, i.b, i.c] := rfl
theorem told_6 (i : PM.Ins) : toldN (rowAt 6) i = ⟨6, i.a, i.b, i.c, 0⟩ := rfl
theorem nums_6 (i : PM.Ins) : numsOf (rowAt 6) i = [i.a, i.b, i.c] := rfl
theorem told_7 (i : PM.Ins) : toldN (rowAt 7) i = ⟨7, i.a, i.b, i.c, 0⟩ := rfl
theorem nums_7 (i : PM.Ins) : numsOf (rowAt 7) i = [i.a, i.b, i.c] := rfl
theorem told_8 (i : PM.Ins) : toldN (rowAt 8) i = ⟨8, i.a, i.b, 0, i.m⟩ := rfl
theorem nums_8 (i : PM.Ins) : numsOf (rowAt 8) i = [i.a, i.b, i.m] := rfl
theorem told_9 (i : PM.Ins) : toldN (rowAt 9) i = ⟨13, i.a, i.b, 0, i.m⟩ := rfl
theorem nums_9 (i : PM.Ins) : numsOf (rowAt 9) i = [i.a, i.b, i.m] := rfl
theorem told_10 (i : PM.Ins) : toldN (rowAt 10) i = ⟨14, i.a, i.b, 0, i.m⟩ := rfl
theorem nums_10 (i : PM.Ins) : numsOf (rowAt 10) i = [i.a, i.b, i.m] := rfl
theorem told_11 (i : PM.Ins) : toldN (rowAt 11) i = ⟨9, i.a, i.b, i.c, i.m⟩ := rfl
theorem nums_11 (i : PM.Ins) : numsOf (rowAt 11) i = [i.a, i.b, i.m, i.c] := rfl
theorem told_12 (i : PM.Ins) : toldN (rowAt 12) i = ⟨10, i.a, i.b, i.c, i.m⟩ := rfl
theorem nums_12 (i : PM.Ins) : numsOf (rowAt 12) i = [i.a, i.b, i.m, i.c] := rfl
theorem told_13 (i : PM.Ins) : toldN (rowAt 13) i = ⟨12, 0, 0, 0, i.m⟩ := rfl
theorem nums_13 (i : PM.Ins) : numsOf (rowAt 13) i = [i.m] := rfl
theorem told_14 (i : PM.Ins) : toldN (rowAt 14) i = ⟨15, i.a, 0, 0, 0⟩ := rfl
theorem nums_14 (i : PM.Ins) : numsOf (rowAt 14) i = [i.a] := rfl
theorem told_15 (i : PM.Ins) : toldN (rowAt 15) i = ⟨16, 0, 0, 0, 1⟩ := rfl
theorem nums_15 (i : PM.Ins) : numsOf (rowAt 15) i = [] := rfl
theorem told_16 (i : PM.Ins) : toldN (rowAt 16) i = ⟨16, 0, 0, 0, 2⟩ := rfl
theorem nums_16 (i : PM.Ins) : numsOf (rowAt 16) i = [] := rfl
theorem told_17 (i : PM.Ins) : toldN (rowAt 17) i = ⟨16, 0, 0, 0, 3⟩ := rfl
theorem nums_17 (i : PM.Ins) : numsOf (rowAt 17) i = [] := rfl
theorem told_18 (i : PM.Ins) : toldN (rowAt 18) i = ⟨16, 0, 0, 0, 4⟩ := rfl
theorem nums_18 (i : PM.Ins) : numsOf (rowAt 18) i = [] := rfl
theorem told_19 (i : PM.Ins) : toldN (rowAt 19) i = ⟨16, 0, 0, 0, 5⟩ := rfl
theorem nums_19 (i : PM.Ins) : numsOf (rowAt 19) i = [] := rfl
theorem told_20 (i : PM.Ins) : toldN (rowAt 20) i = ⟨16, 0, 0, 0, 6⟩ := rfl
theorem nums_20 (i : PM.Ins) : numsOf (rowAt 20) i = [] := rfl
theorem told_21 (i : PM.Ins) : toldN (rowAt 21) i = ⟨i.op, i.a, i.b, i.c, i.m⟩ := rfl
theorem nums_21 (i : PM.Ins) : numsOf (rowAt 21) i = [i.op, i.a, i.b, i.c, i.m] := rfl
theorem rowFrom_yes (i : PM.Ins) (n k : Nat) (h : toldN (rowAt k) i = i) : rowFrom i (n + 1) k = rowAt k := by unfold rowFrom; rw [if_pos h]
theorem rowFrom_no (i : PM.Ins) (n k : Nat) (h : ¬ toldN (rowAt k) i = i) : rowFrom i (n + 1) k = rowFrom i n (k + 1) := by rw [rowFrom, if_neg h]
theorem op_ne {p q : PM.Ins} (h : p.op ≠ q.op) : ¬ p = q := fun e => h (by rw [e])
theorem by_0 (a m : Int) : rowFrom (⟨1, a, 0, 0, m⟩ : PM.Ins) 22 0 = rowAt 0 := by
  exact rowFrom_yes _ 21 0 (by rw [told_0])
theorem by_1 (a m : Int) : rowFrom (⟨11, a, 0, 0, m⟩ : PM.Ins) 22 0 = rowAt 1 := by
  rw [rowFrom_no _ 21 0 (by rw [told_0]; exact op_ne (by simp))]
  exact rowFrom_yes _ 20 1 (by rw [told_1])
theorem by_2 (a b c : Int) : rowFrom (⟨2, a, b, c, 0⟩ : PM.Ins) 22 0 = rowAt 2 := by
  rw [rowFrom_no _ 21 0 (by rw [told_0]; exact op_ne (by simp)), rowFrom_no _ 20 1 (by rw [told_1]; exact op_ne (by simp))]
  exact rowFrom_yes _ 19 2 (by rw [told_2])
theorem by_3 (a b c : Int) : rowFrom (⟨3, a, b, c, 0⟩ : PM.Ins) 22 0 = rowAt 3 := by
  rw [rowFrom_no _ 21 0 (by rw [told_0]; exact op_ne (by simp)), rowFrom_no _ 20 1 (by rw [told_1]; exact op_ne (by simp)), rowFrom_no _ 19 2 (by rw [told_2]; exact op_ne (by simp))]
  exact rowFrom_yes _ 18 3 (by rw [told_3])
theorem by_4 (a b c : Int) : rowFrom (⟨4, a, b, c, 0⟩ : PM.Ins) 22 0 = rowAt 4 := by
  rw [rowFrom_no _ 21 0 (by rw [told_0]; exact op_ne (by simp)), rowFrom_no _ 20 1 (by rw [told_1]; exact op_ne (by simp)), rowFrom_no _ 19 2 (by rw [told_2]; exact op_ne (by simp)), rowFrom_no _ 18 3 (by rw [told_3]; exact op_ne (by simp))]
  exact rowFrom_yes _ 17 4 (by rw [told_4])
theorem by_5 (a b c : Int) : rowFrom (⟨5, a, b, c, 0⟩ : PM.Ins) 22 0 = rowAt 5 := by
  rw [rowFrom_no _ 21 0 (by rw [told_0]; exact op_ne (by simp)), rowFrom_no _ 20 1 (by rw [told_1]; exact op_ne (by simp)), rowFrom_no _ 19 2 (by rw [told_2]; exact op_ne (by simp)), rowFrom_no _ 18 3 (by rw [told_3]; exact op_ne (by simp)), rowFrom_no _ 17 4 (by rw [told_4]; exact op_ne (by simp))]
  exact rowFrom_yes _ 16 5 (by rw [told_5])
theorem by_6 (a b c : Int) : rowFrom (⟨6, a, b, c, 0⟩ : PM.Ins) 22 0 = rowAt 6 := by
  rw [rowFrom_no _ 21 0 (by rw [told_0]; exact op_ne (by simp)), rowFrom_no _ 20 1 (by rw [told_1]; exact op_ne (by simp)), rowFrom_no _ 19 2 (by rw [told_2]; exact op_ne (by simp)), rowFrom_no _ 18 3 (by rw [told_3]; exact op_ne (by simp)), rowFrom_no _ 17 4 (by rw [told_4]; exact op_ne (by simp)), rowFrom_no _ 16 5 (by rw [told_5]; exact op_ne (by simp))]
  exact rowFrom_yes _ 15 6 (by rw [told_6])
theorem by_7 (a b c : Int) : rowFrom (⟨7, a, b, c, 0⟩ : PM.Ins) 22 0 = rowAt 7 := by
  rw [rowFrom_no _ 21 0 (by rw [told_0]; exact op_ne (by simp)), rowFrom_no _ 20 1 (by rw [told_1]; exact op_ne (by simp)), rowFrom_no _ 19 2 (by rw [told_2]; exact op_ne (by simp)), rowFrom_no _ 18 3 (by rw [told_3]; exact op_ne (by simp)), rowFrom_no _ 17 4 (by rw [told_4]; exact op_ne (by simp)), rowFrom_no _ 16 5 (by rw [told_5]; exact op_ne (by simp)), rowFrom_no _ 15 6 (by rw [told_6]; exact op_ne (by simp))]
  exact rowFrom_yes _ 14 7 (by rw [told_7])
theorem by_8 (a b m : Int) : rowFrom (⟨8, a, b, 0, m⟩ : PM.Ins) 22 0 = rowAt 8 := by
  rw [rowFrom_no _ 21 0 (by rw [told_0]; exact op_ne (by simp)), rowFrom_no _ 20 1 (by rw [told_1]; exact op_ne (by simp)), rowFrom_no _ 19 2 (by rw [told_2]; exact op_ne (by simp)), rowFrom_no _ 18 3 (by rw [told_3]; exact op_ne (by simp)), rowFrom_no _ 17 4 (by rw [told_4]; exact op_ne (by simp)), rowFrom_no _ 16 5 (by rw [told_5]; exact op_ne (by simp)), rowFrom_no _ 15 6 (by rw [told_6]; exact op_ne (by simp)), rowFrom_no _ 14 7 (by rw [told_7]; exact op_ne (by simp))]
  exact rowFrom_yes _ 13 8 (by rw [told_8])
theorem by_9 (a b m : Int) : rowFrom (⟨13, a, b, 0, m⟩ : PM.Ins) 22 0 = rowAt 9 := by
  rw [rowFrom_no _ 21 0 (by rw [told_0]; exact op_ne (by simp)), rowFrom_no _ 20 1 (by rw [told_1]; exact op_ne (by simp)), rowFrom_no _ 19 2 (by rw [told_2]; exact op_ne (by simp)), rowFrom_no _ 18 3 (by rw [told_3]; exact op_ne (by simp)), rowFrom_no _ 17 4 (by rw [told_4]; exact op_ne (by simp)), rowFrom_no _ 16 5 (by rw [told_5]; exact op_ne (by simp)), rowFrom_no _ 15 6 (by rw [told_6]; exact op_ne (by simp)), rowFrom_no _ 14 7 (by rw [told_7]; exact op_ne (by simp)), rowFrom_no _ 13 8 (by rw [told_8]; exact op_ne (by simp))]
  exact rowFrom_yes _ 12 9 (by rw [told_9])
theorem by_10 (a b m : Int) : rowFrom (⟨14, a, b, 0, m⟩ : PM.Ins) 22 0 = rowAt 10 := by
  rw [rowFrom_no _ 21 0 (by rw [told_0]; exact op_ne (by simp)), rowFrom_no _ 20 1 (by rw [told_1]; exact op_ne (by simp)), rowFrom_no _ 19 2 (by rw [told_2]; exact op_ne (by simp)), rowFrom_no _ 18 3 (by rw [told_3]; exact op_ne (by simp)), rowFrom_no _ 17 4 (by rw [told_4]; exact op_ne (by simp)), rowFrom_no _ 16 5 (by rw [told_5]; exact op_ne (by simp)), rowFrom_no _ 15 6 (by rw [told_6]; exact op_ne (by simp)), rowFrom_no _ 14 7 (by rw [told_7]; exact op_ne (by simp)), rowFrom_no _ 13 8 (by rw [told_8]; exact op_ne (by simp)), rowFrom_no _ 12 9 (by rw [told_9]; exact op_ne (by simp))]
  exact rowFrom_yes _ 11 10 (by rw [told_10])
theorem by_11 (a b c m : Int) : rowFrom (⟨9, a, b, c, m⟩ : PM.Ins) 22 0 = rowAt 11 := by
  rw [rowFrom_no _ 21 0 (by rw [told_0]; exact op_ne (by simp)), rowFrom_no _ 20 1 (by rw [told_1]; exact op_ne (by simp)), rowFrom_no _ 19 2 (by rw [told_2]; exact op_ne (by simp)), rowFrom_no _ 18 3 (by rw [told_3]; exact op_ne (by simp)), rowFrom_no _ 17 4 (by rw [told_4]; exact op_ne (by simp)), rowFrom_no _ 16 5 (by rw [told_5]; exact op_ne (by simp)), rowFrom_no _ 15 6 (by rw [told_6]; exact op_ne (by simp)), rowFrom_no _ 14 7 (by rw [told_7]; exact op_ne (by simp)), rowFrom_no _ 13 8 (by rw [told_8]; exact op_ne (by simp)), rowFrom_no _ 12 9 (by rw [told_9]; exact op_ne (by simp)), rowFrom_no _ 11 10 (by rw [told_10]; exact op_ne (by simp))]
  exact rowFrom_yes _ 10 11 (by rw [told_11])
theorem by_12 (a b c m : Int) : rowFrom (⟨10, a, b, c, m⟩ : PM.Ins) 22 0 = rowAt 12 := by
  rw [rowFrom_no _ 21 0 (by rw [told_0]; exact op_ne (by simp)), rowFrom_no _ 20 1 (by rw [told_1]; exact op_ne (by simp)), rowFrom_no _ 19 2 (by rw [told_2]; exact op_ne (by simp)), rowFrom_no _ 18 3 (by rw [told_3]; exact op_ne (by simp)), rowFrom_no _ 17 4 (by rw [told_4]; exact op_ne (by simp)), rowFrom_no _ 16 5 (by rw [told_5]; exact op_ne (by simp)), rowFrom_no _ 15 6 (by rw [told_6]; exact op_ne (by simp)), rowFrom_no _ 14 7 (by rw [told_7]; exact op_ne (by simp)), rowFrom_no _ 13 8 (by rw [told_8]; exact op_ne (by simp)), rowFrom_no _ 12 9 (by rw [told_9]; exact op_ne (by simp)), rowFrom_no _ 11 10 (by rw [told_10]; exact op_ne (by simp)), rowFrom_no _ 10 11 (by rw [told_11]; exact op_ne (by simp))]
  exact rowFrom_yes _ 9 12 (by rw [told_12])
theorem by_13 (m : Int) : rowFrom (⟨12, 0, 0, 0, m⟩ : PM.Ins) 22 0 = rowAt 13 := by
  rw [rowFrom_no _ 21 0 (by rw [told_0]; exact op_ne (by simp)), rowFrom_no _ 20 1 (by rw [told_1]; exact op_ne (by simp)), rowFrom_no _ 19 2 (by rw [told_2]; exact op_ne (by simp)), rowFrom_no _ 18 3 (by rw [told_3]; exact op_ne (by simp)), rowFrom_no _ 17 4 (by rw [told_4]; exact op_ne (by simp)), rowFrom_no _ 16 5 (by rw [told_5]; exact op_ne (by simp)), rowFrom_no _ 15 6 (by rw [told_6]; exact op_ne (by simp)), rowFrom_no _ 14 7 (by rw [told_7]; exact op_ne (by simp)), rowFrom_no _ 13 8 (by rw [told_8]; exact op_ne (by simp)), rowFrom_no _ 12 9 (by rw [told_9]; exact op_ne (by simp)), rowFrom_no _ 11 10 (by rw [told_10]; exact op_ne (by simp)), rowFrom_no _ 10 11 (by rw [told_11]; exact op_ne (by simp)), rowFrom_no _ 9 12 (by rw [told_12]; exact op_ne (by simp))]
  exact rowFrom_yes _ 8 13 (by rw [told_13])
theorem by_14 (a : Int) : rowFrom (⟨15, a, 0, 0, 0⟩ : PM.Ins) 22 0 = rowAt 14 := by
  rw [rowFrom_no _ 21 0 (by rw [told_0]; exact op_ne (by simp)), rowFrom_no _ 20 1 (by rw [told_1]; exact op_ne (by simp)), rowFrom_no _ 19 2 (by rw [told_2]; exact op_ne (by simp)), rowFrom_no _ 18 3 (by rw [told_3]; exact op_ne (by simp)), rowFrom_no _ 17 4 (by rw [told_4]; exact op_ne (by simp)), rowFrom_no _ 16 5 (by rw [told_5]; exact op_ne (by simp)), rowFrom_no _ 15 6 (by rw [told_6]; exact op_ne (by simp)), rowFrom_no _ 14 7 (by rw [told_7]; exact op_ne (by simp)), rowFrom_no _ 13 8 (by rw [told_8]; exact op_ne (by simp)), rowFrom_no _ 12 9 (by rw [told_9]; exact op_ne (by simp)), rowFrom_no _ 11 10 (by rw [told_10]; exact op_ne (by simp)), rowFrom_no _ 10 11 (by rw [told_11]; exact op_ne (by simp)), rowFrom_no _ 9 12 (by rw [told_12]; exact op_ne (by simp)), rowFrom_no _ 8 13 (by rw [told_13]; exact op_ne (by simp))]
  exact rowFrom_yes _ 7 14 (by rw [told_14])
theorem by_15 : rowFrom (⟨16, 0, 0, 0, 1⟩ : PM.Ins) 22 0 = rowAt 15 := by
  rw [rowFrom_no _ 21 0 (by rw [told_0]; exact op_ne (by simp)), rowFrom_no _ 20 1 (by rw [told_1]; exact op_ne (by simp)), rowFrom_no _ 19 2 (by rw [told_2]; exact op_ne (by simp)), rowFrom_no _ 18 3 (by rw [told_3]; exact op_ne (by simp)), rowFrom_no _ 17 4 (by rw [told_4]; exact op_ne (by simp)), rowFrom_no _ 16 5 (by rw [told_5]; exact op_ne (by simp)), rowFrom_no _ 15 6 (by rw [told_6]; exact op_ne (by simp)), rowFrom_no _ 14 7 (by rw [told_7]; exact op_ne (by simp)), rowFrom_no _ 13 8 (by rw [told_8]; exact op_ne (by simp)), rowFrom_no _ 12 9 (by rw [told_9]; exact op_ne (by simp)), rowFrom_no _ 11 10 (by rw [told_10]; exact op_ne (by simp)), rowFrom_no _ 10 11 (by rw [told_11]; exact op_ne (by simp)), rowFrom_no _ 9 12 (by rw [told_12]; exact op_ne (by simp)), rowFrom_no _ 8 13 (by rw [told_13]; exact op_ne (by simp)), rowFrom_no _ 7 14 (by rw [told_14]; exact op_ne (by simp))]
  exact rowFrom_yes _ 6 15 (by rw [told_15])
theorem by_16 : rowFrom (⟨16, 0, 0, 0, 2⟩ : PM.Ins) 22 0 = rowAt 16 := by
  rw [rowFrom_no _ 21 0 (by rw [told_0]; exact op_ne (by simp)), rowFrom_no _ 20 1 (by rw [told_1]; exact op_ne (by simp)), rowFrom_no _ 19 2 (by rw [told_2]; exact op_ne (by simp)), rowFrom_no _ 18 3 (by rw [told_3]; exact op_ne (by simp)), rowFrom_no _ 17 4 (by rw [told_4]; exact op_ne (by simp)), rowFrom_no _ 16 5 (by rw [told_5]; exact op_ne (by simp)), rowFrom_no _ 15 6 (by rw [told_6]; exact op_ne (by simp)), rowFrom_no _ 14 7 (by rw [told_7]; exact op_ne (by simp)), rowFrom_no _ 13 8 (by rw [told_8]; exact op_ne (by simp)), rowFrom_no _ 12 9 (by rw [told_9]; exact op_ne (by simp)), rowFrom_no _ 11 10 (by rw [told_10]; exact op_ne (by simp)), rowFrom_no _ 10 11 (by rw [told_11]; exact op_ne (by simp)), rowFrom_no _ 9 12 (by rw [told_12]; exact op_ne (by simp)), rowFrom_no _ 8 13 (by rw [told_13]; exact op_ne (by simp)), rowFrom_no _ 7 14 (by rw [told_14]; exact op_ne (by simp)), rowFrom_no _ 6 15 (by rw [told_15]; simp)]
  exact rowFrom_yes _ 5 16 (by rw [told_16])
theorem by_17 : rowFrom (⟨16, 0, 0, 0, 3⟩ : PM.Ins) 22 0 = rowAt 17 := by
  rw [rowFrom_no _ 21 0 (by rw [told_0]; exact op_ne (by simp)), rowFrom_no _ 20 1 (by rw [told_1]; exact op_ne (by simp)), rowFrom_no _ 19 2 (by rw [told_2]; exact op_ne (by simp)), rowFrom_no _ 18 3 (by rw [told_3]; exact op_ne (by simp)), rowFrom_no _ 17 4 (by rw [told_4]; exact op_ne (by simp)), rowFrom_no _ 16 5 (by rw [told_5]; exact op_ne (by simp)), rowFrom_no _ 15 6 (by rw [told_6]; exact op_ne (by simp)), rowFrom_no _ 14 7 (by rw [told_7]; exact op_ne (by simp)), rowFrom_no _ 13 8 (by rw [told_8]; exact op_ne (by simp)), rowFrom_no _ 12 9 (by rw [told_9]; exact op_ne (by simp)), rowFrom_no _ 11 10 (by rw [told_10]; exact op_ne (by simp)), rowFrom_no _ 10 11 (by rw [told_11]; exact op_ne (by simp)), rowFrom_no _ 9 12 (by rw [told_12]; exact op_ne (by simp)), rowFrom_no _ 8 13 (by rw [told_13]; exact op_ne (by simp)), rowFrom_no _ 7 14 (by rw [told_14]; exact op_ne (by simp)), rowFrom_no _ 6 15 (by rw [told_15]; simp), rowFrom_no _ 5 16 (by rw [told_16]; simp)]
  exact rowFrom_yes _ 4 17 (by rw [told_17])
theorem by_18 : rowFrom (⟨16, 0, 0, 0, 4⟩ : PM.Ins) 22 0 = rowAt 18 := by
  rw [rowFrom_no _ 21 0 (by rw [told_0]; exact op_ne (by simp)), rowFrom_no _ 20 1 (by rw [told_1]; exact op_ne (by simp)), rowFrom_no _ 19 2 (by rw [told_2]; exact op_ne (by simp)), rowFrom_no _ 18 3 (by rw [told_3]; exact op_ne (by simp)), rowFrom_no _ 17 4 (by rw [told_4]; exact op_ne (by simp)), rowFrom_no _ 16 5 (by rw [told_5]; exact op_ne (by simp)), rowFrom_no _ 15 6 (by rw [told_6]; exact op_ne (by simp)), rowFrom_no _ 14 7 (by rw [told_7]; exact op_ne (by simp)), rowFrom_no _ 13 8 (by rw [told_8]; exact op_ne (by simp)), rowFrom_no _ 12 9 (by rw [told_9]; exact op_ne (by simp)), rowFrom_no _ 11 10 (by rw [told_10]; exact op_ne (by simp)), rowFrom_no _ 10 11 (by rw [told_11]; exact op_ne (by simp)), rowFrom_no _ 9 12 (by rw [told_12]; exact op_ne (by simp)), rowFrom_no _ 8 13 (by rw [told_13]; exact op_ne (by simp)), rowFrom_no _ 7 14 (by rw [told_14]; exact op_ne (by simp)), rowFrom_no _ 6 15 (by rw [told_15]; simp), rowFrom_no _ 5 16 (by rw [told_16]; simp), rowFrom_no _ 4 17 (by rw [told_17]; simp)]
  exact rowFrom_yes _ 3 18 (by rw [told_18])
theorem by_19 : rowFrom (⟨16, 0, 0, 0, 5⟩ : PM.Ins) 22 0 = rowAt 19 := by
  rw [rowFrom_no _ 21 0 (by rw [told_0]; exact op_ne (by simp)), rowFrom_no _ 20 1 (by rw [told_1]; exact op_ne (by simp)), rowFrom_no _ 19 2 (by rw [told_2]; exact op_ne (by simp)), rowFrom_no _ 18 3 (by rw [told_3]; exact op_ne (by simp)), rowFrom_no _ 17 4 (by rw [told_4]; exact op_ne (by simp)), rowFrom_no _ 16 5 (by rw [told_5]; exact op_ne (by simp)), rowFrom_no _ 15 6 (by rw [told_6]; exact op_ne (by simp)), rowFrom_no _ 14 7 (by rw [told_7]; exact op_ne (by simp)), rowFrom_no _ 13 8 (by rw [told_8]; exact op_ne (by simp)), rowFrom_no _ 12 9 (by rw [told_9]; exact op_ne (by simp)), rowFrom_no _ 11 10 (by rw [told_10]; exact op_ne (by simp)), rowFrom_no _ 10 11 (by rw [told_11]; exact op_ne (by simp)), rowFrom_no _ 9 12 (by rw [told_12]; exact op_ne (by simp)), rowFrom_no _ 8 13 (by rw [told_13]; exact op_ne (by simp)), rowFrom_no _ 7 14 (by rw [told_14]; exact op_ne (by simp)), rowFrom_no _ 6 15 (by rw [told_15]; simp), rowFrom_no _ 5 16 (by rw [told_16]; simp), rowFrom_no _ 4 17 (by rw [told_17]; simp), rowFrom_no _ 3 18 (by rw [told_18]; simp)]
  exact rowFrom_yes _ 2 19 (by rw [told_19])
theorem by_20 : rowFrom (⟨16, 0, 0, 0, 6⟩ : PM.Ins) 22 0 = rowAt 20 := by
  rw [rowFrom_no _ 21 0 (by rw [told_0]; exact op_ne (by simp)), rowFrom_no _ 20 1 (by rw [told_1]; exact op_ne (by simp)), rowFrom_no _ 19 2 (by rw [told_2]; exact op_ne (by simp)), rowFrom_no _ 18 3 (by rw [told_3]; exact op_ne (by simp)), rowFrom_no _ 17 4 (by rw [told_4]; exact op_ne (by simp)), rowFrom_no _ 16 5 (by rw [told_5]; exact op_ne (by simp)), rowFrom_no _ 15 6 (by rw [told_6]; exact op_ne (by simp)), rowFrom_no _ 14 7 (by rw [told_7]; exact op_ne (by simp)), rowFrom_no _ 13 8 (by rw [told_8]; exact op_ne (by simp)), rowFrom_no _ 12 9 (by rw [told_9]; exact op_ne (by simp)), rowFrom_no _ 11 10 (by rw [told_10]; exact op_ne (by simp)), rowFrom_no _ 10 11 (by rw [told_11]; exact op_ne (by simp)), rowFrom_no _ 9 12 (by rw [told_12]; exact op_ne (by simp)), rowFrom_no _ 8 13 (by rw [told_13]; exact op_ne (by simp)), rowFrom_no _ 7 14 (by rw [told_14]; exact op_ne (by simp)), rowFrom_no _ 6 15 (by rw [told_15]; simp), rowFrom_no _ 5 16 (by rw [told_16]; simp), rowFrom_no _ 4 17 (by rw [told_17]; simp), rowFrom_no _ 3 18 (by rw [told_18]; simp), rowFrom_no _ 2 19 (by rw [told_19]; simp)]
  exact rowFrom_yes _ 1 20 (by rw [told_20])
theorem by_raw (i : PM.Ins) (h : ∀ k, k < 21 → ¬ toldN (rowAt k) i = i) : rowFrom i 22 0 = rowAt 21 := by
  rw [rowFrom_no _ 21 0 (h 0 (by omega)), rowFrom_no _ 20 1 (h 1 (by omega)), rowFrom_no _ 19 2 (h 2 (by omega)), rowFrom_no _ 18 3 (h 3 (by omega)), rowFrom_no _ 17 4 (h 4 (by omega)), rowFrom_no _ 16 5 (h 5 (by omega)), rowFrom_no _ 15 6 (h 6 (by omega)), rowFrom_no _ 14 7 (h 7 (by omega)), rowFrom_no _ 13 8 (h 8 (by omega)), rowFrom_no _ 12 9 (h 9 (by omega)), rowFrom_no _ 11 10 (h 10 (by omega)), rowFrom_no _ 10 11 (h 11 (by omega)), rowFrom_no _ 9 12 (h 12 (by omega)), rowFrom_no _ 8 13 (h 13 (by omega)), rowFrom_no _ 7 14 (h 14 (by omega)), rowFrom_no _ 6 15 (h 15 (by omega)), rowFrom_no _ 5 16 (h 16 (by omega)), rowFrom_no _ 4 17 (h 17 (by omega)), rowFrom_no _ 3 18 (h 18 (by omega)), rowFrom_no _ 2 19 (h 19 (by omega)), rowFrom_no _ 1 20 (h 20 (by omega))]
  exact rowFrom_yes _ 0 21 (by rw [told_21])
theorem told_plain (i : PM.Ins) (k : Nat) (hk : k < 21) (h : toldN (rowAt k) i = i) : plainN i = i := by
  have hk2 : k = 0 ∨ k = 1 ∨ k = 2 ∨ k = 3 ∨ k = 4 ∨ k = 5 ∨ k = 6 ∨ k = 7 ∨ k = 8 ∨ k = 9 ∨ k = 10 ∨ k = 11 ∨ k = 12 ∨ k = 13 ∨ k = 14 ∨ k = 15 ∨ k = 16 ∨ k = 17 ∨ k = 18 ∨ k = 19 ∨ k = 20 := by omega
  rcases hk2 with rfl | rfl | rfl | rfl | rfl | rfl | rfl | rfl | rfl | rfl | rfl | rfl | rfl | rfl | rfl | rfl | rfl | rfl | rfl | rfl | rfl
  · rw [told_0] at h
    obtain ⟨o, a, b, c, m⟩ := i
    simp only [PM.Ins.mk.injEq, true_and, and_true] at h
    unfold plainN
    simp only
    simp [← h]
  · rw [told_1] at h
    obtain ⟨o, a, b, c, m⟩ := i
    simp only [PM.Ins.mk.injEq, true_and, and_true] at h
    unfold plainN
    simp only
    simp [← h]
  · rw [told_2] at h
    obtain ⟨o, a, b, c, m⟩ := i
    simp only [PM.Ins.mk.injEq, true_and, and_true] at h
    unfold plainN
    simp only
    simp [← h]
  · rw [told_3] at h
    obtain ⟨o, a, b, c, m⟩ := i
    simp only [PM.Ins.mk.injEq, true_and, and_true] at h
    unfold plainN
    simp only
    simp [← h]
  · rw [told_4] at h
    obtain ⟨o, a, b, c, m⟩ := i
    simp only [PM.Ins.mk.injEq, true_and, and_true] at h
    unfold plainN
    simp only
    simp [← h]
  · rw [told_5] at h
    obtain ⟨o, a, b, c, m⟩ := i
    simp only [PM.Ins.mk.injEq, true_and, and_true] at h
    unfold plainN
    simp only
    simp [← h]
  · rw [told_6] at h
    obtain ⟨o, a, b, c, m⟩ := i
    simp only [PM.Ins.mk.injEq, true_and, and_true] at h
    unfold plainN
    simp only
    simp [← h]
  · rw [told_7] at h
    obtain ⟨o, a, b, c, m⟩ := i
    simp only [PM.Ins.mk.injEq, true_and, and_true] at h
    unfold plainN
    simp only
    simp [← h]
  · rw [told_8] at h
    obtain ⟨o, a, b, c, m⟩ := i
    simp only [PM.Ins.mk.injEq, true_and, and_true] at h
    unfold plainN
    simp only
    simp [← h]
  · rw [told_9] at h
    obtain ⟨o, a, b, c, m⟩ := i
    simp only [PM.Ins.mk.injEq, true_and, and_true] at h
    unfold plainN
    simp only
    simp [← h]
  · rw [told_10] at h
    obtain ⟨o, a, b, c, m⟩ := i
    simp only [PM.Ins.mk.injEq, true_and, and_true] at h
    unfold plainN
    simp only
    simp [← h]
  · rw [told_11] at h
    obtain ⟨o, a, b, c, m⟩ := i
    simp only [PM.Ins.mk.injEq, true_and, and_true] at h
    unfold plainN
    simp only
    simp [← h]
  · rw [told_12] at h
    obtain ⟨o, a, b, c, m⟩ := i
    simp only [PM.Ins.mk.injEq, true_and, and_true] at h
    unfold plainN
    simp only
    simp [← h]
  · rw [told_13] at h
    obtain ⟨o, a, b, c, m⟩ := i
    simp only [PM.Ins.mk.injEq, true_and, and_true] at h
    unfold plainN
    simp only
    simp [← h]
  · rw [told_14] at h
    obtain ⟨o, a, b, c, m⟩ := i
    simp only [PM.Ins.mk.injEq, true_and, and_true] at h
    unfold plainN
    simp only
    simp [← h]
  · rw [told_15] at h
    obtain ⟨o, a, b, c, m⟩ := i
    simp only [PM.Ins.mk.injEq, true_and, and_true] at h
    unfold plainN
    simp only
    simp [← h]
  · rw [told_16] at h
    obtain ⟨o, a, b, c, m⟩ := i
    simp only [PM.Ins.mk.injEq, true_and, and_true] at h
    unfold plainN
    simp only
    simp [← h]
  · rw [told_17] at h
    obtain ⟨o, a, b, c, m⟩ := i
    simp only [PM.Ins.mk.injEq, true_and, and_true] at h
    unfold plainN
    simp only
    simp [← h]
  · rw [told_18] at h
    obtain ⟨o, a, b, c, m⟩ := i
    simp only [PM.Ins.mk.injEq, true_and, and_true] at h
    unfold plainN
    simp only
    simp [← h]
  · rw [told_19] at h
    obtain ⟨o, a, b, c, m⟩ := i
    simp only [PM.Ins.mk.injEq, true_and, and_true] at h
    unfold plainN
    simp only
    simp [← h]
  · rw [told_20] at h
    obtain ⟨o, a, b, c, m⟩ := i
    simp only [PM.Ins.mk.injEq, true_and, and_true] at h
    unfold plainN
    simp only
    simp [← h]
end Go.Proofs.YtklobjfhjlkgfaaDoor.TW
