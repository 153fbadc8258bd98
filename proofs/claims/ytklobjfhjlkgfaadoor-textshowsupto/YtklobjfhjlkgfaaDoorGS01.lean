import Derived.Test.YtklobjfhjlkgfaaDoorGS00
import Derived.Lib.OthersKept
import Derived.WalkSmall
import Derived.WalkKit
import Derived.Below
import Derived.Deep.QuietTactic
import Derived.BigQuiet
/- The reference's plain: what its row shows of an instruction. -/
namespace Go.Proofs.YtklobjfhjlkgfaaDoor.TW
open Go.RowKit
set_option linter.unusedVariables false
set_option maxRecDepth 100000
set_option linter.unusedSimpArgs false

def plainN (i : PM.Ins) : PM.Ins :=
  if i.op = 1 ∨ i.op = 11 then ⟨i.op, i.a, 0, 0, i.m⟩
  else if i.op = 8 ∨ i.op = 13 ∨ i.op = 14 then ⟨i.op, i.a, i.b, 0, i.m⟩
  else if i.op = 12 ∨ i.op = 16 then ⟨i.op, 0, 0, 0, i.m⟩
  else if i.op = 15 then ⟨i.op, i.a, 0, 0, 0⟩
  else if i.op = 9 ∨ i.op = 10 then i
  else ⟨i.op, i.a, i.b, i.c, 0⟩
theorem two_below (w : World) (C D : Array Value) (t u : TypeId) : Below w.heap.size w ((w.alloc (.cells C t)).alloc (.cells D u)) := ((Below.refl w.heap.size w).alloc (Nat.le_refl _) _).alloc (by simp) _
theorem plain_1 (a b c m : Int) (w : World) : Calls Tryd.prog 24 #[.agg #[.int .i64 1, .int .i64 a, .int .i64 b, .int .i64 c, .int .i64 m]] w fun e w' => e = .returned (.agg #[.int .i64 1, .int .i64 a, .int .i64 0, .int .i64 0, .int .i64 m]) ∧ Below w.heap.size w w' := by
  go_enter Tryd.func24, Tryd.ntmps24
  go_wp2
  exact bodyPost_ret (v := .agg #[.int .i64 1, .int .i64 a, .int .i64 0, .int .i64 0, .int .i64 m]) (by simp [results, Tryd.results24, go_sem]) rfl ⟨rfl, two_below _ _ _ _ _⟩
theorem plain_8 (a b c m : Int) (w : World) : Calls Tryd.prog 24 #[.agg #[.int .i64 8, .int .i64 a, .int .i64 b, .int .i64 c, .int .i64 m]] w fun e w' => e = .returned (.agg #[.int .i64 8, .int .i64 a, .int .i64 b, .int .i64 0, .int .i64 m]) ∧ Below w.heap.size w w' := by
  go_enter Tryd.func24, Tryd.ntmps24
  go_wp2
  exact bodyPost_ret (v := .agg #[.int .i64 8, .int .i64 a, .int .i64 b, .int .i64 0, .int .i64 m]) (by simp [results, Tryd.results24, go_sem]) rfl ⟨rfl, two_below _ _ _ _ _⟩
theorem plain_9 (a b c m : Int) (w : World) : Calls Tryd.prog 24 #[.agg #[.int .i64 9, .int .i64 a, .int .i64 b, .int .i64 c, .int .i64 m]] w fun e w' => e = .returned (.agg #[.int .i64 9, .int .i64 a, .int .i64 b, .int .i64 c, .int .i64 m]) ∧ Below w.heap.size w w' := by
  go_enter Tryd.func24, Tryd.ntmps24
  go_wp2
  exact bodyPost_ret (v := .agg #[.int .i64 9, .int .i64 a, .int .i64 b, .int .i64 c, .int .i64 m]) (by simp [results, Tryd.results24, go_sem]) rfl ⟨rfl, two_below _ _ _ _ _⟩
theorem plain_10 (a b c m : Int) (w : World) : Calls Tryd.prog 24 #[.agg #[.int .i64 10, .int .i64 a, .int .i64 b, .int .i64 c, .int .i64 m]] w fun e w' => e = .returned (.agg #[.int .i64 10, .int .i64 a, .int .i64 b, .int .i64 c, .int .i64 m]) ∧ Below w.heap.size w w' := by
  go_enter Tryd.func24, Tryd.ntmps24
  go_wp2
  exact bodyPost_ret (v := .agg #[.int .i64 10, .int .i64 a, .int .i64 b, .int .i64 c, .int .i64 m]) (by simp [results, Tryd.results24, go_sem]) rfl ⟨rfl, two_below _ _ _ _ _⟩
theorem plain_11 (a b c m : Int) (w : World) : Calls Tryd.prog 24 #[.agg #[.int .i64 11, .int .i64 a, .int .i64 b, .int .i64 c, .int .i64 m]] w fun e w' => e = .returned (.agg #[.int .i64 11, .int .i64 a, .int .i64 0, .int .i64 0, .int .i64 m]) ∧ Below w.heap.size w w' := by
  go_enter Tryd.func24, Tryd.ntmps24
  go_wp2
  exact bodyPost_ret (v := .agg #[.int .i64 11, .int .i64 a, .int .i64 0, .int .i64 0, .int .i64 m]) (by simp [results, Tryd.results24, go_sem]) rfl ⟨rfl, two_below _ _ _ _ _⟩
theorem plain_12 (a b c m : Int) (w : World) : Calls Tryd.prog 24 #[.agg #[.int .i64 12, .int .i64 a, .int .i64 b, .int .i64 c, .int .i64 m]] w fun e w' => e = .returned (.agg #[.int .i64 12, .int .i64 0, .int .i64 0, .int .i64 0, .int .i64 m]) ∧ Below w.heap.size w w' := by
  go_enter Tryd.func24, Tryd.ntmps24
  go_wp2
  exact bodyPost_ret (v := .agg #[.int .i64 12, .int .i64 0, .int .i64 0, .int .i64 0, .int .i64 m]) (by simp [results, Tryd.results24, go_sem]) rfl ⟨rfl, two_below _ _ _ _ _⟩
theorem plain_13 (a b c m : Int) (w : World) : Calls Tryd.prog 24 #[.agg #[.int .i64 13, .int .i64 a, .int .i64 b, .int .i64 c, .int .i64 m]] w fun e w' => e = .returned (.agg #[.int .i64 13, .int .i64 a, .int .i64 b, .int .i64 0, .int .i64 m]) ∧ Below w.heap.size w w' := by
  go_enter Tryd.func24, Tryd.ntmps24
  go_wp2
  exact bodyPost_ret (v := .agg #[.int .i64 13, .int .i64 a, .int .i64 b, .int .i64 0, .int .i64 m]) (by simp [results, Tryd.results24, go_sem]) rfl ⟨rfl, two_below _ _ _ _ _⟩
theorem plain_14 (a b c m : Int) (w : World) : Calls Tryd.prog 24 #[.agg #[.int .i64 14, .int .i64 a, .int .i64 b, .int .i64 c, .int .i64 m]] w fun e w' => e = .returned (.agg #[.int .i64 14, .int .i64 a, .int .i64 b, .int .i64 0, .int .i64 m]) ∧ Below w.heap.size w w' := by
  go_enter Tryd.func24, Tryd.ntmps24
  go_wp2
  exact bodyPost_ret (v := .agg #[.int .i64 14, .int .i64 a, .int .i64 b, .int .i64 0, .int .i64 m]) (by simp [results, Tryd.results24, go_sem]) rfl ⟨rfl, two_below _ _ _ _ _⟩
theorem plain_15 (a b c m : Int) (w : World) : Calls Tryd.prog 24 #[.agg #[.int .i64 15, .int .i64 a, .int .i64 b, .int .i64 c, .int .i64 m]] w fun e w' => e = .returned (.agg #[.int .i64 15, .int .i64 a, .int .i64 0, .int .i64 0, .int .i64 0]) ∧ Below w.heap.size w w' := by
  go_enter Tryd.func24, Tryd.ntmps24
  go_wp2
  exact bodyPost_ret (v := .agg #[.int .i64 15, .int .i64 a, .int .i64 0, .int .i64 0, .int .i64 0]) (by simp [results, Tryd.results24, go_sem]) rfl ⟨rfl, two_below _ _ _ _ _⟩
theorem plain_16 (a b c m : Int) (w : World) : Calls Tryd.prog 24 #[.agg #[.int .i64 16, .int .i64 a, .int .i64 b, .int .i64 c, .int .i64 m]] w fun e w' => e = .returned (.agg #[.int .i64 16, .int .i64 0, .int .i64 0, .int .i64 0, .int .i64 m]) ∧ Below w.heap.size w w' := by
  go_enter Tryd.func24, Tryd.ntmps24
  go_wp2
  exact bodyPost_ret (v := .agg #[.int .i64 16, .int .i64 0, .int .i64 0, .int .i64 0, .int .i64 m]) (by simp [results, Tryd.results24, go_sem]) rfl ⟨rfl, two_below _ _ _ _ _⟩
theorem plain_else (op a b c m : Int) (w : World) (h : ∀ k ∈ [1, 8, 9, 10, 11, 12, 13, 14, 15, 16], op ≠ k) : Calls Tryd.prog 24 #[.agg #[.int .i64 op, .int .i64 a, .int .i64 b, .int .i64 c, .int .i64 m]] w fun e w' => e = .returned (.agg #[.int .i64 op, .int .i64 a, .int .i64 b, .int .i64 c, .int .i64 0]) ∧ Below w.heap.size w w' := by
  have h1 : ¬ op = 1 := h 1 (by simp)
  have h8 : ¬ op = 8 := h 8 (by simp)
  have h9 : ¬ op = 9 := h 9 (by simp)
  have h10 : ¬ op = 10 := h 10 (by simp)
  have h11 : ¬ op = 11 := h 11 (by simp)
  have h12 : ¬ op = 12 := h 12 (by simp)
  have h13 : ¬ op = 13 := h 13 (by simp)
  have h14 : ¬ op = 14 := h 14 (by simp)
  have h15 : ¬ op = 15 := h 15 (by simp)
  have h16 : ¬ op = 16 := h 16 (by simp)
  clear h
  go_enter Tryd.func24, Tryd.ntmps24
  go_wp2
  exact bodyPost_ret (v := .agg #[.int .i64 op, .int .i64 a, .int .i64 b, .int .i64 c, .int .i64 0]) (by simp [results, Tryd.results24, go_sem]) rfl ⟨rfl, two_below _ _ _ _ _⟩
theorem plain_any (i : PM.Ins) (w : World) : Calls Tryd.prog 24 #[.agg i.cells] w fun e w' => e = .returned (.agg (plainN i).cells) ∧ Below w.heap.size w w' := by
  obtain ⟨op, a, b, c, m⟩ := i
  by_cases g : ∀ k ∈ [1, 8, 9, 10, 11, 12, 13, 14, 15, 16], op ≠ k
  · have e : plainN ⟨op, a, b, c, m⟩ = ⟨op, a, b, c, 0⟩ := by
      have g2 := g
      simp only [List.mem_cons, List.not_mem_nil, or_false, forall_eq_or_imp, forall_eq] at g2
      unfold plainN
      simp only
      rw [if_neg (by omega), if_neg (by omega), if_neg (by omega), if_neg (by omega), if_neg (by omega)]
    rw [e]
    exact plain_else op a b c m w g
  · have g2 : op = 1 ∨ op = 8 ∨ op = 9 ∨ op = 10 ∨ op = 11 ∨ op = 12 ∨ op = 13 ∨ op = 14 ∨ op = 15 ∨ op = 16 := by
      simp only [List.mem_cons, List.not_mem_nil, or_false, forall_eq_or_imp, forall_eq] at g
      omega
    rcases g2 with rfl | rfl | rfl | rfl | rfl | rfl | rfl | rfl | rfl | rfl
    · exact plain_1 a b c m w
    · exact plain_8 a b c m w
    · exact plain_9 a b c m w
    · exact plain_10 a b c m w
    · exact plain_11 a b c m w
    · exact plain_12 a b c m w
    · exact plain_13 a b c m w
    · exact plain_14 a b c m w
    · exact plain_15 a b c m w
    · exact plain_16 a b c m w
end Go.Proofs.YtklobjfhjlkgfaaDoor.TW
/- The reference's names of operations and calls. -/
namespace Go.Proofs.YtklobjfhjlkgfaaDoor.TW
open Go.RowKit
set_option linter.unusedVariables false
set_option maxRecDepth 100000
set_option linter.unusedSimpArgs false

def str (l : List UInt8) : ByteArray := ⟨l.toArray⟩
def opL : List ByteArray := [str [], str [115, 101, 116], str [97, 100, 100], str [115, 117, 98], str [109, 117, 108], str [97, 110, 100], str [120, 111, 114], str [115, 104, 114], str [97, 100, 100, 105], str [108, 111, 97, 100], str [115, 116, 111, 114, 101], str [104, 101, 114, 101], str [106, 117, 109, 112], str [101, 113, 117, 97, 108], str [108, 101, 115, 115], str [103, 111], str []]
def callL : List ByteArray := [str [], str [111, 117, 116], str [109, 97, 112], str [117, 110, 109, 97, 112], str [112, 114, 111, 116, 101, 99, 116], str [102, 111, 114, 107], str [101, 120, 105, 116]]
def strC (l : List ByteArray) : Array Value := (l.map Value.string).toArray
theorem opNames_any (w : World) : Calls Tryd.prog 26 #[] w fun e w' => e = .returned (.slice (some ⟨w.heap.size, 0, none⟩) 17 17) ∧ w' = w.alloc (.cells (strC opL) 9) := by
  go_enter Tryd.func26, Tryd.ntmps26
  go_wp2
  go_ret
  exact ⟨rfl, rfl⟩
theorem callNames_any (w : World) : Calls Tryd.prog 27 #[] w fun e w' => e = .returned (.slice (some ⟨w.heap.size, 0, none⟩) 7 7) ∧ w' = w.alloc (.cells (strC callL) 9) := by
  go_enter Tryd.func27, Tryd.ntmps27
  go_wp2
  go_ret
  exact ⟨rfl, rfl⟩
end Go.Proofs.YtklobjfhjlkgfaaDoor.TW
/- The reference's place: of a word in a list. -/
namespace Go.Proofs.YtklobjfhjlkgfaaDoor.TW
open Go.RowKit
set_option linter.unusedVariables false
set_option maxRecDepth 100000
set_option linter.unusedSimpArgs false

theorem str_eqT (a b : ByteArray) : (a.toList == b.toList) = decide (a = b) := by
  have key : a.toList = b.toList ↔ a = b := by
    constructor
    · intro h
      apply ByteArray.ext
      rw [ByteArray.toList_eq, ByteArray.toList_eq] at h
      exact Array.toList_inj.1 (by simpa using h)
    · intro h; rw [h]
  by_cases h : a = b
  · rw [decide_eq_true h]; simpa using key.2 h
  · rw [decide_eq_false h]
    have : ¬ a.toList = b.toList := fun g => h (key.1 g)
    simpa using this
/-- the place of the word among the places from k on, fuel n -/
def placeFrom (w : ByteArray) (l : List ByteArray) : Nat → Nat → Int
  | 0, _ => 0
  | n + 1, k => if l.getD k (str []) = w ∧ w ≠ str [] then (k : Int) else placeFrom w l n (k + 1)
def placeN (w : ByteArray) (l : List ByteArray) : Int := placeFrom w l (l.length - 1) 1
set_option maxHeartbeats 1000000 in
theorem place_any (wd : ByteArray) (l : List ByteArray) (b off cap : Nat) (w : World) (h : ∀ k, k < l.length → w.cell? ⟨b, off + k, none⟩ = some (.string (l.getD k (str [])))) (hl : l.length ≤ 1000) :
    Calls Tryd.prog 50 #[.string wd, .slice (some ⟨b, off, none⟩) l.length cap] w fun e w' => e = .returned (.int .i64 (placeN wd l)) ∧ w = w' := by
  have HC := hideC h
  clear h
  obtain ⟨R, hR⟩ : ∃ R, R = placeN wd l := ⟨_, rfl⟩
  have HR : Hid (placeFrom wd l (l.length - 1) 1 = R) := hR.symm
  rw [← hR]
  clear hR
  go_enter Tryd.func50, Tryd.ntmps50
  go_wp2
  go_loop [5] (fun i => ∃ k : Nat, 1 ≤ k ∧ i = .int .i64 k ∧ (k ≤ l.length ∨ k = 1) ∧ placeFrom wd l (l.length - k) k = R) (fun i => l.length - (intOf i).toNat)
  case atStart => exact ⟨1, by omega, rfl, .inr rfl, HR.out⟩
  case round =>
    obtain ⟨k, hk1, rfl, hk, hrr⟩ := hrel
    have HRR := hideC hrr
    clear hrr
    by_cases hlt : k < l.length
    · obtain ⟨n, hn⟩ : ∃ n, l.length - k = n + 1 := ⟨l.length - k - 1, by omega⟩
      have HST : Hid ((if l.getD k (str []) = wd ∧ wd ≠ str [] then (k : Int) else placeFrom wd l n (k + 1)) = R) := by
        have hh := HRR.out
        rw [hn] at hh
        exact hh
      have hn2 : l.length - (k + 1) = n := by omega
      have c0 := HC.out k hlt
      obtain ⟨x, hx⟩ : ∃ x, x = l.getD k (str []) := ⟨_, rfl⟩
      rw [← hx] at c0 HST
      clear hx HRR hn
      have hki : (k : Int) < (l.length : Int) := by omega
      by_cases hxw : x = wd
      · have hq : (x.toList == wd.toList) = true := (str_eqT _ _).trans (decide_eq_true hxw)
        by_cases he : wd = str []
        · have HE := HST.out
          rw [if_neg (fun g => g.2 he)] at HE
          have HX := hideC HE
          have hq2 : wd.toList.isEmpty = true := by rw [he, ByteArray.toList_eq]; rfl
          clear HE HST hxw he
          go_wp2
          go_round
          case rel => exact ⟨k + 1, by omega, by go_num, by omega, by rw [hn2]; exact HX.out⟩
          case measure => simp [intOf]; omega
        · have HE := HST.out
          rw [if_pos ⟨hxw, he⟩] at HE
          have hq2 : wd.toList.isEmpty = false := by
            cases e : wd.toList with
            | nil => exact (he (by apply ByteArray.ext; have e2 := e; rw [ByteArray.toList_eq] at e2; exact Array.toList_inj.1 (by simpa [str] using e2))).elim
            | cons x r => rfl
          obtain rfl := HE
          clear HST hxw he
          go_wp2
          go_ret
          exact ⟨rfl, rfl⟩
      · have hq : (x.toList == wd.toList) = false := (str_eqT _ _).trans (decide_eq_false hxw)
        have HE := HST.out
        rw [if_neg (fun g => hxw g.1)] at HE
        have HX := hideC HE
        clear HE HST hxw
        go_wp2
        go_round
        case rel => exact ⟨k + 1, by omega, by go_num, by omega, by rw [hn2]; exact HX.out⟩
        case measure => simp [intOf]; omega
    · have hz : l.length - k = 0 := by omega
      have HE := HRR.out
      rw [hz] at HE
      obtain rfl : (0 : Int) = R := HE
      go_wp2
      go_ret
      exact ⟨rfl, rfl⟩
end Go.Proofs.YtklobjfhjlkgfaaDoor.TW
/- The reference's Said: the number that digits say. -/
namespace Go.Proofs.YtklobjfhjlkgfaaDoor.TW
open Go.RowKit
set_option linter.unusedVariables false
set_option maxRecDepth 100000
set_option linter.unusedSimpArgs false

def byteAt (s : ByteArray) (k : Nat) : Nat := (s.data.toList.getD k 0).toNat
/-- the number behind the first k signs, not yet turned -/
def saidTo (s : ByteArray) : Nat → Option Int
  | 0 => some 0
  | k + 1 => match saidTo s k with
    | none => none
    | some n => if k = 0 ∧ byteAt s 0 = 45 then some n
      else if byteAt s k < 48 ∨ 57 < byteAt s k then none
      else some (wrap64 (wrap64 (10 * n) - ((byteAt s k : Int) - 48)))
def turnN (s : ByteArray) (n : Int) : Int := if s.size = 0 ∨ byteAt s 0 ≠ 45 then wrap64 (-n) else n
/-- what Said answers -/
def saidN (s : ByteArray) : Int × Bool := if 20 < s.size then (0, false) else match saidTo s s.size with
  | none => (0, false)
  | some n => (turnN s n, decide (itoaS (turnN s n) = s))
theorem saidTo_none {s : ByteArray} {k : Nat} (h : saidTo s k = none) : ∀ n, k ≤ n → saidTo s n = none
  | 0, hn => by obtain rfl : k = 0 := by omega
                exact h
  | n + 1, hn => by
    by_cases e : k = n + 1
    · subst e; exact h
    · simp only [saidTo]
      rw [saidTo_none h n (by omega)]
theorem byteAt_eq (s : ByteArray) (k : Nat) (h : k < s.size) : s[k].toNat = byteAt s k := by
  unfold byteAt
  have h' : k < s.data.toList.length := by rw [← Lib.size_eq]; exact h
  rw [List.getD_eq_getElem?_getD, List.getElem?_eq_getElem h']
  rfl
theorem wrap_i64 (x : Int) : I64 (wrap64 x) := by unfold I64 wrap64; omega
theorem said_i64 {s : ByteArray} : ∀ {k : Nat} {n : Int}, saidTo s k = some n → I64 n
  | 0, n, h => by simp only [saidTo] at h; injection h with h; subst h; unfold I64; omega
  | k + 1, n, h => by
    cases e : saidTo s k with
    | none => rw [saidTo_none e (k + 1) (by omega)] at h; cases h
    | some m =>
      simp only [saidTo] at h
      rw [e] at h
      simp only at h
      split at h
      · injection h with h
        subst h
        exact said_i64 e
      · split at h
        · cases h
        · injection h with h
          subst h
          exact wrap_i64 _
set_option maxHeartbeats 600000 in
theorem said_any (s : ByteArray) (w : World) (hs : s.size ≤ 140737488351232) : Calls Tryd.prog 49 #[.string s] w fun e w' => e = .returned (.tuple #[.int .i64 (saidN s).1, .bool (saidN s).2]) ∧ Below w.heap.size w w' := by
  by_cases h20 : 20 < s.size
  · have HS : Hid (saidN s = (0, false)) := by show _ = _; unfold saidN; rw [if_pos h20]
    rw [HS.out]
    clear HS
    go_enter Tryd.func49, Tryd.ntmps49
    go_wp2
    go_ret2
    exact ⟨rfl, Below.refl _ _⟩
  · have HS : Hid (saidN s = match saidTo s s.size with
      | none => (0, false)
      | some n => (turnN s n, decide (itoaS (turnN s n) = s))) := by show _ = _; unfold saidN; rw [if_neg h20]
    obtain ⟨⟨r1, r2⟩, hR⟩ : ∃ R, R = saidN s := ⟨_, rfl⟩
    rw [← hR] at HS ⊢
    clear hR
    simp only
    have h20' : s.size ≤ 20 := by omega
    clear h20
    go_enter Tryd.func49, Tryd.ntmps49
    go_wp2
    go_loop [5, 4] (fun i nv => ∃ (k : Nat) (n : Int), k ≤ s.size ∧ i = .int .i64 k ∧ nv = .int .i64 n ∧ saidTo s k = some n) (fun i _ => s.size - (intOf i).toNat)
    case atStart => exact ⟨0, 0, by omega, rfl, rfl, rfl⟩
    case round =>
      obtain ⟨k, n, hk, rfl, rfl, hst⟩ := hrel
      have HST := hideC hst
      clear hst
      by_cases hlt : k < s.size
      · have hby := byteAt_eq s k hlt
        have hb8 : s[k].toNat < 256 := s[k].toNat_lt
        have HNX : Hid (saidTo s (k + 1) = if k = 0 ∧ byteAt s 0 = 45 then some n else if byteAt s k < 48 ∨ 57 < byteAt s k then none else some (wrap64 (wrap64 (10 * n) - ((byteAt s k : Int) - 48)))) := by
          show _ = _
          simp only [saidTo]
          rw [HST.out]
        by_cases c1 : k = 0 ∧ byteAt s 0 = 45
        · have HX := HNX.out
          rw [if_pos c1] at HX
          have HY := hideC HX
          obtain ⟨rfl, c2⟩ := c1
          have h45 : (s[0].toNat : Int) = 45 := by rw [hby]; omega
          clear HX HNX hby c2
          go_wp2
          go_round
          case rel => exact ⟨1, n, by omega, by go_num, rfl, HY.out⟩
          case measure => simp [intOf]; omega
        · have HX := HNX.out
          rw [if_neg c1] at HX
          have hz0 : k = 0 → byteAt s 0 = s[k].toNat := fun e => by rw [hby, e]
          rw [← hby] at HX
          have HX2 := hideC HX
          have HNO : Hid (saidTo s (k + 1) = none → (r1, r2) = (0, false)) := fun e => by
            have e2 := saidTo_none e s.size (by omega)
            rw [HS.out, e2]
          have hcase : ((k : Int) == 0) = false ∨ (((k : Int) == 0) = true ∧ ((s[k].toNat : Int) == 45) = false) := by
            by_cases e : k = 0
            · refine .inr ⟨by simp [e], ?_⟩
              have h9 := hz0 e
              have h8 : ¬ byteAt s 0 = 45 := fun g => c1 ⟨e, g⟩
              rw [beq_eq_false_iff_ne]
              omega
            · exact .inl (by rw [beq_eq_false_iff_ne]; omega)
          clear HNX hby c1 hz0 HX
          by_cases e3 : s[k].toNat < 48
          · have HN := HX2.out
            rw [if_pos (.inl e3)] at HN
            obtain ⟨rfl, rfl⟩ := Prod.mk.inj (HNO.out HN)
            have e3' : (s[k].toNat : Int) < 48 := by omega
            clear HN HNO HX2 HS
            rcases hcase with q | ⟨q, q2⟩
            all_goals
              go_wp2
              go_ret2
              exact ⟨rfl, Below.refl _ _⟩
          · have e3' : ¬ (s[k].toNat : Int) < 48 := by omega
            by_cases e4 : 57 < s[k].toNat
            · have HN := HX2.out
              rw [if_pos (.inr e4)] at HN
              obtain ⟨rfl, rfl⟩ := Prod.mk.inj (HNO.out HN)
              have e4' : (57 : Int) < (s[k].toNat : Int) := by omega
              clear HN HNO HX2 HS
              rcases hcase with q | ⟨q, q2⟩
              all_goals
                go_wp2
                go_ret2
                exact ⟨rfl, Below.refl _ _⟩
            · have HN := HX2.out
              rw [if_neg (by omega)] at HN
              have HY := hideC HN
              have e4' : ¬ (57 : Int) < (s[k].toNat : Int) := by omega
              clear HN HNO HX2
              rcases hcase with q | ⟨q, q2⟩
              all_goals
                go_wp2
                go_round
                case rel => exact ⟨k + 1, _, by omega, by go_num, rfl, HY.out⟩
                case measure => simp [intOf]; omega
      · obtain rfl : k = s.size := by omega
        have HS2 := HS.out
        rw [HST.out] at HS2
        simp only at HS2
        obtain ⟨h1, h2⟩ := Prod.mk.inj HS2
        have hni := said_i64 HST.out
        have hr1 : I64 r1 := by rw [h1]; unfold turnN; split; exact wrap_i64 _; exact hni
        have HD := hideC (digits_any r1 hr1.1 hr1.2)
        have H2 : Hid (r2 = decide (itoaS r1 = s)) := by rw [h1]; exact h2
        have H1 := hideC h1
        clear HS2 h2 HS HST h1 hr1 hni h20'
        obtain ⟨DD, hDD⟩ : ∃ DD, DD = itoaS r1 := ⟨_, rfl⟩
        rw [← hDD] at HD H2
        have H3 : Hid ((DD.toList == s.toList) = r2) := by show _ = _; rw [H2.out]; exact str_eqT _ _
        clear hDD H2
        by_cases c0 : s.size = 0
        · have e1 : r1 = wrap64 (-n) := by rw [H1.out]; unfold turnN; rw [if_pos (.inl c0)]
          have c0' : (s.size : Int) = 0 := by omega
          clear H1
          rw [e1] at HD
          have HE1 := hideC e1
          clear e1
          go_wp2_with fail
          refine (HD.out _).mono ?_
          rintro e w1 ⟨rfl, hb1⟩
          have HB1 := hideC hb1
          clear hb1
          go_wp2
          go_ret2
          exact ⟨by rw [HE1.out, ← H3.out]; rfl, HB1.out⟩
        · have hb0 := byteAt_eq s 0 (by omega)
          have c0' : ((s.size : Int) == 0) = false := by rw [beq_eq_false_iff_ne]; omega
          have hps : (0 : Int) < (s.size : Int) := by omega
          have hps2 : 0 < s.size := by omega
          by_cases c1 : byteAt s 0 = 45
          · have e1 : r1 = n := by rw [H1.out]; unfold turnN; rw [if_neg (by omega)]
            have h45 : (s[0].toNat : Int) = 45 := by omega
            clear H1 hb0 c1
            rw [e1] at HD
            have HE1 := hideC e1
            clear e1
            go_wp2_with fail
            refine (HD.out _).mono ?_
            rintro e w1 ⟨rfl, hb1⟩
            have HB1 := hideC hb1
            clear hb1
            go_wp2
            go_ret2
            exact ⟨by rw [HE1.out, ← H3.out]; rfl, HB1.out⟩
          · have e1 : r1 = wrap64 (-n) := by rw [H1.out]; unfold turnN; rw [if_pos (.inr c1)]
            have h45 : ((s[0].toNat : Int) == 45) = false := by rw [beq_eq_false_iff_ne]; omega
            clear H1 hb0 c1
            rw [e1] at HD
            have HE1 := hideC e1
            clear e1
            go_wp2_with fail
            refine (HD.out _).mono ?_
            rintro e w1 ⟨rfl, hb1⟩
            have HB1 := hideC hb1
            clear hb1
            go_wp2
            go_ret2
            exact ⟨by rw [HE1.out, ← H3.out]; rfl, HB1.out⟩
end Go.Proofs.YtklobjfhjlkgfaaDoor.TW
/- The program's field, blank and told: parts of an instruction by their letters. -/
namespace Go.Proofs.YtklobjfhjlkgfaaDoor.TW
open Go.RowKit
set_option linter.unusedVariables false
set_option maxRecDepth 100000
set_option linter.unusedSimpArgs false

/-- the place of the part of that letter -/
def letIx (c : Int) : Nat := if c = 111 then 0 else if c = 97 then 1 else if c = 98 then 2 else if c = 99 then 3 else 4
theorem letIx_lt (c : Int) : letIx c < 5 := by
  unfold letIx
  split <;> (try split) <;> (try split) <;> (try split) <;> omega
theorem field_any (b : Nat) (c : Int) (w : World) : Calls Tryd.prog 20 #[.pointer (some ⟨b, 0, none⟩), .int .i32 c] w fun e w' => e = .returned (.pointer (some ⟨b, letIx c, none⟩)) ∧ w = w' := by
  by_cases h1 : c = 111
  · subst h1
    go_enter Tryd.func20, Tryd.ntmps20
    go_wp2
    go_ret
    exact ⟨rfl, rfl⟩
  · by_cases h2 : c = 97
    · subst h2
      go_enter Tryd.func20, Tryd.ntmps20
      go_wp2
      go_ret
      exact ⟨rfl, rfl⟩
    · by_cases h3 : c = 98
      · subst h3
        go_enter Tryd.func20, Tryd.ntmps20
        go_wp2
        go_ret
        exact ⟨rfl, rfl⟩
      · by_cases h4 : c = 99
        · subst h4
          go_enter Tryd.func20, Tryd.ntmps20
          go_wp2
          go_ret
          exact ⟨rfl, rfl⟩
        · have HL : Hid (letIx c = 4) := by show _ = _; unfold letIx; rw [if_neg h1, if_neg h2, if_neg h3, if_neg h4]
          rw [HL.out]
          go_enter Tryd.func20, Tryd.ntmps20
          go_wp2
          go_ret
          exact ⟨rfl, rfl⟩

/-- a row of the table -/
structure Row where
  name : ByteArray
  op : Int
  call : Int
  parts : ByteArray
def Row.cells (r : Row) : Array Value := #[.string r.name, .int .i64 r.op, .int .i64 r.call, .string r.parts]
def Row.val (r : Row) : Value := .agg r.cells
def Row.blank (r : Row) : PM.Ins := ⟨r.op, 0, 0, 0, r.call⟩
def getL (i : PM.Ins) (k : Nat) : Int := match k with
  | 0 => i.op
  | 1 => i.a
  | 2 => i.b
  | 3 => i.c
  | _ => i.m
def setL (i : PM.Ins) (k : Nat) (v : Int) : PM.Ins := match k with
  | 0 => { i with op := v }
  | 1 => { i with a := v }
  | 2 => { i with b := v }
  | 3 => { i with c := v }
  | _ => { i with m := v }
theorem cells_get (i : PM.Ins) (k : Nat) (h : k < 5) : i.cells[k]? = some (.int .i64 (getL i k)) := by
  match k, h with
  | 0, _ => rfl
  | 1, _ => rfl
  | 2, _ => rfl
  | 3, _ => rfl
  | 4, _ => rfl
theorem cells_set (i : PM.Ins) (k : Nat) (h : k < 5) (v : Int) : i.cells.setIfInBounds k (.int .i64 v) = (setL i k v).cells := by
  match k, h with
  | 0, _ => rfl
  | 1, _ => rfl
  | 2, _ => rfl
  | 3, _ => rfl
  | 4, _ => rfl
def letAt (s : ByteArray) (k : Nat) : Int := ((s.data.toList.getD k 0).toNat : Int)
theorem blank_any (r : Row) (w : World) : Calls Tryd.prog 47 #[.agg r.cells] w fun e w' => e = .returned (.agg r.blank.cells) ∧ Below w.heap.size w w' := by
  obtain ⟨n, o, c, p⟩ := r
  simp only [Row.cells, Row.blank, PM.Ins.cells]
  go_enter Tryd.func47, Tryd.ntmps47
  go_wp2
  exact bodyPost_ret (v := .agg #[.int .i64 o, .int .i64 0, .int .i64 0, .int .i64 0, .int .i64 c]) (by simp [results, Tryd.results47, go_sem]) rfl ⟨rfl, two_below _ _ _ _ _⟩
end Go.Proofs.YtklobjfhjlkgfaaDoor.TW
/- The program's told: what a row tells of an instruction. -/
namespace Go.Proofs.YtklobjfhjlkgfaaDoor.TW
open Go.RowKit
set_option linter.unusedVariables false
set_option maxRecDepth 100000
set_option linter.unusedSimpArgs false

/-- what is told by the first k letters of the parts -/
def toldTo (r : Row) (i : PM.Ins) : Nat → PM.Ins
  | 0 => r.blank
  | k + 1 => setL (toldTo r i k) (letIx (letAt r.parts k)) (getL i (letIx (letAt r.parts k)))
def toldN (r : Row) (i : PM.Ins) : PM.Ins := toldTo r i r.parts.size
def Ascii (s : ByteArray) : Prop := ∀ k (h : k < s.size), (s[k]'h).toNat < 128
theorem letAt_eq (s : ByteArray) (k : Nat) (h : k < s.size) : ((s[k].toNat : Nat) : Int) = letAt s k := by
  unfold letAt
  have h' : k < s.data.toList.length := by rw [← Lib.size_eq]; exact h
  rw [List.getD_eq_getElem?_getD, List.getElem?_eq_getElem h']
  rfl
theorem iter_below {w wr : World} (h : Below w.heap.size w wr) {K : Nat} (hk : w.heap.size ≤ K) (s : ByteArray) (pos : Nat) : Below w.heap.size w (wr.iterAt K s pos) := Lib.below_iterAt h hk s pos
set_option maxHeartbeats 2000000 in
theorem told_any (r : Row) (i : PM.Ins) (w : World) (ha : Ascii r.parts) (hs : r.parts.size ≤ 100) : Calls Tryd.prog 38 #[.agg r.cells, .agg i.cells] w fun e w' => e = .returned (.agg (toldN r i).cells) ∧ Below w.heap.size w w' := by
  have HA := hideC ha
  have HTS : Hid (∀ k, toldTo r i (k + 1) = setL (toldTo r i k) (letIx (letAt r.parts k)) (getL i (letIx (letAt r.parts k)))) := fun k => rfl
  have HBK : Hid (∀ w, Calls Tryd.prog 47 #[.agg #[.string r.name, .int .i64 r.op, .int .i64 r.call, .string r.parts]] w fun e w' => e = .returned (.agg (toldTo r i 0).cells) ∧ Below w.heap.size w w') := blank_any r
  have HB0 : Hid (Below w.heap.size w (((w.alloc (.cells #[.string r.name, .int .i64 r.op, .int .i64 r.call, .string r.parts] 48)).alloc (.cells #[.int .i64 i.op, .int .i64 i.a, .int .i64 i.b, .int .i64 i.c, .int .i64 i.m] 23)).alloc (.cells #[.int .i64 0, .int .i64 0, .int .i64 0, .int .i64 0, .int .i64 0] 23))) := (two_below _ _ _ _ _).alloc (by simp; omega) _
  have X0 := hideC (B.alloc (B.alloc (B.new w #[.string r.name, .int .i64 r.op, .int .i64 r.call, .string r.parts] 48) (.cells #[.int .i64 i.op, .int .i64 i.a, .int .i64 i.b, .int .i64 i.c, .int .i64 i.m] 23)) (.cells #[.int .i64 0, .int .i64 0, .int .i64 0, .int .i64 0, .int .i64 0] 23))
  have X1 := hideC (B.alloc (B.new (w.alloc (.cells #[.string r.name, .int .i64 r.op, .int .i64 r.call, .string r.parts] 48)) #[.int .i64 i.op, .int .i64 i.a, .int .i64 i.b, .int .i64 i.c, .int .i64 i.m] 23) (.cells #[.int .i64 0, .int .i64 0, .int .i64 0, .int .i64 0, .int .i64 0] 23))
  have X2 := hideC (B.new ((w.alloc (.cells #[.string r.name, .int .i64 r.op, .int .i64 r.call, .string r.parts] 48)).alloc (.cells #[.int .i64 i.op, .int .i64 i.a, .int .i64 i.b, .int .i64 i.c, .int .i64 i.m] 23)) #[.int .i64 0, .int .i64 0, .int .i64 0, .int .i64 0, .int .i64 0] 23)
  have HSZ : Hid ((((w.alloc (.cells #[.string r.name, .int .i64 r.op, .int .i64 r.call, .string r.parts] 48)).alloc (.cells #[.int .i64 i.op, .int .i64 i.a, .int .i64 i.b, .int .i64 i.c, .int .i64 i.m] 23)).alloc (.cells #[.int .i64 0, .int .i64 0, .int .i64 0, .int .i64 0, .int .i64 0] 23)).heap.size = w.heap.size + 3) := by show _ = _; simp
  rw [show (w.alloc (.cells #[.string r.name, .int .i64 r.op, .int .i64 r.call, .string r.parts] 48)).heap.size = w.heap.size + 1 by simp] at X1
  rw [show ((w.alloc (.cells #[.string r.name, .int .i64 r.op, .int .i64 r.call, .string r.parts] 48)).alloc (.cells #[.int .i64 i.op, .int .i64 i.a, .int .i64 i.b, .int .i64 i.c, .int .i64 i.m] 23)).heap.size = w.heap.size + 1 + 1 by simp] at X2
  obtain ⟨V0, hV0⟩ : ∃ V0, V0 = (((w.alloc (.cells #[.string r.name, .int .i64 r.op, .int .i64 r.call, .string r.parts] 48)).alloc (.cells #[.int .i64 i.op, .int .i64 i.a, .int .i64 i.b, .int .i64 i.c, .int .i64 i.m] 23)).alloc (.cells #[.int .i64 0, .int .i64 0, .int .i64 0, .int .i64 0, .int .i64 0] 23)) := ⟨_, rfl⟩
  rw [← hV0] at HB0 X0 X1 X2 HSZ
  have HV0 := hideC hV0
  clear hV0
  simp only [Row.cells, PM.Ins.cells]
  go_enter Tryd.func38, Tryd.ntmps38
  go_wp2_with fail
  rw [← HV0.out]
  refine (HBK.out _).mono ?_
  rintro e w1 ⟨rfl, hb1⟩
  have hsz1 : w.heap.size + 3 ≤ w1.heap.size := by rw [← HSZ.out]; exact hb1.size
  have Y0 := hideC (B.below X0.out hb1 (by have := HSZ.out; omega))
  have Y1 := hideC (B.below X1.out hb1 (by have := HSZ.out; omega))
  have Y2 := hideC (B.below X2.out hb1 (by have := HSZ.out; omega))
  have HB1 := hideC (HB0.out.trans (hb1.mono HB0.out.size))
  have c3 : w1.cell? ⟨w.heap.size, 3, none⟩ = some (.string r.parts) := B.cell Y0.out 3 rfl
  have ZZ := hideC hsz1
  clear hb1 HB0 X0 X1 X2 HSZ HV0 Y0
  obtain ⟨TC, hTC⟩ : ∃ TC, TC = (toldTo r i 0) := ⟨_, rfl⟩
  have HTC := hideC hTC
  rw [← hTC]
  clear hTC
  have hlt : w.heap.size < w1.heap.size := by omega
  simp only [PM.Ins.cells]
  go_wp2
  have L1 := hideC (B.alloc (B.alloc Y1.out (.cells TC.cells 23)) (.stringIter r.parts 0))
  have L2 := hideC (B.alloc (B.alloc Y2.out (.cells TC.cells 23)) (.stringIter r.parts 0))
  have LT := hideC (B.alloc (B.new w1 TC.cells 23) (.stringIter r.parts 0))
  have LB := hideC ((HB1.out.alloc (by omega) (.cells TC.cells 23)).alloc (by simp; omega) (.stringIter r.parts 0))
  have LI : Hid (((w1.alloc (.cells TC.cells 23)).alloc (.stringIter r.parts 0)).heap[w1.heap.size + 1]? = some (.stringIter r.parts 0)) := by
    have := World.iter_heap (w1.alloc (.cells TC.cells 23)) r.parts 0
    rw [show (w1.alloc (.cells TC.cells 23)).heap.size = w1.heap.size + 1 by simp] at this
    exact this
  have HTT : Hid (TC = toldTo r i 0) := HTC.out
  go_loopw [7] (fun c wr => ∃ pos : Nat, pos ≤ r.parts.size ∧ wr.heap[w.heap.size + 1]? = some (.cells i.cells 23 (0, 0)) ∧ wr.heap[w.heap.size + 1 + 1]? = some (.cells #[.int .i64 0, .int .i64 0, .int .i64 0, .int .i64 0, .int .i64 0] 23 (0, 0)) ∧ wr.heap[w1.heap.size]? = some (.cells (toldTo r i pos).cells 23 (0, 0)) ∧ wr.heap[w1.heap.size + 1]? = some (.stringIter r.parts pos) ∧ Below w.heap.size w wr) (fun _ wr => r.parts.size - wr.iterPos (w1.heap.size + 1))
  case atStart => exact ⟨0, by omega, L1.out, L2.out, by rw [← HTT.out]; exact LT.out, LI.out, LB.out⟩
  case round =>
    obtain ⟨pos, hpos, h1, h2, ht, hi, hb⟩ := hrel
    have HH1 := hideC h1
    have HH2 := hideC h2
    have HHT := hideC ht
    have HHI := hideC hi
    have HHB := hideC hb
    clear h1 h2 ht hb L1 L2 LT LI LB HTT
    by_cases hp : pos < r.parts.size
    · have hnx : ∀ ty, (Instr.next (.pointer (some ⟨w1.heap.size + 1, 0, none⟩)) true ty).run Tryd.prog wr = .ok (.tuple #[.bool true, .int .i64 pos, .int .i32 (letAt r.parts pos)]) (wr.iterAt (w1.heap.size + 1) r.parts (pos + 1)) := fun ty => by
        rw [← letAt_eq _ _ hp]
        exact Lib.run_next_ascii_at wr _ _ _ ty hi hp (HA.out pos hp)
      obtain ⟨W2, hW2⟩ : ∃ W2, W2 = wr.iterAt (w1.heap.size + 1) r.parts (pos + 1) := ⟨_, rfl⟩
      have G1 : Hid (W2.heap[w.heap.size + 1]? = some (.cells i.cells 23 (0, 0))) := by rw [hW2]; exact (Lib.iterAt_other _ _ _ _ _ (by omega)).trans HH1.out
      have G2 : Hid (W2.heap[w.heap.size + 1 + 1]? = some (.cells #[.int .i64 0, .int .i64 0, .int .i64 0, .int .i64 0, .int .i64 0] 23 (0, 0))) := by rw [hW2]; exact (Lib.iterAt_other _ _ _ _ _ (by omega)).trans HH2.out
      have GT : Hid (W2.heap[w1.heap.size]? = some (.cells (toldTo r i pos).cells 23 (0, 0))) := by rw [hW2]; exact (Lib.iterAt_other _ _ _ _ _ (by omega)).trans HHT.out
      have GI : Hid (W2.heap[w1.heap.size + 1]? = some (.stringIter r.parts (pos + 1))) := by rw [hW2]; exact Lib.iterAt_heap _ _ _ _ _ HHI.out
      have GB : Hid (Below w.heap.size w W2) := by rw [hW2]; exact iter_below HHB.out (by omega) _ _
      rw [← hW2] at hnx
      clear hW2 hi
      have HS := hideC (HTS.out pos)
      have hL5 := letIx_lt (letAt r.parts pos)
      have FD := hideC (fun b => field_any b (letAt r.parts pos))
      obtain ⟨c, hc⟩ : ∃ c, c = letAt r.parts pos := ⟨_, rfl⟩
      rw [← hc] at hnx HS hL5 FD
      clear hc
      obtain ⟨L, hL⟩ : ∃ L, L = letIx c := ⟨_, rfl⟩
      rw [← hL] at HS hL5 FD
      clear hL
      have a1 : W2.cell? ⟨w.heap.size + 1, L, none⟩ = some (.int .i64 (getL i L)) := B.cell G1.out L (cells_get i L hL5)
      have a2 : W2.cell? ⟨w1.heap.size, L, none⟩ = some (.int .i64 (getL (toldTo r i pos) L)) := B.cell GT.out L (cells_get _ L hL5)
      have a3 : W2.frozen? ⟨w1.heap.size, L, none⟩ = false := B.free GT.out L
      go_wp2_with (go_at_call 20; refine (FD.out _ _).mono ?_; rintro e w' ⟨rfl, rfl⟩)
      go_roundw
      case rel => exact ⟨pos + 1, by omega, B.other G1.out _ _ _ (by omega), B.other G2.out _ _ _ (by omega), by rw [HS.out, ← cells_set _ _ hL5]; exact B.set GT.out L _, B.other GI.out _ _ _ (by omega), GB.out.setCell (by show w.heap.size ≤ w1.heap.size; omega) _⟩
      case measure =>
        rw [iterPos_of (B.other GI.out _ _ _ (by omega)), iterPos_of HHI.out]
        omega
    · obtain rfl : pos = r.parts.size := by omega
      have hnx : ∀ ty, (Instr.next (.pointer (some ⟨w1.heap.size + 1, 0, none⟩)) true ty).run Tryd.prog wr = .ok (.tuple #[.bool false]) wr := fun ty => Lib.run_next_end_at wr _ _ _ ty hi hp
      have HN : Hid (toldN r i = toldTo r i r.parts.size) := rfl
      obtain ⟨t, hte⟩ : ∃ t, t = toldTo r i r.parts.size := ⟨_, rfl⟩
      rw [← hte] at HHT HN
      clear hte hi
      have a0 : wr.cell? ⟨w1.heap.size, 0, none⟩ = some (.int .i64 t.op) := B.cell HHT.out 0 rfl
      have a1 : wr.cell? ⟨w1.heap.size, 1, none⟩ = some (.int .i64 t.a) := B.cell HHT.out 1 rfl
      have a2 : wr.cell? ⟨w1.heap.size, 2, none⟩ = some (.int .i64 t.b) := B.cell HHT.out 2 rfl
      have a3 : wr.cell? ⟨w1.heap.size, 3, none⟩ = some (.int .i64 t.c) := B.cell HHT.out 3 rfl
      have a4 : wr.cell? ⟨w1.heap.size, 4, none⟩ = some (.int .i64 t.m) := B.cell HHT.out 4 rfl
      have b0 : wr.cell? ⟨w.heap.size + 1 + 1, 0, none⟩ = some (.int .i64 0) := B.cell HH2.out 0 rfl
      have b1 : wr.cell? ⟨w.heap.size + 1 + 1, 1, none⟩ = some (.int .i64 0) := B.cell HH2.out 1 rfl
      have b2 : wr.cell? ⟨w.heap.size + 1 + 1, 2, none⟩ = some (.int .i64 0) := B.cell HH2.out 2 rfl
      have b3 : wr.cell? ⟨w.heap.size + 1 + 1, 3, none⟩ = some (.int .i64 0) := B.cell HH2.out 3 rfl
      have b4 : wr.cell? ⟨w.heap.size + 1 + 1, 4, none⟩ = some (.int .i64 0) := B.cell HH2.out 4 rfl
      have f0 : ∀ k, wr.frozen? ⟨w.heap.size + 1 + 1, k, none⟩ = false := fun k => B.free HH2.out k
      have hne : ¬ w.heap.size + 1 + 1 = w1.heap.size := by omega
      go_wp2
      exact bodyPost_ret (v := .agg #[.int .i64 t.op, .int .i64 t.a, .int .i64 t.b, .int .i64 t.c, .int .i64 t.m]) (by simp [results, Tryd.results38, go_sem, b0, b1, b2, b3, b4]) rfl ⟨by rw [HN.out], ((((HHB.out.setCell (by show w.heap.size ≤ w.heap.size + 1 + 1; omega) _).setCell (by show w.heap.size ≤ w.heap.size + 1 + 1; omega) _).setCell (by show w.heap.size ≤ w.heap.size + 1 + 1; omega) _).setCell (by show w.heap.size ≤ w.heap.size + 1 + 1; omega) _).setCell (by show w.heap.size ≤ w.heap.size + 1 + 1; omega) _⟩
end Go.Proofs.YtklobjfhjlkgfaaDoor.TW
/- A region that draws its order, whose operations read and whose callees may make memory but turn nothing that was there: one walk in the order of the text (the library's quiet walk, over the class of all worlds that keep what was there). -/
namespace Go.Proofs.YtklobjfhjlkgfaaDoor.Q
open Go.RowKit
set_option linter.unusedVariables false
set_option maxRecDepth 100000

/-- a world that keeps what was there in w, below block number B -/
structure Kin (B : Nat) (w : World) where
  world : World
  keeps : Below B w world

theorem kin_some (w : World) : Nonempty (Kin w.heap.size w) := ⟨⟨w, Below.refl _ _⟩⟩

theorem region_kin {P : Program} {id : Nat} {Q : Exit → Act → World → Prop} {a : Act} {w : World} {l : List Oper} (hm : P.follows .mixedOrders = true) (hB : Region.lexB .any l.toArray = true)
    (h : wpQuiet P l.toArray (fun w' => ∃ x : Kin w.heap.size w, w' = x.world) (fun a' => ∀ w', (∃ x : Kin w.heap.size w, w' = x.world) → Q .normal a' w') l a) : (Code.region id l.toArray true).wp P Q a w :=
  wp_region_quiet (C := fun w' => ∃ x : Kin w.heap.size w, w' = x.world) hm hB ⟨⟨_, (Below.refl _ _).drew⟩, rfl⟩ (by simpa using h)

theorem calls_kin {P : Program} {f : FuncId} {args : Array Value} {v : Value} {w : World} (h : ∀ W, Calls P f args W fun e w' => e = .returned v ∧ Below W.heap.size W w') (x : Kin w.heap.size w) :
    Calls P f args x.world fun e w'' => e = .returned v ∧ ∃ y : Kin w.heap.size w, w'' = y.world :=
  (h x.world).mono fun e w'' ⟨he, hb⟩ => ⟨he, ⟨w'', x.keeps.trans (hb.mono x.keeps.size)⟩, rfl⟩

theorem cell_kin {w : World} (x : Kin w.heap.size w) (b o : Nat) (h : b < w.heap.size) : x.world.cell? ⟨b, o, none⟩ = w.cell? ⟨b, o, none⟩ := x.keeps.cell (p := ⟨b, o, none⟩) h

end Go.Proofs.YtklobjfhjlkgfaaDoor.Q
