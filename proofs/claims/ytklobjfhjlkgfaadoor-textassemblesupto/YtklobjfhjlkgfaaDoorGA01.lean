import Derived.Test.YtklobjfhjlkgfaaDoorGA00
import Derived.Lib.OthersKept
import Derived.WalkSmall
import Derived.WalkKit
import Derived.Below
import Derived.Deep.QuietTactic
import Derived.BigQuiet
import Derived.Lib.Hide
import Derived.WalkSpells
import Derived.Deep.RegionHeld3
/- The reference's plain: what its row shows of an instruction. -/
namespace Go.Proofs.YtklobjfhjlkgfaaDoor.TW
open Go.RowKit
set_option linter.unusedVariables false
set_option maxRecDepth 100000
set_option linter.unusedSimpArgs false

def plainN (i : PM.Ins) : PM.Ins :=
  if i.op = 1 ∨ i.op = 11 then ⟨i.op, i.a, 0, 0, i.m⟩
  else if i.op = 8 ∨ i.op = 13 ∨ i.op = 14 then ⟨i.op, i.a, i.b, 0, i.m⟩
  else if i.op = 12 ∨ i.op = 16 then ⟨i.op, 0, 0, 0, i.m⟩
  else if i.op = 15 then ⟨i.op, i.a, 0, 0, 0⟩
  else if i.op = 9 ∨ i.op = 10 then i
  else ⟨i.op, i.a, i.b, i.c, 0⟩
theorem two_below (w : World) (C D : Array Value) (t u : TypeId) : Below w.heap.size w ((w.alloc (.cells C t)).alloc (.cells D u)) := ((Below.refl w.heap.size w).alloc (Nat.le_refl _) _).alloc (by simp) _
theorem plain_1 (a b c m : Int) (w : World) : Calls Tryd.prog 24 #[.agg #[.int .i64 1, .int .i64 a, .int .i64 b, .int .i64 c, .int .i64 m]] w fun e w' => e = .returned (.agg #[.int .i64 1, .int .i64 a, .int .i64 0, .int .i64 0, .int .i64 m]) ∧ Below w.heap.size w w' := by
  go_enter Tryd.func24, Tryd.ntmps24
  go_wp2
  exact bodyPost_ret (v := .agg #[.int .i64 1, .int .i64 a, .int .i64 0, .int .i64 0, .int .i64 m]) (by simp [results, Tryd.results24, go_sem]) rfl ⟨rfl, two_below _ _ _ _ _⟩
theorem plain_8 (a b c m : Int) (w : World) : Calls Tryd.prog 24 #[.agg #[.int .i64 8, .int .i64 a, .int .i64 b, .int .i64 c, .int .i64 m]] w fun e w' => e = .returned (.agg #[.int .i64 8, .int .i64 a, .int .i64 b, .int .i64 0, .int .i64 m]) ∧ Below w.heap.size w w' := by
  go_enter Tryd.func24, Tryd.ntmps24
  go_wp2
  exact bodyPost_ret (v := .agg #[.int .i64 8, .int .i64 a, .int .i64 b, .int .i64 0, .int .i64 m]) (by simp [results, Tryd.results24, go_sem]) rfl ⟨rfl, two_below _ _ _ _ _⟩
theorem plain_9 (a b c m : Int) (w : World) : Calls Tryd.prog 24 #[.agg #[.int .i64 9, .int .i64 a, .int .i64 b, .int .i64 c, .int .i64 m]] w fun e w' => e = .returned (.agg #[.int .i64 9, .int .i64 a, .int .i64 b, .int .i64 c, .int .i64 m]) ∧ Below w.heap.size w w' := by
  go_enter Tryd.func24, Tryd.ntmps24
  go_wp2
  exact bodyPost_ret (v := .agg #[.int .i64 9, .int .i64 a, .int .i64 b, .int .i64 c, .int .i64 m]) (by simp [results, Tryd.results24, go_sem]) rfl ⟨rfl, two_below _ _ _ _ _⟩
theorem plain_10 (a b c m : Int) (w : World) : Calls Tryd.prog 24 #[.agg #[.int .i64 10, .int .i64 a, .int .i64 b, .int .i64 c, .int .i64 m]] w fun e w' => e = .returned (.agg #[.int .i64 10, .int .i64 a, .int .i64 b, .int .i64 c, .int .i64 m]) ∧ Below w.heap.size w w' := by
  go_enter Tryd.func24, Tryd.ntmps24
  go_wp2
  exact bodyPost_ret (v := .agg #[.int .i64 10, .int .i64 a, .int .i64 b, .int .i64 c, .int .i64 m]) (by simp [results, Tryd.results24, go_sem]) rfl ⟨rfl, two_below _ _ _ _ _⟩
theorem plain_11 (a b c m : Int) (w : World) : Calls Tryd.prog 24 #[.agg #[.int .i64 11, .int .i64 a, .int .i64 b, .int .i64 c, .int .i64 m]] w fun e w' => e = .returned (.agg #[.int .i64 11, .int .i64 a, .int .i64 0, .int .i64 0, .int .i64 m]) ∧ Below w.heap.size w w' := by
  go_enter Tryd.func24, Tryd.ntmps24
  go_wp2
  exact bodyPost_ret (v := .agg #[.int .i64 11, .int .i64 a, .int .i64 0, .int .i64 0, .int .i64 m]) (by simp [results, Tryd.results24, go_sem]) rfl ⟨rfl, two_below _ _ _ _ _⟩
theorem plain_12 (a b c m : Int) (w : World) : Calls Tryd.prog 24 #[.agg #[.int .i64 12, .int .i64 a, .int .i64 b, .int .i64 c, .int .i64 m]] w fun e w' => e = .returned (.agg #[.int .i64 12, .int .i64 0, .int .i64 0, .int .i64 0, .int .i64 m]) ∧ Below w.heap.size w w' := by
  go_enter Tryd.func24, Tryd.ntmps24
  go_wp2
  exact bodyPost_ret (v := .agg #[.int .i64 12, .int .i64 0, .int .i64 0, .int .i64 0, .int .i64 m]) (by simp [results, Tryd.results24, go_sem]) rfl ⟨rfl, two_below _ _ _ _ _⟩
theorem plain_13 (a b c m : Int) (w : World) : Calls Tryd.prog 24 #[.agg #[.int .i64 13, .int .i64 a, .int .i64 b, .int .i64 c, .int .i64 m]] w fun e w' => e = .returned (.agg #[.int .i64 13, .int .i64 a, .int .i64 b, .int .i64 0, .int .i64 m]) ∧ Below w.heap.size w w' := by
  go_enter Tryd.func24, Tryd.ntmps24
  go_wp2
  exact bodyPost_ret (v := .agg #[.int .i64 13, .int .i64 a, .int .i64 b, .int .i64 0, .int .i64 m]) (by simp [results, Tryd.results24, go_sem]) rfl ⟨rfl, two_below _ _ _ _ _⟩
theorem plain_14 (a b c m : Int) (w : World) : Calls Tryd.prog 24 #[.agg #[.int .i64 14, .int .i64 a, .int .i64 b, .int .i64 c, .int .i64 m]] w fun e w' => e = .returned (.agg #[.int .i64 14, .int .i64 a, .int .i64 b, .int .i64 0, .int .i64 m]) ∧ Below w.heap.size w w' := by
  go_enter Tryd.func24, Tryd.ntmps24
  go_wp2
  exact bodyPost_ret (v := .agg #[.int .i64 14, .int .i64 a, .int .i64 b, .int .i64 0, .int .i64 m]) (by simp [results, Tryd.results24, go_sem]) rfl ⟨rfl, two_below _ _ _ _ _⟩
theorem plain_15 (a b c m : Int) (w : World) : Calls Tryd.prog 24 #[.agg #[.int .i64 15, .int .i64 a, .int .i64 b, .int .i64 c, .int .i64 m]] w fun e w' => e = .returned (.agg #[.int .i64 15, .int .i64 a, .int .i64 0, .int .i64 0, .int .i64 0]) ∧ Below w.heap.size w w' := by
  go_enter Tryd.func24, Tryd.ntmps24
  go_wp2
  exact bodyPost_ret (v := .agg #[.int .i64 15, .int .i64 a, .int .i64 0, .int .i64 0, .int .i64 0]) (by simp [results, Tryd.results24, go_sem]) rfl ⟨rfl, two_below _ _ _ _ _⟩
theorem plain_16 (a b c m : Int) (w : World) : Calls Tryd.prog 24 #[.agg #[.int .i64 16, .int .i64 a, .int .i64 b, .int .i64 c, .int .i64 m]] w fun e w' => e = .returned (.agg #[.int .i64 16, .int .i64 0, .int .i64 0, .int .i64 0, .int .i64 m]) ∧ Below w.heap.size w w' := by
  go_enter Tryd.func24, Tryd.ntmps24
  go_wp2
  exact bodyPost_ret (v := .agg #[.int .i64 16, .int .i64 0, .int .i64 0, .int .i64 0, .int .i64 m]) (by simp [results, Tryd.results24, go_sem]) rfl ⟨rfl, two_below _ _ _ _ _⟩
theorem plain_else (op a b c m : Int) (w : World) (h : ∀ k ∈ [1, 8, 9, 10, 11, 12, 13, 14, 15, 16], op ≠ k) : Calls Tryd.prog 24 #[.agg #[.int .i64 op, .int .i64 a, .int .i64 b, .int .i64 c, .int .i64 m]] w fun e w' => e = .returned (.agg #[.int .i64 op, .int .i64 a, .int .i64 b, .int .i64 c, .int .i64 0]) ∧ Below w.heap.size w w' := by
  have h1 : ¬ op = 1 := h 1 (by simp)
  have h8 : ¬ op = 8 := h 8 (by simp)
  have h9 : ¬ op = 9 := h 9 (by simp)
  have h10 : ¬ op = 10 := h 10 (by simp)
  have h11 : ¬ op = 11 := h 11 (by simp)
  have h12 : ¬ op = 12 := h 12 (by simp)
  have h13 : ¬ op = 13 := h 13 (by simp)
  have h14 : ¬ op = 14 := h 14 (by simp)
  have h15 : ¬ op = 15 := h 15 (by simp)
  have h16 : ¬ op = 16 := h 16 (by simp)
  clear h
  go_enter Tryd.func24, Tryd.ntmps24
  go_wp2
  exact bodyPost_ret (v := .agg #[.int .i64 op, .int .i64 a, .int .i64 b, .int .i64 c, .int .i64 0]) (by simp [results, Tryd.results24, go_sem]) rfl ⟨rfl, two_below _ _ _ _ _⟩
theorem plain_any (i : PM.Ins) (w : World) : Calls Tryd.prog 24 #[.agg i.cells] w fun e w' => e = .returned (.agg (plainN i).cells) ∧ Below w.heap.size w w' := by
  obtain ⟨op, a, b, c, m⟩ := i
  by_cases g : ∀ k ∈ [1, 8, 9, 10, 11, 12, 13, 14, 15, 16], op ≠ k
  · have e : plainN ⟨op, a, b, c, m⟩ = ⟨op, a, b, c, 0⟩ := by
      have g2 := g
      simp only [List.mem_cons, List.not_mem_nil, or_false, forall_eq_or_imp, forall_eq] at g2
      unfold plainN
      simp only
      rw [if_neg (by omega), if_neg (by omega), if_neg (by omega), if_neg (by omega), if_neg (by omega)]
    rw [e]
    exact plain_else op a b c m w g
  · have g2 : op = 1 ∨ op = 8 ∨ op = 9 ∨ op = 10 ∨ op = 11 ∨ op = 12 ∨ op = 13 ∨ op = 14 ∨ op = 15 ∨ op = 16 := by
      simp only [List.mem_cons, List.not_mem_nil, or_false, forall_eq_or_imp, forall_eq] at g
      omega
    rcases g2 with rfl | rfl | rfl | rfl | rfl | rfl | rfl | rfl | rfl | rfl
    · exact plain_1 a b c m w
    · exact plain_8 a b c m w
    · exact plain_9 a b c m w
    · exact plain_10 a b c m w
    · exact plain_11 a b c m w
    · exact plain_12 a b c m w
    · exact plain_13 a b c m w
    · exact plain_14 a b c m w
    · exact plain_15 a b c m w
    · exact plain_16 a b c m w
end Go.Proofs.YtklobjfhjlkgfaaDoor.TW
/- The reference's names of operations and calls. -/
namespace Go.Proofs.YtklobjfhjlkgfaaDoor.TW
open Go.RowKit
set_option linter.unusedVariables false
set_option maxRecDepth 100000
set_option linter.unusedSimpArgs false

def str (l : List UInt8) : ByteArray := ⟨l.toArray⟩
def opL : List ByteArray := [str [], str [115, 101, 116], str [97, 100, 100], str [115, 117, 98], str [109, 117, 108], str [97, 110, 100], str [120, 111, 114], str [115, 104, 114], str [97, 100, 100, 105], str [108, 111, 97, 100], str [115, 116, 111, 114, 101], str [104, 101, 114, 101], str [106, 117, 109, 112], str [101, 113, 117, 97, 108], str [108, 101, 115, 115], str [103, 111], str []]
def callL : List ByteArray := [str [], str [111, 117, 116], str [109, 97, 112], str [117, 110, 109, 97, 112], str [112, 114, 111, 116, 101, 99, 116], str [102, 111, 114, 107], str [101, 120, 105, 116]]
def strC (l : List ByteArray) : Array Value := (l.map Value.string).toArray
theorem opNames_any (w : World) : Calls Tryd.prog 26 #[] w fun e w' => e = .returned (.slice (some ⟨w.heap.size, 0, none⟩) 17 17) ∧ w' = w.alloc (.cells (strC opL) 9) := by
  go_enter Tryd.func26, Tryd.ntmps26
  go_wp2
  go_ret
  exact ⟨rfl, rfl⟩
theorem callNames_any (w : World) : Calls Tryd.prog 27 #[] w fun e w' => e = .returned (.slice (some ⟨w.heap.size, 0, none⟩) 7 7) ∧ w' = w.alloc (.cells (strC callL) 9) := by
  go_enter Tryd.func27, Tryd.ntmps27
  go_wp2
  go_ret
  exact ⟨rfl, rfl⟩
end Go.Proofs.YtklobjfhjlkgfaaDoor.TW
/- The program's field, blank and told: parts of an instruction by their letters. -/
namespace Go.Proofs.YtklobjfhjlkgfaaDoor.TW
open Go.RowKit
set_option linter.unusedVariables false
set_option maxRecDepth 100000
set_option linter.unusedSimpArgs false

/-- the place of the part of that letter -/
def letIx (c : Int) : Nat := if c = 111 then 0 else if c = 97 then 1 else if c = 98 then 2 else if c = 99 then 3 else 4
theorem letIx_lt (c : Int) : letIx c < 5 := by
  unfold letIx
  split <;> (try split) <;> (try split) <;> (try split) <;> omega
theorem field_any (b : Nat) (c : Int) (w : World) : Calls Tryd.prog 20 #[.pointer (some ⟨b, 0, none⟩), .int .i32 c] w fun e w' => e = .returned (.pointer (some ⟨b, letIx c, none⟩)) ∧ w = w' := by
  by_cases h1 : c = 111
  · subst h1
    go_enter Tryd.func20, Tryd.ntmps20
    go_wp2
    go_ret
    exact ⟨rfl, rfl⟩
  · by_cases h2 : c = 97
    · subst h2
      go_enter Tryd.func20, Tryd.ntmps20
      go_wp2
      go_ret
      exact ⟨rfl, rfl⟩
    · by_cases h3 : c = 98
      · subst h3
        go_enter Tryd.func20, Tryd.ntmps20
        go_wp2
        go_ret
        exact ⟨rfl, rfl⟩
      · by_cases h4 : c = 99
        · subst h4
          go_enter Tryd.func20, Tryd.ntmps20
          go_wp2
          go_ret
          exact ⟨rfl, rfl⟩
        · have HL : Hid (letIx c = 4) := by show _ = _; unfold letIx; rw [if_neg h1, if_neg h2, if_neg h3, if_neg h4]
          rw [HL.out]
          go_enter Tryd.func20, Tryd.ntmps20
          go_wp2
          go_ret
          exact ⟨rfl, rfl⟩

/-- a row of the table -/
structure Row where
  name : ByteArray
  op : Int
  call : Int
  parts : ByteArray
def Row.cells (r : Row) : Array Value := #[.string r.name, .int .i64 r.op, .int .i64 r.call, .string r.parts]
def Row.val (r : Row) : Value := .agg r.cells
def Row.blank (r : Row) : PM.Ins := ⟨r.op, 0, 0, 0, r.call⟩
def getL (i : PM.Ins) (k : Nat) : Int := match k with
  | 0 => i.op
  | 1 => i.a
  | 2 => i.b
  | 3 => i.c
  | _ => i.m
def setL (i : PM.Ins) (k : Nat) (v : Int) : PM.Ins := match k with
  | 0 => { i with op := v }
  | 1 => { i with a := v }
  | 2 => { i with b := v }
  | 3 => { i with c := v }
  | _ => { i with m := v }
theorem cells_get (i : PM.Ins) (k : Nat) (h : k < 5) : i.cells[k]? = some (.int .i64 (getL i k)) := by
  match k, h with
  | 0, _ => rfl
  | 1, _ => rfl
  | 2, _ => rfl
  | 3, _ => rfl
  | 4, _ => rfl
theorem cells_set (i : PM.Ins) (k : Nat) (h : k < 5) (v : Int) : i.cells.setIfInBounds k (.int .i64 v) = (setL i k v).cells := by
  match k, h with
  | 0, _ => rfl
  | 1, _ => rfl
  | 2, _ => rfl
  | 3, _ => rfl
  | 4, _ => rfl
def letAt (s : ByteArray) (k : Nat) : Int := ((s.data.toList.getD k 0).toNat : Int)
theorem blank_any (r : Row) (w : World) : Calls Tryd.prog 47 #[.agg r.cells] w fun e w' => e = .returned (.agg r.blank.cells) ∧ Below w.heap.size w w' := by
  obtain ⟨n, o, c, p⟩ := r
  simp only [Row.cells, Row.blank, PM.Ins.cells]
  go_enter Tryd.func47, Tryd.ntmps47
  go_wp2
  exact bodyPost_ret (v := .agg #[.int .i64 o, .int .i64 0, .int .i64 0, .int .i64 0, .int .i64 c]) (by simp [results, Tryd.results47, go_sem]) rfl ⟨rfl, two_below _ _ _ _ _⟩
end Go.Proofs.YtklobjfhjlkgfaaDoor.TW
/- The program's told: what a row tells of an instruction. -/
namespace Go.Proofs.YtklobjfhjlkgfaaDoor.TW
open Go.RowKit
set_option linter.unusedVariables false
set_option maxRecDepth 100000
set_option linter.unusedSimpArgs false

/-- what is told by the first k letters of the parts -/
def toldTo (r : Row) (i : PM.Ins) : Nat → PM.Ins
  | 0 => r.blank
  | k + 1 => setL (toldTo r i k) (letIx (letAt r.parts k)) (getL i (letIx (letAt r.parts k)))
def toldN (r : Row) (i : PM.Ins) : PM.Ins := toldTo r i r.parts.size
def Ascii (s : ByteArray) : Prop := ∀ k (h : k < s.size), (s[k]'h).toNat < 128
theorem letAt_eq (s : ByteArray) (k : Nat) (h : k < s.size) : ((s[k].toNat : Nat) : Int) = letAt s k := by
  unfold letAt
  have h' : k < s.data.toList.length := by rw [← Lib.size_eq]; exact h
  rw [List.getD_eq_getElem?_getD, List.getElem?_eq_getElem h']
  rfl
theorem iter_below {w wr : World} (h : Below w.heap.size w wr) {K : Nat} (hk : w.heap.size ≤ K) (s : ByteArray) (pos : Nat) : Below w.heap.size w (wr.iterAt K s pos) := Lib.below_iterAt h hk s pos
set_option maxHeartbeats 2000000 in
theorem told_any (r : Row) (i : PM.Ins) (w : World) (ha : Ascii r.parts) (hs : r.parts.size ≤ 100) : Calls Tryd.prog 38 #[.agg r.cells, .agg i.cells] w fun e w' => e = .returned (.agg (toldN r i).cells) ∧ Below w.heap.size w w' := by
  have HA := hideC ha
  have HTS : Hid (∀ k, toldTo r i (k + 1) = setL (toldTo r i k) (letIx (letAt r.parts k)) (getL i (letIx (letAt r.parts k)))) := fun k => rfl
  have HBK : Hid (∀ w, Calls Tryd.prog 47 #[.agg #[.string r.name, .int .i64 r.op, .int .i64 r.call, .string r.parts]] w fun e w' => e = .returned (.agg (toldTo r i 0).cells) ∧ Below w.heap.size w w') := blank_any r
  have HB0 : Hid (Below w.heap.size w (((w.alloc (.cells #[.string r.name, .int .i64 r.op, .int .i64 r.call, .string r.parts] 48)).alloc (.cells #[.int .i64 i.op, .int .i64 i.a, .int .i64 i.b, .int .i64 i.c, .int .i64 i.m] 23)).alloc (.cells #[.int .i64 0, .int .i64 0, .int .i64 0, .int .i64 0, .int .i64 0] 23))) := (two_below _ _ _ _ _).alloc (by simp; omega) _
  have X0 := hideC (B.alloc (B.alloc (B.new w #[.string r.name, .int .i64 r.op, .int .i64 r.call, .string r.parts] 48) (.cells #[.int .i64 i.op, .int .i64 i.a, .int .i64 i.b, .int .i64 i.c, .int .i64 i.m] 23)) (.cells #[.int .i64 0, .int .i64 0, .int .i64 0, .int .i64 0, .int .i64 0] 23))
  have X1 := hideC (B.alloc (B.new (w.alloc (.cells #[.string r.name, .int .i64 r.op, .int .i64 r.call, .string r.parts] 48)) #[.int .i64 i.op, .int .i64 i.a, .int .i64 i.b, .int .i64 i.c, .int .i64 i.m] 23) (.cells #[.int .i64 0, .int .i64 0, .int .i64 0, .int .i64 0, .int .i64 0] 23))
  have X2 := hideC (B.new ((w.alloc (.cells #[.string r.name, .int .i64 r.op, .int .i64 r.call, .string r.parts] 48)).alloc (.cells #[.int .i64 i.op, .int .i64 i.a, .int .i64 i.b, .int .i64 i.c, .int .i64 i.m] 23)) #[.int .i64 0, .int .i64 0, .int .i64 0, .int .i64 0, .int .i64 0] 23)
  have HSZ : Hid ((((w.alloc (.cells #[.string r.name, .int .i64 r.op, .int .i64 r.call, .string r.parts] 48)).alloc (.cells #[.int .i64 i.op, .int .i64 i.a, .int .i64 i.b, .int .i64 i.c, .int .i64 i.m] 23)).alloc (.cells #[.int .i64 0, .int .i64 0, .int .i64 0, .int .i64 0, .int .i64 0] 23)).heap.size = w.heap.size + 3) := by show _ = _; simp
  rw [show (w.alloc (.cells #[.string r.name, .int .i64 r.op, .int .i64 r.call, .string r.parts] 48)).heap.size = w.heap.size + 1 by simp] at X1
  rw [show ((w.alloc (.cells #[.string r.name, .int .i64 r.op, .int .i64 r.call, .string r.parts] 48)).alloc (.cells #[.int .i64 i.op, .int .i64 i.a, .int .i64 i.b, .int .i64 i.c, .int .i64 i.m] 23)).heap.size = w.heap.size + 1 + 1 by simp] at X2
  obtain ⟨V0, hV0⟩ : ∃ V0, V0 = (((w.alloc (.cells #[.string r.name, .int .i64 r.op, .int .i64 r.call, .string r.parts] 48)).alloc (.cells #[.int .i64 i.op, .int .i64 i.a, .int .i64 i.b, .int .i64 i.c, .int .i64 i.m] 23)).alloc (.cells #[.int .i64 0, .int .i64 0, .int .i64 0, .int .i64 0, .int .i64 0] 23)) := ⟨_, rfl⟩
  rw [← hV0] at HB0 X0 X1 X2 HSZ
  have HV0 := hideC hV0
  clear hV0
  simp only [Row.cells, PM.Ins.cells]
  go_enter Tryd.func38, Tryd.ntmps38
  go_wp2_with fail
  rw [← HV0.out]
  refine (HBK.out _).mono ?_
  rintro e w1 ⟨rfl, hb1⟩
  have hsz1 : w.heap.size + 3 ≤ w1.heap.size := by rw [← HSZ.out]; exact hb1.size
  have Y0 := hideC (B.below X0.out hb1 (by have := HSZ.out; omega))
  have Y1 := hideC (B.below X1.out hb1 (by have := HSZ.out; omega))
  have Y2 := hideC (B.below X2.out hb1 (by have := HSZ.out; omega))
  have HB1 := hideC (HB0.out.trans (hb1.mono HB0.out.size))
  have c3 : w1.cell? ⟨w.heap.size, 3, none⟩ = some (.string r.parts) := B.cell Y0.out 3 rfl
  have ZZ := hideC hsz1
  clear hb1 HB0 X0 X1 X2 HSZ HV0 Y0
  obtain ⟨TC, hTC⟩ : ∃ TC, TC = (toldTo r i 0) := ⟨_, rfl⟩
  have HTC := hideC hTC
  rw [← hTC]
  clear hTC
  have hlt : w.heap.size < w1.heap.size := by omega
  simp only [PM.Ins.cells]
  go_wp2
  have L1 := hideC (B.alloc (B.alloc Y1.out (.cells TC.cells 23)) (.stringIter r.parts 0))
  have L2 := hideC (B.alloc (B.alloc Y2.out (.cells TC.cells 23)) (.stringIter r.parts 0))
  have LT := hideC (B.alloc (B.new w1 TC.cells 23) (.stringIter r.parts 0))
  have LB := hideC ((HB1.out.alloc (by omega) (.cells TC.cells 23)).alloc (by simp; omega) (.stringIter r.parts 0))
  have LI : Hid (((w1.alloc (.cells TC.cells 23)).alloc (.stringIter r.parts 0)).heap[w1.heap.size + 1]? = some (.stringIter r.parts 0)) := by
    have := World.iter_heap (w1.alloc (.cells TC.cells 23)) r.parts 0
    rw [show (w1.alloc (.cells TC.cells 23)).heap.size = w1.heap.size + 1 by simp] at this
    exact this
  have HTT : Hid (TC = toldTo r i 0) := HTC.out
  go_loopw [7] (fun c wr => ∃ pos : Nat, pos ≤ r.parts.size ∧ wr.heap[w.heap.size + 1]? = some (.cells i.cells 23 (0, 0)) ∧ wr.heap[w.heap.size + 1 + 1]? = some (.cells #[.int .i64 0, .int .i64 0, .int .i64 0, .int .i64 0, .int .i64 0] 23 (0, 0)) ∧ wr.heap[w1.heap.size]? = some (.cells (toldTo r i pos).cells 23 (0, 0)) ∧ wr.heap[w1.heap.size + 1]? = some (.stringIter r.parts pos) ∧ Below w.heap.size w wr) (fun _ wr => r.parts.size - wr.iterPos (w1.heap.size + 1))
  case atStart => exact ⟨0, by omega, L1.out, L2.out, by rw [← HTT.out]; exact LT.out, LI.out, LB.out⟩
  case round =>
    obtain ⟨pos, hpos, h1, h2, ht, hi, hb⟩ := hrel
    have HH1 := hideC h1
    have HH2 := hideC h2
    have HHT := hideC ht
    have HHI := hideC hi
    have HHB := hideC hb
    clear h1 h2 ht hb L1 L2 LT LI LB HTT
    by_cases hp : pos < r.parts.size
    · have hnx : ∀ ty, (Instr.next (.pointer (some ⟨w1.heap.size + 1, 0, none⟩)) true ty).run Tryd.prog wr = .ok (.tuple #[.bool true, .int .i64 pos, .int .i32 (letAt r.parts pos)]) (wr.iterAt (w1.heap.size + 1) r.parts (pos + 1)) := fun ty => by
        rw [← letAt_eq _ _ hp]
        exact Lib.run_next_ascii_at wr _ _ _ ty hi hp (HA.out pos hp)
      obtain ⟨W2, hW2⟩ : ∃ W2, W2 = wr.iterAt (w1.heap.size + 1) r.parts (pos + 1) := ⟨_, rfl⟩
      have G1 : Hid (W2.heap[w.heap.size + 1]? = some (.cells i.cells 23 (0, 0))) := by rw [hW2]; exact (Lib.iterAt_other _ _ _ _ _ (by omega)).trans HH1.out
      have G2 : Hid (W2.heap[w.heap.size + 1 + 1]? = some (.cells #[.int .i64 0, .int .i64 0, .int .i64 0, .int .i64 0, .int .i64 0] 23 (0, 0))) := by rw [hW2]; exact (Lib.iterAt_other _ _ _ _ _ (by omega)).trans HH2.out
      have GT : Hid (W2.heap[w1.heap.size]? = some (.cells (toldTo r i pos).cells 23 (0, 0))) := by rw [hW2]; exact (Lib.iterAt_other _ _ _ _ _ (by omega)).trans HHT.out
      have GI : Hid (W2.heap[w1.heap.size + 1]? = some (.stringIter r.parts (pos + 1))) := by rw [hW2]; exact Lib.iterAt_heap _ _ _ _ _ HHI.out
      have GB : Hid (Below w.heap.size w W2) := by rw [hW2]; exact iter_below HHB.out (by omega) _ _
      rw [← hW2] at hnx
      clear hW2 hi
      have HS := hideC (HTS.out pos)
      have hL5 := letIx_lt (letAt r.parts pos)
      have FD := hideC (fun b => field_any b (letAt r.parts pos))
      obtain ⟨c, hc⟩ : ∃ c, c = letAt r.parts pos := ⟨_, rfl⟩
      rw [← hc] at hnx HS hL5 FD
      clear hc
      obtain ⟨L, hL⟩ : ∃ L, L = letIx c := ⟨_, rfl⟩
      rw [← hL] at HS hL5 FD
      clear hL
      have a1 : W2.cell? ⟨w.heap.size + 1, L, none⟩ = some (.int .i64 (getL i L)) := B.cell G1.out L (cells_get i L hL5)
      have a2 : W2.cell? ⟨w1.heap.size, L, none⟩ = some (.int .i64 (getL (toldTo r i pos) L)) := B.cell GT.out L (cells_get _ L hL5)
      have a3 : W2.frozen? ⟨w1.heap.size, L, none⟩ = false := B.free GT.out L
      go_wp2_with (go_at_call 20; refine (FD.out _ _).mono ?_; rintro e w' ⟨rfl, rfl⟩)
      go_roundw
      case rel => exact ⟨pos + 1, by omega, B.other G1.out _ _ _ (by omega), B.other G2.out _ _ _ (by omega), by rw [HS.out, ← cells_set _ _ hL5]; exact B.set GT.out L _, B.other GI.out _ _ _ (by omega), GB.out.setCell (by show w.heap.size ≤ w1.heap.size; omega) _⟩
      case measure =>
        rw [iterPos_of (B.other GI.out _ _ _ (by omega)), iterPos_of HHI.out]
        omega
    · obtain rfl : pos = r.parts.size := by omega
      have hnx : ∀ ty, (Instr.next (.pointer (some ⟨w1.heap.size + 1, 0, none⟩)) true ty).run Tryd.prog wr = .ok (.tuple #[.bool false]) wr := fun ty => Lib.run_next_end_at wr _ _ _ ty hi hp
      have HN : Hid (toldN r i = toldTo r i r.parts.size) := rfl
      obtain ⟨t, hte⟩ : ∃ t, t = toldTo r i r.parts.size := ⟨_, rfl⟩
      rw [← hte] at HHT HN
      clear hte hi
      have a0 : wr.cell? ⟨w1.heap.size, 0, none⟩ = some (.int .i64 t.op) := B.cell HHT.out 0 rfl
      have a1 : wr.cell? ⟨w1.heap.size, 1, none⟩ = some (.int .i64 t.a) := B.cell HHT.out 1 rfl
      have a2 : wr.cell? ⟨w1.heap.size, 2, none⟩ = some (.int .i64 t.b) := B.cell HHT.out 2 rfl
      have a3 : wr.cell? ⟨w1.heap.size, 3, none⟩ = some (.int .i64 t.c) := B.cell HHT.out 3 rfl
      have a4 : wr.cell? ⟨w1.heap.size, 4, none⟩ = some (.int .i64 t.m) := B.cell HHT.out 4 rfl
      have b0 : wr.cell? ⟨w.heap.size + 1 + 1, 0, none⟩ = some (.int .i64 0) := B.cell HH2.out 0 rfl
      have b1 : wr.cell? ⟨w.heap.size + 1 + 1, 1, none⟩ = some (.int .i64 0) := B.cell HH2.out 1 rfl
      have b2 : wr.cell? ⟨w.heap.size + 1 + 1, 2, none⟩ = some (.int .i64 0) := B.cell HH2.out 2 rfl
      have b3 : wr.cell? ⟨w.heap.size + 1 + 1, 3, none⟩ = some (.int .i64 0) := B.cell HH2.out 3 rfl
      have b4 : wr.cell? ⟨w.heap.size + 1 + 1, 4, none⟩ = some (.int .i64 0) := B.cell HH2.out 4 rfl
      have f0 : ∀ k, wr.frozen? ⟨w.heap.size + 1 + 1, k, none⟩ = false := fun k => B.free HH2.out k
      have hne : ¬ w.heap.size + 1 + 1 = w1.heap.size := by omega
      go_wp2
      exact bodyPost_ret (v := .agg #[.int .i64 t.op, .int .i64 t.a, .int .i64 t.b, .int .i64 t.c, .int .i64 t.m]) (by simp [results, Tryd.results38, go_sem, b0, b1, b2, b3, b4]) rfl ⟨by rw [HN.out], ((((HHB.out.setCell (by show w.heap.size ≤ w.heap.size + 1 + 1; omega) _).setCell (by show w.heap.size ≤ w.heap.size + 1 + 1; omega) _).setCell (by show w.heap.size ≤ w.heap.size + 1 + 1; omega) _).setCell (by show w.heap.size ≤ w.heap.size + 1 + 1; omega) _).setCell (by show w.heap.size ≤ w.heap.size + 1 + 1; omega) _⟩
end Go.Proofs.YtklobjfhjlkgfaaDoor.TW
/- A region that draws its order, whose operations read and whose callees may make memory but turn nothing that was there: one walk in the order of the text (the library's quiet walk, over the class of all worlds that keep what was there). -/
namespace Go.Proofs.YtklobjfhjlkgfaaDoor.Q
open Go.RowKit
set_option linter.unusedVariables false
set_option maxRecDepth 100000

/-- a world that keeps what was there in w, below block number B -/
structure Kin (B : Nat) (w : World) where
  world : World
  keeps : Below B w world

theorem kin_some (w : World) : Nonempty (Kin w.heap.size w) := ⟨⟨w, Below.refl _ _⟩⟩

theorem region_kin {P : Program} {id : Nat} {Q : Exit → Act → World → Prop} {a : Act} {w : World} {l : List Oper} (hm : P.follows .mixedOrders = true) (hB : Region.lexB .any l.toArray = true)
    (h : wpQuiet P l.toArray (fun w' => ∃ x : Kin w.heap.size w, w' = x.world) (fun a' => ∀ w', (∃ x : Kin w.heap.size w, w' = x.world) → Q .normal a' w') l a) : (Code.region id l.toArray true).wp P Q a w :=
  wp_region_quiet (C := fun w' => ∃ x : Kin w.heap.size w, w' = x.world) hm hB ⟨⟨_, (Below.refl _ _).drew⟩, rfl⟩ (by simpa using h)

theorem calls_kin {P : Program} {f : FuncId} {args : Array Value} {v : Value} {w : World} (h : ∀ W, Calls P f args W fun e w' => e = .returned v ∧ Below W.heap.size W w') (x : Kin w.heap.size w) :
    Calls P f args x.world fun e w'' => e = .returned v ∧ ∃ y : Kin w.heap.size w, w'' = y.world :=
  (h x.world).mono fun e w'' ⟨he, hb⟩ => ⟨he, ⟨w'', x.keeps.trans (hb.mono x.keeps.size)⟩, rfl⟩

theorem cell_kin {w : World} (x : Kin w.heap.size w) (b o : Nat) (h : b < w.heap.size) : x.world.cell? ⟨b, o, none⟩ = w.cell? ⟨b, o, none⟩ := x.keeps.cell (p := ⟨b, o, none⟩) h

end Go.Proofs.YtklobjfhjlkgfaaDoor.Q
namespace Go.Proofs.YtklobjfhjlkgfaaDoor.PW
open Go.RowKit
set_option linter.unusedVariables false
set_option maxRecDepth 100000

theorem hideC {p : Prop} (h : p) : Hid p := h

set_option maxHeartbeats 400000 in
theorem decode_no (s : ByteArray) (w : World) (hs : s.size ≤ maxLen) (h : s.size ≠ 8) :
    Calls Tryd.prog 33 #[.string s] w fun e w' => e = .returned (.tuple #[.agg (PM.Ins.cells ⟨0, 0, 0, 0, 0⟩), .int .i64 3]) ∧ Below w.heap.size w w' := by
  unfold maxLen at hs
  have h' : decide ((s.size : Int) = 8) = false := by simp; omega
  go_enter Tryd.func33, Tryd.ntmps33
  go_wp2
  refine bodyPost_ret (v := .tuple #[.agg (PM.Ins.cells ⟨0, 0, 0, 0, 0⟩), .int .i64 3]) (by simp [results, Tryd.results33, go_sem, PM.Ins.cells]) rfl ?_
  exact ⟨rfl, (Below.refl _ _).alloc (Nat.le_refl _) _⟩

set_option maxHeartbeats 400000 in
theorem decode_yes (s : ByteArray) (w : World) (h : s.size = 8) :
    Calls Tryd.prog 33 #[.string s] w fun e w' => e = .returned (.tuple #[.agg (PM.Ins.cells (PM.ins s)), .int .i64 0]) ∧ Below w.heap.size w w' := by
  have hG : ∀ V, Calls Tryd.prog 55 #[.string (s.extract 4 8)] V fun e w' => e = .returned (.tuple #[.int .i64 (wrap64 (Lib.leNat (s.data.toList.drop 4))), .int .i64 0]) ∧ V = w' := fun V => by
    have h1 : (s.extract 4 8).size = 4 := by simp; omega
    have h2 := CW.get_yes (s.extract 4 8) V (by omega) (by omega)
    rw [PM.extract_data s h] at h2
    exact h2
  have h4 := PM.drop_lt s h
  have hv : PM.Ins.cells (PM.ins s) = #[.int .i64 (PM.at_ s 0), .int .i64 (PM.at_ s 1), .int .i64 (PM.at_ s 2), .int .i64 (PM.at_ s 3), .int .i64 (PM.sign32 ((Lib.leNat (s.data.toList.drop 4) : Nat) : Int))] := rfl
  have hw32 := PM.wrap32 ((Lib.leNat (s.data.toList.drop 4) : Nat) : Int) (by omega) (by omega)
  have hsr := PM.sign_range ((Lib.leNat (s.data.toList.drop 4) : Nat) : Int) (by omega) (by omega)
  rw [hv]
  have he : wrap64 ((Lib.leNat (s.data.toList.drop 4) : Nat) : Int) = ((Lib.leNat (s.data.toList.drop 4) : Nat) : Int) := by unfold wrap64; omega
  rw [he] at hG
  obtain ⟨L, hL⟩ : ∃ L : Int, L = ((Lib.leNat (s.data.toList.drop 4) : Nat) : Int) := ⟨_, rfl⟩
  rw [← hL] at hG hw32 hsr
  rw [← hL]
  obtain ⟨R, hR⟩ : ∃ R : Int, R = PM.sign32 L := ⟨_, rfl⟩
  rw [← hR] at hw32 hsr
  rw [← hR]
  have HG := hideC hG
  have g0 := PM.get_at s 0 (by omega)
  have g1 := PM.get_at s 1 (by omega)
  have g2 := PM.get_at s 2 (by omega)
  have g3 := PM.get_at s 3 (by omega)
  have hr : IntKind.i64.wrap R = R := IntWalk.i64_in _ (by omega)
  have u0 := PM.at_wrap s 0
  have u1 := PM.at_wrap s 1
  have u2 := PM.at_wrap s 2
  have u3 := PM.at_wrap s 3
  clear hG hL hR hv he h4
  go_enter Tryd.func33, Tryd.ntmps33
  go_wp2_with fail
  refine (HG.out _).mono ?_
  rintro e w1 ⟨rfl, rfl⟩
  go_wp2_with fail
  go_region
  go_wp2
  refine bodyPost_ret (v := .tuple #[.agg #[.int .i64 (PM.at_ s 0), .int .i64 (PM.at_ s 1), .int .i64 (PM.at_ s 2), .int .i64 (PM.at_ s 3), .int .i64 R], .int .i64 0]) (by simp [results, Tryd.results33, go_sem]) rfl ?_
  exact ⟨rfl, ((Below.refl _ _).alloc (Nat.le_refl _) _).drew⟩

set_option maxHeartbeats 400000 in
theorem from_any (s : ByteArray) (w : World) (h : s.size = 8) :
    Calls Tryd.prog 35 #[.string s] w fun e w' => e = .returned (.agg (PM.Ins.cells (PM.ins s))) ∧ Below w.heap.size w w' := by
  have hG : ∀ V, Calls Tryd.prog 57 #[.string (s.extract 4 8)] V fun e w' => e = .returned (.int .i64 (wrap64 (Lib.leNat (s.data.toList.drop 4)))) ∧ V = w' := fun V => by
    have h1 : (s.extract 4 8).size = 4 := by simp; omega
    have h2 := CW.number_any (s.extract 4 8) V (by omega) (by omega)
    rw [PM.extract_data s h] at h2
    exact h2
  have h4 := PM.drop_lt s h
  have hv : PM.Ins.cells (PM.ins s) = #[.int .i64 (PM.at_ s 0), .int .i64 (PM.at_ s 1), .int .i64 (PM.at_ s 2), .int .i64 (PM.at_ s 3), .int .i64 (PM.sign32 ((Lib.leNat (s.data.toList.drop 4) : Nat) : Int))] := rfl
  rw [hv]
  have he : wrap64 ((Lib.leNat (s.data.toList.drop 4) : Nat) : Int) = ((Lib.leNat (s.data.toList.drop 4) : Nat) : Int) := by unfold wrap64; omega
  rw [he] at hG
  have hl0 : (0 : Int) ≤ ((Lib.leNat (s.data.toList.drop 4) : Nat) : Int) := by omega
  have hl1 : ((Lib.leNat (s.data.toList.drop 4) : Nat) : Int) < 4294967296 := by omega
  obtain ⟨L, hL⟩ : ∃ L : Int, L = ((Lib.leNat (s.data.toList.drop 4) : Nat) : Int) := ⟨_, rfl⟩
  rw [← hL] at hG hl0 hl1
  rw [← hL]
  have HG := hideC hG
  have g0 := PM.get_at s 0 (by omega)
  have g1 := PM.get_at s 1 (by omega)
  have g2 := PM.get_at s 2 (by omega)
  have g3 := PM.get_at s 3 (by omega)
  have u0 := PM.at_wrap s 0
  have u1 := PM.at_wrap s 1
  have u2 := PM.at_wrap s 2
  have u3 := PM.at_wrap s 3
  clear hG hL hv he h4
  by_cases hc : 2147483648 ≤ L
  · have hsg : Hid (PM.sign32 L = L - 4294967296) := PM.sign_hi L hc
    rw [hsg.out]
    go_enter Tryd.func35, Tryd.ntmps35
    go_wp2_with fail
    refine (HG.out _).mono ?_
    rintro e w1 ⟨rfl, rfl⟩
    go_wp2_with fail
    go_region
    go_wp2
    refine bodyPost_ret (v := .agg #[.int .i64 (PM.at_ s 0), .int .i64 (PM.at_ s 1), .int .i64 (PM.at_ s 2), .int .i64 (PM.at_ s 3), .int .i64 (L - 4294967296)]) (by simp [results, Tryd.results35, go_sem]) rfl ?_
    exact ⟨rfl, ((Below.refl _ _).alloc (Nat.le_refl _) _).drew⟩
  · have hsg : Hid (PM.sign32 L = L) := PM.sign_lo L hc
    rw [hsg.out]
    go_enter Tryd.func35, Tryd.ntmps35
    go_wp2_with fail
    refine (HG.out _).mono ?_
    rintro e w1 ⟨rfl, rfl⟩
    go_wp2_with fail
    go_region
    go_wp2
    refine bodyPost_ret (v := .agg #[.int .i64 (PM.at_ s 0), .int .i64 (PM.at_ s 1), .int .i64 (PM.at_ s 2), .int .i64 (PM.at_ s 3), .int .i64 L]) (by simp [results, Tryd.results35, go_sem]) rfl ?_
    exact ⟨rfl, ((Below.refl _ _).alloc (Nat.le_refl _) _).drew⟩
end Go.Proofs.YtklobjfhjlkgfaaDoor.PW
namespace Go.Proofs.YtklobjfhjlkgfaaDoor.PW
open Go.RowKit
set_option linter.unusedVariables false
set_option maxRecDepth 100000

theorem within_yes (n lo hi : Int) (w : World) (h1 : lo ≤ n) (h2 : n ≤ hi) :
    Calls Tryd.prog 22 #[.int .i64 n, .int .i64 lo, .int .i64 hi] w fun e w' => e = .returned (.bool true) ∧ w = w' := by
  go_enter Tryd.func22, Tryd.ntmps22
  go_wp2
  go_ret
  exact ⟨rfl, rfl⟩
theorem within_no (n lo hi : Int) (w : World) (h : n < lo ∨ hi < n) :
    Calls Tryd.prog 22 #[.int .i64 n, .int .i64 lo, .int .i64 hi] w fun e w' => e = .returned (.bool false) ∧ w = w' := by
  by_cases h1 : lo ≤ n
  · have h2 : decide (n ≤ hi) = false := by simp; omega
    clear h
    go_enter Tryd.func22, Tryd.ntmps22
    go_wp2
    go_ret
    exact ⟨rfl, rfl⟩
  · clear h
    go_enter Tryd.func22, Tryd.ntmps22
    go_wp2
    go_ret
    exact ⟨rfl, rfl⟩

set_option maxHeartbeats 400000 in
theorem error_any (i : PM.Ins) (w : World) :
    Calls Tryd.prog 7 #[.agg i.cells] w fun e w' => e = .returned (.int .i64 (if i.fits then 0 else 3)) ∧ Below w.heap.size w w' := by
  obtain ⟨op, a, b, c, m⟩ := i
  unfold PM.Ins.cells
  simp only
  by_cases h0 : PM.Byt op
  · by_cases h1 : PM.Byt a
    · by_cases h2 : PM.Byt b
      · by_cases h3 : PM.Byt c
        · by_cases h4 : -2147483648 ≤ m ∧ m ≤ 2147483647
          · rw [if_pos (show PM.Ins.fits ⟨op, a, b, c, m⟩ from ⟨h0, h1, h2, h3, h4⟩)]
            unfold PM.Byt at h0 h1 h2 h3
            go_enter Tryd.func7, Tryd.ntmps7
            go_wp2_with (go_at_call 22; (first | refine (within_yes _ _ _ _ (by omega) (by omega)).mono ?_ | refine (within_no _ _ _ _ (by omega)).mono ?_); rintro e w' ⟨rfl, rfl⟩)
            go_ret
            exact ⟨rfl, (Below.refl _ _).alloc (Nat.le_refl _) _⟩
          · rw [if_neg (show ¬ PM.Ins.fits ⟨op, a, b, c, m⟩ from fun h => h4 h.2.2.2.2)]
            unfold PM.Byt at h0 h1 h2 h3
            go_enter Tryd.func7, Tryd.ntmps7
            go_wp2_with (go_at_call 22; (first | refine (within_yes _ _ _ _ (by omega) (by omega)).mono ?_ | refine (within_no _ _ _ _ (by omega)).mono ?_); rintro e w' ⟨rfl, rfl⟩)
            go_ret
            exact ⟨rfl, (Below.refl _ _).alloc (Nat.le_refl _) _⟩
        · rw [if_neg (show ¬ PM.Ins.fits ⟨op, a, b, c, m⟩ from fun h => h3 h.2.2.2.1)]
          unfold PM.Byt at h0 h1 h2 h3
          go_enter Tryd.func7, Tryd.ntmps7
          go_wp2_with (go_at_call 22; (first | refine (within_yes _ _ _ _ (by omega) (by omega)).mono ?_ | refine (within_no _ _ _ _ (by omega)).mono ?_); rintro e w' ⟨rfl, rfl⟩)
          go_ret
          exact ⟨rfl, (Below.refl _ _).alloc (Nat.le_refl _) _⟩
      · rw [if_neg (show ¬ PM.Ins.fits ⟨op, a, b, c, m⟩ from fun h => h2 h.2.2.1)]
        unfold PM.Byt at h0 h1 h2
        go_enter Tryd.func7, Tryd.ntmps7
        go_wp2_with (go_at_call 22; (first | refine (within_yes _ _ _ _ (by omega) (by omega)).mono ?_ | refine (within_no _ _ _ _ (by omega)).mono ?_); rintro e w' ⟨rfl, rfl⟩)
        go_ret
        exact ⟨rfl, (Below.refl _ _).alloc (Nat.le_refl _) _⟩
    · rw [if_neg (show ¬ PM.Ins.fits ⟨op, a, b, c, m⟩ from fun h => h1 h.2.1)]
      unfold PM.Byt at h0 h1
      go_enter Tryd.func7, Tryd.ntmps7
      go_wp2_with (go_at_call 22; (first | refine (within_yes _ _ _ _ (by omega) (by omega)).mono ?_ | refine (within_no _ _ _ _ (by omega)).mono ?_); rintro e w' ⟨rfl, rfl⟩)
      go_ret
      exact ⟨rfl, (Below.refl _ _).alloc (Nat.le_refl _) _⟩
  · rw [if_neg (show ¬ PM.Ins.fits ⟨op, a, b, c, m⟩ from fun h => h0 h.1)]
    unfold PM.Byt at h0
    go_enter Tryd.func7, Tryd.ntmps7
    go_wp2_with (go_at_call 22; (first | refine (within_yes _ _ _ _ (by omega) (by omega)).mono ?_ | refine (within_no _ _ _ _ (by omega)).mono ?_); rintro e w' ⟨rfl, rfl⟩)
    go_ret
    exact ⟨rfl, (Below.refl _ _).alloc (Nat.le_refl _) _⟩
end Go.Proofs.YtklobjfhjlkgfaaDoor.PW
/- Plain: which instructions are bad, what is asked, what comes behind. -/
namespace Go.Proofs.YtklobjfhjlkgfaaDoor.PM
open Go.RowKit
set_option linter.unusedVariables false
set_option maxRecDepth 100000

def areRegs (l : List Int) : Bool := l.all fun x => decide (0 ≤ x ∧ x < 8)
def isSize (n : Int) : Bool := decide (n = 1 ∨ n = 2 ∨ n = 4 ∨ n = 8)
/-- F2: an instruction whose parts are bytes is bad -/
def Ins.bad (i : Ins) : Bool :=
  if i.op = 12 then false
  else if i.op = 16 then !(decide (1 ≤ i.m ∧ i.m ≤ 6))
  else if i.op = 1 ∨ i.op = 11 ∨ i.op = 15 then decide (8 ≤ i.a)
  else if 2 ≤ i.op ∧ i.op ≤ 7 then decide (8 ≤ i.a ∨ 8 ≤ i.b ∨ 8 ≤ i.c)
  else if i.op = 8 ∨ i.op = 13 ∨ i.op = 14 then decide (8 ≤ i.a ∨ 8 ≤ i.b)
  else if i.op = 9 ∨ i.op = 10 then decide (8 ≤ i.a ∨ 8 ≤ i.b) || !(isSize i.c)
  else true
theorem regs1 (a : Int) (ha : Byt a) : (!areRegs [a]) = decide (8 ≤ a) := by
  unfold Byt at ha
  simp only [areRegs, List.all_cons, List.all_nil, Bool.and_true]
  by_cases h : 8 ≤ a <;> simp [h] <;> omega
theorem regs2 (a b : Int) (ha : Byt a) (hb : Byt b) : (!areRegs [a, b]) = decide (8 ≤ a ∨ 8 ≤ b) := by
  unfold Byt at ha hb
  simp only [areRegs, List.all_cons, List.all_nil, Bool.and_true]
  by_cases h : 8 ≤ a <;> by_cases g : 8 ≤ b <;> simp [h, g] <;> omega
theorem regs3 (a b c : Int) (ha : Byt a) (hb : Byt b) (hc : Byt c) : (!areRegs [a, b, c]) = decide (8 ≤ a ∨ 8 ≤ b ∨ 8 ≤ c) := by
  unfold Byt at ha hb hc
  simp only [areRegs, List.all_cons, List.all_nil, Bool.and_true]
  by_cases h : 8 ≤ a <;> by_cases g : 8 ≤ b <;> by_cases k : 8 ≤ c <;> simp [h, g, k] <;> omega
theorem areRegs_no (l : List Int) (k : Nat) (x : Int) (h : l[k]? = some x) (hx : ¬ (0 ≤ x ∧ x < 8)) : areRegs l = false := by
  unfold areRegs
  rw [List.all_eq_false]
  exact ⟨x, List.mem_of_getElem? h, by simpa using hx⟩
theorem areRegs_yes (l : List Int) (h : ∀ (k : Nat) (x : Int), l[k]? = some x → 0 ≤ x ∧ x < 8) : areRegs l = true := by
  unfold areRegs
  rw [List.all_eq_true]
  intro x hx
  obtain ⟨k, hk⟩ := List.getElem?_of_mem hx
  simpa using h k x hk

structure Pr where
  r : Nat → Int
  pc : Int
  st : Int
  cd : Int
  fk : Int
  fa : Int
def Pr.row (p : Pr) : Array Value := #[.int .i64 (p.r 0), .int .i64 (p.r 1), .int .i64 (p.r 2), .int .i64 (p.r 3), .int .i64 (p.r 4), .int .i64 (p.r 5), .int .i64 (p.r 6), .int .i64 (p.r 7), .int .i64 p.pc, .int .i64 p.st, .int .i64 p.cd, .int .i64 p.fk, .int .i64 p.fa]
def Pr.val (p : Pr) : Value := .agg p.row
def Pr.set (p : Pr) (j : Nat) (v : Int) : Pr := { p with r := fun k => if k = j then v else p.r k }
theorem row_set (p : Pr) (j : Nat) (v : Int) (h : j < 8) : p.row.setIfInBounds j (.int .i64 v) = (p.set j v).row := by
  match j, h with
  | 0, _ => rfl
  | 1, _ => rfl
  | 2, _ => rfl
  | 3, _ => rfl
  | 4, _ => rfl
  | 5, _ => rfl
  | 6, _ => rfl
  | 7, _ => rfl
theorem row_get (p : Pr) (j : Nat) (h : j < 8) : p.row[j]? = some (.int .i64 (p.r j)) := by
  match j, h with
  | 0, _ => rfl
  | 1, _ => rfl
  | 2, _ => rfl
  | 3, _ => rfl
  | 4, _ => rfl
  | 5, _ => rfl
  | 6, _ => rfl
  | 7, _ => rfl
theorem row_pc (p : Pr) (v : Int) : p.row.setIfInBounds 8 (.int .i64 v) = ({ p with pc := v } : Pr).row := rfl
theorem row_st (p : Pr) (v : Int) : p.row.setIfInBounds 9 (.int .i64 v) = ({ p with st := v } : Pr).row := rfl
theorem row_cd (p : Pr) (v : Int) : p.row.setIfInBounds 10 (.int .i64 v) = ({ p with cd := v } : Pr).row := rfl

theorem row_size (p : Pr) : p.row.size = 13 := rfl
theorem u64_and63 (n : Int) : bits .and .u64 (IntKind.u64.wrap n) 63 = n % 64 := by
  have h63 : (BitVec.ofInt 64 63).toNat = 2 ^ 6 - 1 := by decide
  have key : (BitVec.ofInt 64 (IntKind.u64.wrap n) &&& BitVec.ofInt 64 63).toNat = ((IntKind.u64.wrap n) % ((2 ^ 64 : Nat) : Int)).toNat % 2 ^ 6 := by
    rw [BitVec.toNat_and, BitVec.toNat_ofInt, h63, Nat.and_two_pow_sub_one_eq_mod]
  show IntKind.u64.wrap ((BitVec.ofInt 64 (IntKind.u64.wrap n) &&& BitVec.ofInt 64 63).toNat : Nat) = n % 64
  rw [key, IntKind.wrap_u64, IntKind.wrap_u64]
  omega
theorem i64_and63 (n : Int) : bits .and .i64 n 63 = n % 64 := by
  have h63 : (BitVec.ofInt 64 63).toNat = 2 ^ 6 - 1 := by decide
  have key : (BitVec.ofInt 64 n &&& BitVec.ofInt 64 63).toNat = (n % ((2 ^ 64 : Nat) : Int)).toNat % 2 ^ 6 := by
    rw [BitVec.toNat_and, BitVec.toNat_ofInt, h63, Nat.and_two_pow_sub_one_eq_mod]
  show IntKind.i64.wrap ((BitVec.ofInt 64 n &&& BitVec.ofInt 64 63).toNat : Nat) = n % 64
  rw [key, IntKind.wrap_i64]
  omega
/-- F2: of two registers -/
def rk (op b c : Int) : Int :=
  if op = 2 then wrap64 (b + c) else if op = 3 then wrap64 (b - c) else if op = 4 then wrap64 (b * c) else if op = 5 then bits .and .i64 b c else if op = 6 then bits .xor .i64 b c
  else wrap64 (IntKind.u64.wrap b / 2 ^ min (c % 64).toNat 64)
/-- F2, F3: the process behind an instruction that is not bad -/
def doneN (p : Pr) (i : Ins) (v : Int) : Pr :=
  let nx : Pr := { p with pc := wrap64 (p.pc + 8) }
  let to : Int := wrap64 (p.pc + i.m)
  if i.op = 1 then nx.set i.a.toNat i.m
  else if 2 ≤ i.op ∧ i.op ≤ 7 then nx.set i.a.toNat (rk i.op (p.r i.b.toNat) (p.r i.c.toNat))
  else if i.op = 8 then nx.set i.a.toNat (wrap64 (p.r i.b.toNat + i.m))
  else if i.op = 9 then nx.set i.a.toNat v
  else if i.op = 10 then nx
  else if i.op = 11 then nx.set i.a.toNat to
  else if i.op = 12 then { p with pc := to }
  else if i.op = 13 then (if p.r i.a.toNat = p.r i.b.toNat then { p with pc := to } else nx)
  else if i.op = 14 then (if p.r i.a.toNat < p.r i.b.toNat then { p with pc := to } else nx)
  else if i.op = 15 then { p with pc := p.r i.a.toNat }
  else if i.m = 6 then { nx with st := 2, cd := p.r 0 }
  else if i.m = 1 then nx
  else nx.set 0 v
/-- F3: what is asked for -/
def askN (p : Pr) (i : Ins) : Array Value :=
  if i.bad then #[.int .i64 4, .int .i64 0, .int .i64 0, .int .i64 0, .int .i64 0]
  else if i.op = 9 then #[.int .i64 1, .int .i64 (wrap64 (p.r i.b.toNat + i.m)), .int .i64 i.c, .int .i64 0, .int .i64 0]
  else if i.op = 10 then #[.int .i64 2, .int .i64 (wrap64 (p.r i.b.toNat + i.m)), .int .i64 i.c, .int .i64 (p.r i.a.toNat), .int .i64 0]
  else if i.op = 16 then #[.int .i64 3, .int .i64 0, .int .i64 0, .int .i64 0, .int .i64 i.m]
  else #[.int .i64 0, .int .i64 0, .int .i64 0, .int .i64 0, .int .i64 0]
end Go.Proofs.YtklobjfhjlkgfaaDoor.PM
