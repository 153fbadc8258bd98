import Derived.Test.YtklobjfhjlkgfaaDoorGS00
import Derived.Test.YtklobjfhjlkgfaaDoorGS01
import Derived.Lib.Hide
import Derived.WalkSpells
import Derived.Deep.RegionHeld3
namespace Go.Proofs.YtklobjfhjlkgfaaDoor.PW
open Go.RowKit
set_option linter.unusedVariables false
set_option maxRecDepth 100000

theorem hideC {p : Prop} (h : p) : Hid p := h

set_option maxHeartbeats 400000 in
theorem decode_no (s : ByteArray) (w : World) (hs : s.size ≤ maxLen) (h : s.size ≠ 8) :
    Calls Tryd.prog 33 #[.string s] w fun e w' => e = .returned (.tuple #[.agg (PM.Ins.cells ⟨0, 0, 0, 0, 0⟩), .int .i64 3]) ∧ Below w.heap.size w w' := by
  unfold maxLen at hs
  have h' : decide ((s.size : Int) = 8) = false := by simp; omega
  go_enter Tryd.func33, Tryd.ntmps33
  go_wp2
  refine bodyPost_ret (v := .tuple #[.agg (PM.Ins.cells ⟨0, 0, 0, 0, 0⟩), .int .i64 3]) (by simp [results, Tryd.results33, go_sem, PM.Ins.cells]) rfl ?_
  exact ⟨rfl, (Below.refl _ _).alloc (Nat.le_refl _) _⟩

set_option maxHeartbeats 400000 in
theorem decode_yes (s : ByteArray) (w : World) (h : s.size = 8) :
    Calls Tryd.prog 33 #[.string s] w fun e w' => e = .returned (.tuple #[.agg (PM.Ins.cells (PM.ins s)), .int .i64 0]) ∧ Below w.heap.size w w' := by
  have hG : ∀ V, Calls Tryd.prog 55 #[.string (s.extract 4 8)] V fun e w' => e = .returned (.tuple #[.int .i64 (wrap64 (Lib.leNat (s.data.toList.drop 4))), .int .i64 0]) ∧ V = w' := fun V => by
    have h1 : (s.extract 4 8).size = 4 := by simp; omega
    have h2 := CW.get_yes (s.extract 4 8) V (by omega) (by omega)
    rw [PM.extract_data s h] at h2
    exact h2
  have h4 := PM.drop_lt s h
  have hv : PM.Ins.cells (PM.ins s) = #[.int .i64 (PM.at_ s 0), .int .i64 (PM.at_ s 1), .int .i64 (PM.at_ s 2), .int .i64 (PM.at_ s 3), .int .i64 (PM.sign32 ((Lib.leNat (s.data.toList.drop 4) : Nat) : Int))] := rfl
  have hw32 := PM.wrap32 ((Lib.leNat (s.data.toList.drop 4) : Nat) : Int) (by omega) (by omega)
  have hsr := PM.sign_range ((Lib.leNat (s.data.toList.drop 4) : Nat) : Int) (by omega) (by omega)
  rw [hv]
  have he : wrap64 ((Lib.leNat (s.data.toList.drop 4) : Nat) : Int) = ((Lib.leNat (s.data.toList.drop 4) : Nat) : Int) := by unfold wrap64; omega
  rw [he] at hG
  obtain ⟨L, hL⟩ : ∃ L : Int, L = ((Lib.leNat (s.data.toList.drop 4) : Nat) : Int) := ⟨_, rfl⟩
  rw [← hL] at hG hw32 hsr
  rw [← hL]
  obtain ⟨R, hR⟩ : ∃ R : Int, R = PM.sign32 L := ⟨_, rfl⟩
  rw [← hR] at hw32 hsr
  rw [← hR]
  have HG := hideC hG
  have g0 := PM.get_at s 0 (by omega)
  have g1 := PM.get_at s 1 (by omega)
  have g2 := PM.get_at s 2 (by omega)
  have g3 := PM.get_at s 3 (by omega)
  have hr : IntKind.i64.wrap R = R := IntWalk.i64_in _ (by omega)
  have u0 := PM.at_wrap s 0
  have u1 := PM.at_wrap s 1
  have u2 := PM.at_wrap s 2
  have u3 := PM.at_wrap s 3
  clear hG hL hR hv he h4
  go_enter Tryd.func33, Tryd.ntmps33
  go_wp2_with fail
  refine (HG.out _).mono ?_
  rintro e w1 ⟨rfl, rfl⟩
  go_wp2_with fail
  go_region
  go_wp2
  refine bodyPost_ret (v := .tuple #[.agg #[.int .i64 (PM.at_ s 0), .int .i64 (PM.at_ s 1), .int .i64 (PM.at_ s 2), .int .i64 (PM.at_ s 3), .int .i64 R], .int .i64 0]) (by simp [results, Tryd.results33, go_sem]) rfl ?_
  exact ⟨rfl, ((Below.refl _ _).alloc (Nat.le_refl _) _).drew⟩

set_option maxHeartbeats 400000 in
theorem from_any (s : ByteArray) (w : World) (h : s.size = 8) :
    Calls Tryd.prog 35 #[.string s] w fun e w' => e = .returned (.agg (PM.Ins.cells (PM.ins s))) ∧ Below w.heap.size w w' := by
  have hG : ∀ V, Calls Tryd.prog 57 #[.string (s.extract 4 8)] V fun e w' => e = .returned (.int .i64 (wrap64 (Lib.leNat (s.data.toList.drop 4)))) ∧ V = w' := fun V => by
    have h1 : (s.extract 4 8).size = 4 := by simp; omega
    have h2 := CW.number_any (s.extract 4 8) V (by omega) (by omega)
    rw [PM.extract_data s h] at h2
    exact h2
  have h4 := PM.drop_lt s h
  have hv : PM.Ins.cells (PM.ins s) = #[.int .i64 (PM.at_ s 0), .int .i64 (PM.at_ s 1), .int .i64 (PM.at_ s 2), .int .i64 (PM.at_ s 3), .int .i64 (PM.sign32 ((Lib.leNat (s.data.toList.drop 4) : Nat) : Int))] := rfl
  rw [hv]
  have he : wrap64 ((Lib.leNat (s.data.toList.drop 4) : Nat) : Int) = ((Lib.leNat (s.data.toList.drop 4) : Nat) : Int) := by unfold wrap64; omega
  rw [he] at hG
  have hl0 : (0 : Int) ≤ ((Lib.leNat (s.data.toList.drop 4) : Nat) : Int) := by omega
  have hl1 : ((Lib.leNat (s.data.toList.drop 4) : Nat) : Int) < 4294967296 := by omega
  obtain ⟨L, hL⟩ : ∃ L : Int, L = ((Lib.leNat (s.data.toList.drop 4) : Nat) : Int) := ⟨_, rfl⟩
  rw [← hL] at hG hl0 hl1
  rw [← hL]
  have HG := hideC hG
  have g0 := PM.get_at s 0 (by omega)
  have g1 := PM.get_at s 1 (by omega)
  have g2 := PM.get_at s 2 (by omega)
  have g3 := PM.get_at s 3 (by omega)
  have u0 := PM.at_wrap s 0
  have u1 := PM.at_wrap s 1
  have u2 := PM.at_wrap s 2
  have u3 := PM.at_wrap s 3
  clear hG hL hv he h4
  by_cases hc : 2147483648 ≤ L
  · have hsg : Hid (PM.sign32 L = L - 4294967296) := PM.sign_hi L hc
    rw [hsg.out]
    go_enter Tryd.func35, Tryd.ntmps35
    go_wp2_with fail
    refine (HG.out _).mono ?_
    rintro e w1 ⟨rfl, rfl⟩
    go_wp2_with fail
    go_region
    go_wp2
    refine bodyPost_ret (v := .agg #[.int .i64 (PM.at_ s 0), .int .i64 (PM.at_ s 1), .int .i64 (PM.at_ s 2), .int .i64 (PM.at_ s 3), .int .i64 (L - 4294967296)]) (by simp [results, Tryd.results35, go_sem]) rfl ?_
    exact ⟨rfl, ((Below.refl _ _).alloc (Nat.le_refl _) _).drew⟩
  · have hsg : Hid (PM.sign32 L = L) := PM.sign_lo L hc
    rw [hsg.out]
    go_enter Tryd.func35, Tryd.ntmps35
    go_wp2_with fail
    refine (HG.out _).mono ?_
    rintro e w1 ⟨rfl, rfl⟩
    go_wp2_with fail
    go_region
    go_wp2
    refine bodyPost_ret (v := .agg #[.int .i64 (PM.at_ s 0), .int .i64 (PM.at_ s 1), .int .i64 (PM.at_ s 2), .int .i64 (PM.at_ s 3), .int .i64 L]) (by simp [results, Tryd.results35, go_sem]) rfl ?_
    exact ⟨rfl, ((Below.refl _ _).alloc (Nat.le_refl _) _).drew⟩
end Go.Proofs.YtklobjfhjlkgfaaDoor.PW
namespace Go.Proofs.YtklobjfhjlkgfaaDoor.PW
open Go.RowKit
set_option linter.unusedVariables false
set_option maxRecDepth 100000

theorem within_yes (n lo hi : Int) (w : World) (h1 : lo ≤ n) (h2 : n ≤ hi) :
    Calls Tryd.prog 22 #[.int .i64 n, .int .i64 lo, .int .i64 hi] w fun e w' => e = .returned (.bool true) ∧ w = w' := by
  go_enter Tryd.func22, Tryd.ntmps22
  go_wp2
  go_ret
  exact ⟨rfl, rfl⟩
theorem within_no (n lo hi : Int) (w : World) (h : n < lo ∨ hi < n) :
    Calls Tryd.prog 22 #[.int .i64 n, .int .i64 lo, .int .i64 hi] w fun e w' => e = .returned (.bool false) ∧ w = w' := by
  by_cases h1 : lo ≤ n
  · have h2 : decide (n ≤ hi) = false := by simp; omega
    clear h
    go_enter Tryd.func22, Tryd.ntmps22
    go_wp2
    go_ret
    exact ⟨rfl, rfl⟩
  · clear h
    go_enter Tryd.func22, Tryd.ntmps22
    go_wp2
    go_ret
    exact ⟨rfl, rfl⟩

set_option maxHeartbeats 400000 in
theorem error_any (i : PM.Ins) (w : World) :
    Calls Tryd.prog 7 #[.agg i.cells] w fun e w' => e = .returned (.int .i64 (if i.fits then 0 else 3)) ∧ Below w.heap.size w w' := by
  obtain ⟨op, a, b, c, m⟩ := i
  unfold PM.Ins.cells
  simp only
  by_cases h0 : PM.Byt op
  · by_cases h1 : PM.Byt a
    · by_cases h2 : PM.Byt b
      · by_cases h3 : PM.Byt c
        · by_cases h4 : -2147483648 ≤ m ∧ m ≤ 2147483647
          · rw [if_pos (show PM.Ins.fits ⟨op, a, b, c, m⟩ from ⟨h0, h1, h2, h3, h4⟩)]
            unfold PM.Byt at h0 h1 h2 h3
            go_enter Tryd.func7, Tryd.ntmps7
            go_wp2_with (go_at_call 22; (first | refine (within_yes _ _ _ _ (by omega) (by omega)).mono ?_ | refine (within_no _ _ _ _ (by omega)).mono ?_); rintro e w' ⟨rfl, rfl⟩)
            go_ret
            exact ⟨rfl, (Below.refl _ _).alloc (Nat.le_refl _) _⟩
          · rw [if_neg (show ¬ PM.Ins.fits ⟨op, a, b, c, m⟩ from fun h => h4 h.2.2.2.2)]
            unfold PM.Byt at h0 h1 h2 h3
            go_enter Tryd.func7, Tryd.ntmps7
            go_wp2_with (go_at_call 22; (first | refine (within_yes _ _ _ _ (by omega) (by omega)).mono ?_ | refine (within_no _ _ _ _ (by omega)).mono ?_); rintro e w' ⟨rfl, rfl⟩)
            go_ret
            exact ⟨rfl, (Below.refl _ _).alloc (Nat.le_refl _) _⟩
        · rw [if_neg (show ¬ PM.Ins.fits ⟨op, a, b, c, m⟩ from fun h => h3 h.2.2.2.1)]
          unfold PM.Byt at h0 h1 h2 h3
          go_enter Tryd.func7, Tryd.ntmps7
          go_wp2_with (go_at_call 22; (first | refine (within_yes _ _ _ _ (by omega) (by omega)).mono ?_ | refine (within_no _ _ _ _ (by omega)).mono ?_); rintro e w' ⟨rfl, rfl⟩)
          go_ret
          exact ⟨rfl, (Below.refl _ _).alloc (Nat.le_refl _) _⟩
      · rw [if_neg (show ¬ PM.Ins.fits ⟨op, a, b, c, m⟩ from fun h => h2 h.2.2.1)]
        unfold PM.Byt at h0 h1 h2
        go_enter Tryd.func7, Tryd.ntmps7
        go_wp2_with (go_at_call 22; (first | refine (within_yes _ _ _ _ (by omega) (by omega)).mono ?_ | refine (within_no _ _ _ _ (by omega)).mono ?_); rintro e w' ⟨rfl, rfl⟩)
        go_ret
        exact ⟨rfl, (Below.refl _ _).alloc (Nat.le_refl _) _⟩
    · rw [if_neg (show ¬ PM.Ins.fits ⟨op, a, b, c, m⟩ from fun h => h1 h.2.1)]
      unfold PM.Byt at h0 h1
      go_enter Tryd.func7, Tryd.ntmps7
      go_wp2_with (go_at_call 22; (first | refine (within_yes _ _ _ _ (by omega) (by omega)).mono ?_ | refine (within_no _ _ _ _ (by omega)).mono ?_); rintro e w' ⟨rfl, rfl⟩)
      go_ret
      exact ⟨rfl, (Below.refl _ _).alloc (Nat.le_refl _) _⟩
  · rw [if_neg (show ¬ PM.Ins.fits ⟨op, a, b, c, m⟩ from fun h => h0 h.1)]
    unfold PM.Byt at h0
    go_enter Tryd.func7, Tryd.ntmps7
    go_wp2_with (go_at_call 22; (first | refine (within_yes _ _ _ _ (by omega) (by omega)).mono ?_ | refine (within_no _ _ _ _ (by omega)).mono ?_); rintro e w' ⟨rfl, rfl⟩)
    go_ret
    exact ⟨rfl, (Below.refl _ _).alloc (Nat.le_refl _) _⟩
end Go.Proofs.YtklobjfhjlkgfaaDoor.PW
/- Plain: which instructions are bad, what is asked, what comes behind. -/
namespace Go.Proofs.YtklobjfhjlkgfaaDoor.PM
open Go.RowKit
set_option linter.unusedVariables false
set_option maxRecDepth 100000

def areRegs (l : List Int) : Bool := l.all fun x => decide (0 ≤ x ∧ x < 8)
def isSize (n : Int) : Bool := decide (n = 1 ∨ n = 2 ∨ n = 4 ∨ n = 8)
/-- F2: an instruction whose parts are bytes is bad -/
def Ins.bad (i : Ins) : Bool :=
  if i.op = 12 then false
  else if i.op = 16 then !(decide (1 ≤ i.m ∧ i.m ≤ 6))
  else if i.op = 1 ∨ i.op = 11 ∨ i.op = 15 then decide (8 ≤ i.a)
  else if 2 ≤ i.op ∧ i.op ≤ 7 then decide (8 ≤ i.a ∨ 8 ≤ i.b ∨ 8 ≤ i.c)
  else if i.op = 8 ∨ i.op = 13 ∨ i.op = 14 then decide (8 ≤ i.a ∨ 8 ≤ i.b)
  else if i.op = 9 ∨ i.op = 10 then decide (8 ≤ i.a ∨ 8 ≤ i.b) || !(isSize i.c)
  else true
theorem regs1 (a : Int) (ha : Byt a) : (!areRegs [a]) = decide (8 ≤ a) := by
  unfold Byt at ha
  simp only [areRegs, List.all_cons, List.all_nil, Bool.and_true]
  by_cases h : 8 ≤ a <;> simp [h] <;> omega
theorem regs2 (a b : Int) (ha : Byt a) (hb : Byt b) : (!areRegs [a, b]) = decide (8 ≤ a ∨ 8 ≤ b) := by
  unfold Byt at ha hb
  simp only [areRegs, List.all_cons, List.all_nil, Bool.and_true]
  by_cases h : 8 ≤ a <;> by_cases g : 8 ≤ b <;> simp [h, g] <;> omega
theorem regs3 (a b c : Int) (ha : Byt a) (hb : Byt b) (hc : Byt c) : (!areRegs [a, b, c]) = decide (8 ≤ a ∨ 8 ≤ b ∨ 8 ≤ c) := by
  unfold Byt at ha hb hc
  simp only [areRegs, List.all_cons, List.all_nil, Bool.and_true]
  by_cases h : 8 ≤ a <;> by_cases g : 8 ≤ b <;> by_cases k : 8 ≤ c <;> simp [h, g, k] <;> omega
theorem areRegs_no (l : List Int) (k : Nat) (x : Int) (h : l[k]? = some x) (hx : ¬ (0 ≤ x ∧ x < 8)) : areRegs l = false := by
  unfold areRegs
  rw [List.all_eq_false]
  exact ⟨x, List.mem_of_getElem? h, by simpa using hx⟩
theorem areRegs_yes (l : List Int) (h : ∀ (k : Nat) (x : Int), l[k]? = some x → 0 ≤ x ∧ x < 8) : areRegs l = true := by
  unfold areRegs
  rw [List.all_eq_true]
  intro x hx
  obtain ⟨k, hk⟩ := List.getElem?_of_mem hx
  simpa using h k x hk

structure Pr where
  r : Nat → Int
  pc : Int
  st : Int
  cd : Int
  fk : Int
  fa : Int
def Pr.row (p : Pr) : Array Value := #[.int .i64 (p.r 0), .int .i64 (p.r 1), .int .i64 (p.r 2), .int .i64 (p.r 3), .int .i64 (p.r 4), .int .i64 (p.r 5), .int .i64 (p.r 6), .int .i64 (p.r 7), .int .i64 p.pc, .int .i64 p.st, .int .i64 p.cd, .int .i64 p.fk, .int .i64 p.fa]
def Pr.val (p : Pr) : Value := .agg p.row
def Pr.set (p : Pr) (j : Nat) (v : Int) : Pr := { p with r := fun k => if k = j then v else p.r k }
theorem row_set (p : Pr) (j : Nat) (v : Int) (h : j < 8) : p.row.setIfInBounds j (.int .i64 v) = (p.set j v).row := by
  match j, h with
  | 0, _ => rfl
  | 1, _ => rfl
  | 2, _ => rfl
  | 3, _ => rfl
  | 4, _ => rfl
  | 5, _ => rfl
  | 6, _ => rfl
  | 7, _ => rfl
theorem row_get (p : Pr) (j : Nat) (h : j < 8) : p.row[j]? = some (.int .i64 (p.r j)) := by
  match j, h with
  | 0, _ => rfl
  | 1, _ => rfl
  | 2, _ => rfl
  | 3, _ => rfl
  | 4, _ => rfl
  | 5, _ => rfl
  | 6, _ => rfl
  | 7, _ => rfl
theorem row_pc (p : Pr) (v : Int) : p.row.setIfInBounds 8 (.int .i64 v) = ({ p with pc := v } : Pr).row := rfl
theorem row_st (p : Pr) (v : Int) : p.row.setIfInBounds 9 (.int .i64 v) = ({ p with st := v } : Pr).row := rfl
theorem row_cd (p : Pr) (v : Int) : p.row.setIfInBounds 10 (.int .i64 v) = ({ p with cd := v } : Pr).row := rfl

theorem row_size (p : Pr) : p.row.size = 13 := rfl
theorem u64_and63 (n : Int) : bits .and .u64 (IntKind.u64.wrap n) 63 = n % 64 := by
  have h63 : (BitVec.ofInt 64 63).toNat = 2 ^ 6 - 1 := by decide
  have key : (BitVec.ofInt 64 (IntKind.u64.wrap n) &&& BitVec.ofInt 64 63).toNat = ((IntKind.u64.wrap n) % ((2 ^ 64 : Nat) : Int)).toNat % 2 ^ 6 := by
    rw [BitVec.toNat_and, BitVec.toNat_ofInt, h63, Nat.and_two_pow_sub_one_eq_mod]
  show IntKind.u64.wrap ((BitVec.ofInt 64 (IntKind.u64.wrap n) &&& BitVec.ofInt 64 63).toNat : Nat) = n % 64
  rw [key, IntKind.wrap_u64, IntKind.wrap_u64]
  omega
theorem i64_and63 (n : Int) : bits .and .i64 n 63 = n % 64 := by
  have h63 : (BitVec.ofInt 64 63).toNat = 2 ^ 6 - 1 := by decide
  have key : (BitVec.ofInt 64 n &&& BitVec.ofInt 64 63).toNat = (n % ((2 ^ 64 : Nat) : Int)).toNat % 2 ^ 6 := by
    rw [BitVec.toNat_and, BitVec.toNat_ofInt, h63, Nat.and_two_pow_sub_one_eq_mod]
  show IntKind.i64.wrap ((BitVec.ofInt 64 n &&& BitVec.ofInt 64 63).toNat : Nat) = n % 64
  rw [key, IntKind.wrap_i64]
  omega
/-- F2: of two registers -/
def rk (op b c : Int) : Int :=
  if op = 2 then wrap64 (b + c) else if op = 3 then wrap64 (b - c) else if op = 4 then wrap64 (b * c) else if op = 5 then bits .and .i64 b c else if op = 6 then bits .xor .i64 b c
  else wrap64 (IntKind.u64.wrap b / 2 ^ min (c % 64).toNat 64)
/-- F2, F3: the process behind an instruction that is not bad -/
def doneN (p : Pr) (i : Ins) (v : Int) : Pr :=
  let nx : Pr := { p with pc := wrap64 (p.pc + 8) }
  let to : Int := wrap64 (p.pc + i.m)
  if i.op = 1 then nx.set i.a.toNat i.m
  else if 2 ≤ i.op ∧ i.op ≤ 7 then nx.set i.a.toNat (rk i.op (p.r i.b.toNat) (p.r i.c.toNat))
  else if i.op = 8 then nx.set i.a.toNat (wrap64 (p.r i.b.toNat + i.m))
  else if i.op = 9 then nx.set i.a.toNat v
  else if i.op = 10 then nx
  else if i.op = 11 then nx.set i.a.toNat to
  else if i.op = 12 then { p with pc := to }
  else if i.op = 13 then (if p.r i.a.toNat = p.r i.b.toNat then { p with pc := to } else nx)
  else if i.op = 14 then (if p.r i.a.toNat < p.r i.b.toNat then { p with pc := to } else nx)
  else if i.op = 15 then { p with pc := p.r i.a.toNat }
  else if i.m = 6 then { nx with st := 2, cd := p.r 0 }
  else if i.m = 1 then nx
  else nx.set 0 v
/-- F3: what is asked for -/
def askN (p : Pr) (i : Ins) : Array Value :=
  if i.bad then #[.int .i64 4, .int .i64 0, .int .i64 0, .int .i64 0, .int .i64 0]
  else if i.op = 9 then #[.int .i64 1, .int .i64 (wrap64 (p.r i.b.toNat + i.m)), .int .i64 i.c, .int .i64 0, .int .i64 0]
  else if i.op = 10 then #[.int .i64 2, .int .i64 (wrap64 (p.r i.b.toNat + i.m)), .int .i64 i.c, .int .i64 (p.r i.a.toNat), .int .i64 0]
  else if i.op = 16 then #[.int .i64 3, .int .i64 0, .int .i64 0, .int .i64 0, .int .i64 i.m]
  else #[.int .i64 0, .int .i64 0, .int .i64 0, .int .i64 0, .int .i64 0]
end Go.Proofs.YtklobjfhjlkgfaaDoor.PM
namespace Go.Proofs.YtklobjfhjlkgfaaDoor.PW
open Go.RowKit
set_option linter.unusedVariables false
set_option maxRecDepth 100000

def ints (l : List Int) : Array Value := (l.map fun x => Value.int .i64 x).toArray
theorem ints_get (l : List Int) (k : Nat) (h : k < l.length) : (ints l)[k]? = some (.int .i64 (l.getD k 0)) := by
  simp [ints, h]
set_option maxHeartbeats 400000 in
theorem areRegs_any (l : List Int) (b : Nat) (w : World) (hl : l.length ≤ 4) (hx : w.heap[b]? = some (.cells (ints l) 3 (0, 0))) :
    Calls Tryd.prog 67 #[.slice (some ⟨b, 0, none⟩) l.length l.length] w fun e w' => e = .returned (.bool (PM.areRegs l)) ∧ w = w' := by
  have HX := hideC hx
  have HN := hideC (PM.areRegs_no l)
  have HY := hideC (PM.areRegs_yes l)
  obtain ⟨R, hR⟩ : ∃ R, R = PM.areRegs l := ⟨_, rfl⟩
  rw [← hR] at HN HY
  rw [← hR]
  clear hR hx
  go_enter Tryd.func67, Tryd.ntmps67
  go_wp2
  go_loop [7] (fun i => ∃ k : Nat, k ≤ l.length ∧ i = .int .i64 k ∧ ∀ j, j < k → 0 ≤ l.getD j 0 ∧ l.getD j 0 < 8) (fun i => l.length - (intOf i).toNat)
  case atStart => exact ⟨0, by omega, rfl, fun j hj => absurd hj (by omega)⟩
  case round =>
    obtain ⟨k, hk, rfl, hj⟩ := hrel
    have HJ := hideC hj
    clear hj
    by_cases hlt : k < l.length
    · have hc := B.cell HX.out k (ints_get l k hlt)
      have HG := hideC (show l[k]? = some (l.getD k 0) from by simp [hlt])
      have HJ2 : Hid (0 ≤ l.getD k 0 ∧ l.getD k 0 < 8 → ∀ j, j < k + 1 → 0 ≤ l.getD j 0 ∧ l.getD j 0 < 8) := fun h j hjj => by
        rcases Nat.lt_or_ge j k with g | g
        · exact HJ.out j g
        · obtain rfl : j = k := by omega
          exact h
      obtain ⟨x, hx⟩ : ∃ x, x = l.getD k 0 := ⟨_, rfl⟩
      rw [← hx] at hc HG HJ2
      clear hx
      by_cases h0 : 0 ≤ x
      · by_cases h1 : x < 8
        · go_wp2
          go_round
          case rel => exact ⟨k + 1, by omega, by go_num, HJ2.out ⟨h0, h1⟩⟩
          case measure => simp [intOf]; omega
        · obtain rfl := HN.out k x HG.out (fun h => h1 h.2)
          go_wp2
          go_ret
          exact ⟨rfl, rfl⟩
      · obtain rfl := HN.out k x HG.out (fun h => h0 h.1)
        go_wp2
        go_ret
        exact ⟨rfl, rfl⟩
    · obtain rfl : k = l.length := by omega
      obtain rfl := HY.out (fun j x hx => by
        have hlt2 : j < l.length := (List.getElem?_eq_some_iff.1 hx).1
        have e : l.getD j 0 = x := by simp [hx]
        rw [← e]
        exact HJ.out j hlt2)
      go_wp2
      go_ret
      exact ⟨rfl, rfl⟩

theorem isSize_any (n : Int) (w : World) : Calls Tryd.prog 68 #[.int .i64 n] w fun e w' => e = .returned (.bool (PM.isSize n)) ∧ w = w' := by
  by_cases h1 : n = 1
  · subst h1
    go_enter Tryd.func68, Tryd.ntmps68
    go_wp2
    go_ret
    exact ⟨rfl, rfl⟩
  · by_cases h2 : n = 2
    · subst h2
      go_enter Tryd.func68, Tryd.ntmps68
      go_wp2
      go_ret
      exact ⟨rfl, rfl⟩
    · by_cases h3 : n = 4
      · subst h3
        go_enter Tryd.func68, Tryd.ntmps68
        go_wp2
        go_ret
        exact ⟨rfl, rfl⟩
      · rw [show PM.isSize n = decide (n = 8) from by unfold PM.isSize; simp [h1, h2, h3]]
        go_enter Tryd.func68, Tryd.ntmps68
        go_wp2
        go_ret
        have b1 : (n == 1) = false := by simpa using h1
        have b2 : (n == 2) = false := by simpa using h2
        have b3 : (n == 4) = false := by simpa using h3
        have b4 : (n == 8) = decide (n = 8) := by by_cases h : n = 8 <;> simp [h]
        exact ⟨by simp only [b1, b2, b3, b4, Bool.false_or]; rfl, rfl⟩
end Go.Proofs.YtklobjfhjlkgfaaDoor.PW
namespace Go.Proofs.YtklobjfhjlkgfaaDoor.PW
open Go.RowKit
set_option linter.unusedVariables false
set_option maxRecDepth 100000
set_option maxHeartbeats 400000 in
theorem isBad1 (a b c m : Int) (w : World) : Calls Tryd.prog 59 #[.agg #[.int .i64 1, .int .i64 a, .int .i64 b, .int .i64 c, .int .i64 m]] w fun e w' => e = .returned (.bool (!PM.areRegs [a])) ∧ Below w.heap.size w w' := by
  have HA : Hid (∀ V : World, Calls Tryd.prog 67 #[.slice (some ⟨w.heap.size + 1, 0, none⟩) 1 1] ((w.alloc (.cells #[.int .i64 1, .int .i64 a, .int .i64 b, .int .i64 c, .int .i64 m] 23)).alloc (.cells (ints [a]) 3)) fun e w' => e = .returned (.bool (PM.areRegs [a])) ∧ ((w.alloc (.cells #[.int .i64 1, .int .i64 a, .int .i64 b, .int .i64 c, .int .i64 m] 23)).alloc (.cells (ints [a]) 3)) = w') := fun V => areRegs_any [a] (w.heap.size + 1) _ (by simp) (by have e := B.new (w.alloc (.cells #[.int .i64 1, .int .i64 a, .int .i64 b, .int .i64 c, .int .i64 m] 23)) (ints [a]) 3; rw [World.size_alloc] at e; exact e)
  obtain ⟨R, hR⟩ : ∃ R, R = PM.areRegs [a] := ⟨_, rfl⟩
  rw [← hR] at HA
  rw [← hR]
  clear hR
  go_enter Tryd.func59, Tryd.ntmps59
  go_wp2_with fail
  refine (HA.out w).mono ?_
  rintro e w' ⟨rfl, rfl⟩
  go_wp2
  go_ret
  exact ⟨by simp, ((Below.refl _ _).alloc (Nat.le_refl _) _).alloc (by simp) _⟩
set_option maxHeartbeats 400000 in
theorem isBad2 (a b c m : Int) (w : World) : Calls Tryd.prog 59 #[.agg #[.int .i64 2, .int .i64 a, .int .i64 b, .int .i64 c, .int .i64 m]] w fun e w' => e = .returned (.bool (!PM.areRegs [a, b, c])) ∧ Below w.heap.size w w' := by
  have HA : Hid (∀ V : World, Calls Tryd.prog 67 #[.slice (some ⟨w.heap.size + 1, 0, none⟩) 3 3] ((w.alloc (.cells #[.int .i64 2, .int .i64 a, .int .i64 b, .int .i64 c, .int .i64 m] 23)).alloc (.cells (ints [a, b, c]) 3)) fun e w' => e = .returned (.bool (PM.areRegs [a, b, c])) ∧ ((w.alloc (.cells #[.int .i64 2, .int .i64 a, .int .i64 b, .int .i64 c, .int .i64 m] 23)).alloc (.cells (ints [a, b, c]) 3)) = w') := fun V => areRegs_any [a, b, c] (w.heap.size + 1) _ (by simp) (by have e := B.new (w.alloc (.cells #[.int .i64 2, .int .i64 a, .int .i64 b, .int .i64 c, .int .i64 m] 23)) (ints [a, b, c]) 3; rw [World.size_alloc] at e; exact e)
  obtain ⟨R, hR⟩ : ∃ R, R = PM.areRegs [a, b, c] := ⟨_, rfl⟩
  rw [← hR] at HA
  rw [← hR]
  clear hR
  go_enter Tryd.func59, Tryd.ntmps59
  go_wp2_with fail
  refine (HA.out w).mono ?_
  rintro e w' ⟨rfl, rfl⟩
  go_wp2
  go_ret
  exact ⟨by simp, ((Below.refl _ _).alloc (Nat.le_refl _) _).alloc (by simp) _⟩
set_option maxHeartbeats 400000 in
theorem isBad3 (a b c m : Int) (w : World) : Calls Tryd.prog 59 #[.agg #[.int .i64 3, .int .i64 a, .int .i64 b, .int .i64 c, .int .i64 m]] w fun e w' => e = .returned (.bool (!PM.areRegs [a, b, c])) ∧ Below w.heap.size w w' := by
  have HA : Hid (∀ V : World, Calls Tryd.prog 67 #[.slice (some ⟨w.heap.size + 1, 0, none⟩) 3 3] ((w.alloc (.cells #[.int .i64 3, .int .i64 a, .int .i64 b, .int .i64 c, .int .i64 m] 23)).alloc (.cells (ints [a, b, c]) 3)) fun e w' => e = .returned (.bool (PM.areRegs [a, b, c])) ∧ ((w.alloc (.cells #[.int .i64 3, .int .i64 a, .int .i64 b, .int .i64 c, .int .i64 m] 23)).alloc (.cells (ints [a, b, c]) 3)) = w') := fun V => areRegs_any [a, b, c] (w.heap.size + 1) _ (by simp) (by have e := B.new (w.alloc (.cells #[.int .i64 3, .int .i64 a, .int .i64 b, .int .i64 c, .int .i64 m] 23)) (ints [a, b, c]) 3; rw [World.size_alloc] at e; exact e)
  obtain ⟨R, hR⟩ : ∃ R, R = PM.areRegs [a, b, c] := ⟨_, rfl⟩
  rw [← hR] at HA
  rw [← hR]
  clear hR
  go_enter Tryd.func59, Tryd.ntmps59
  go_wp2_with fail
  refine (HA.out w).mono ?_
  rintro e w' ⟨rfl, rfl⟩
  go_wp2
  go_ret
  exact ⟨by simp, ((Below.refl _ _).alloc (Nat.le_refl _) _).alloc (by simp) _⟩
set_option maxHeartbeats 400000 in
theorem isBad4 (a b c m : Int) (w : World) : Calls Tryd.prog 59 #[.agg #[.int .i64 4, .int .i64 a, .int .i64 b, .int .i64 c, .int .i64 m]] w fun e w' => e = .returned (.bool (!PM.areRegs [a, b, c])) ∧ Below w.heap.size w w' := by
  have HA : Hid (∀ V : World, Calls Tryd.prog 67 #[.slice (some ⟨w.heap.size + 1, 0, none⟩) 3 3] ((w.alloc (.cells #[.int .i64 4, .int .i64 a, .int .i64 b, .int .i64 c, .int .i64 m] 23)).alloc (.cells (ints [a, b, c]) 3)) fun e w' => e = .returned (.bool (PM.areRegs [a, b, c])) ∧ ((w.alloc (.cells #[.int .i64 4, .int .i64 a, .int .i64 b, .int .i64 c, .int .i64 m] 23)).alloc (.cells (ints [a, b, c]) 3)) = w') := fun V => areRegs_any [a, b, c] (w.heap.size + 1) _ (by simp) (by have e := B.new (w.alloc (.cells #[.int .i64 4, .int .i64 a, .int .i64 b, .int .i64 c, .int .i64 m] 23)) (ints [a, b, c]) 3; rw [World.size_alloc] at e; exact e)
  obtain ⟨R, hR⟩ : ∃ R, R = PM.areRegs [a, b, c] := ⟨_, rfl⟩
  rw [← hR] at HA
  rw [← hR]
  clear hR
  go_enter Tryd.func59, Tryd.ntmps59
  go_wp2_with fail
  refine (HA.out w).mono ?_
  rintro e w' ⟨rfl, rfl⟩
  go_wp2
  go_ret
  exact ⟨by simp, ((Below.refl _ _).alloc (Nat.le_refl _) _).alloc (by simp) _⟩
set_option maxHeartbeats 400000 in
theorem isBad5 (a b c m : Int) (w : World) : Calls Tryd.prog 59 #[.agg #[.int .i64 5, .int .i64 a, .int .i64 b, .int .i64 c, .int .i64 m]] w fun e w' => e = .returned (.bool (!PM.areRegs [a, b, c])) ∧ Below w.heap.size w w' := by
  have HA : Hid (∀ V : World, Calls Tryd.prog 67 #[.slice (some ⟨w.heap.size + 1, 0, none⟩) 3 3] ((w.alloc (.cells #[.int .i64 5, .int .i64 a, .int .i64 b, .int .i64 c, .int .i64 m] 23)).alloc (.cells (ints [a, b, c]) 3)) fun e w' => e = .returned (.bool (PM.areRegs [a, b, c])) ∧ ((w.alloc (.cells #[.int .i64 5, .int .i64 a, .int .i64 b, .int .i64 c, .int .i64 m] 23)).alloc (.cells (ints [a, b, c]) 3)) = w') := fun V => areRegs_any [a, b, c] (w.heap.size + 1) _ (by simp) (by have e := B.new (w.alloc (.cells #[.int .i64 5, .int .i64 a, .int .i64 b, .int .i64 c, .int .i64 m] 23)) (ints [a, b, c]) 3; rw [World.size_alloc] at e; exact e)
  obtain ⟨R, hR⟩ : ∃ R, R = PM.areRegs [a, b, c] := ⟨_, rfl⟩
  rw [← hR] at HA
  rw [← hR]
  clear hR
  go_enter Tryd.func59, Tryd.ntmps59
  go_wp2_with fail
  refine (HA.out w).mono ?_
  rintro e w' ⟨rfl, rfl⟩
  go_wp2
  go_ret
  exact ⟨by simp, ((Below.refl _ _).alloc (Nat.le_refl _) _).alloc (by simp) _⟩
set_option maxHeartbeats 400000 in
theorem isBad6 (a b c m : Int) (w : World) : Calls Tryd.prog 59 #[.agg #[.int .i64 6, .int .i64 a, .int .i64 b, .int .i64 c, .int .i64 m]] w fun e w' => e = .returned (.bool (!PM.areRegs [a, b, c])) ∧ Below w.heap.size w w' := by
  have HA : Hid (∀ V : World, Calls Tryd.prog 67 #[.slice (some ⟨w.heap.size + 1, 0, none⟩) 3 3] ((w.alloc (.cells #[.int .i64 6, .int .i64 a, .int .i64 b, .int .i64 c, .int .i64 m] 23)).alloc (.cells (ints [a, b, c]) 3)) fun e w' => e = .returned (.bool (PM.areRegs [a, b, c])) ∧ ((w.alloc (.cells #[.int .i64 6, .int .i64 a, .int .i64 b, .int .i64 c, .int .i64 m] 23)).alloc (.cells (ints [a, b, c]) 3)) = w') := fun V => areRegs_any [a, b, c] (w.heap.size + 1) _ (by simp) (by have e := B.new (w.alloc (.cells #[.int .i64 6, .int .i64 a, .int .i64 b, .int .i64 c, .int .i64 m] 23)) (ints [a, b, c]) 3; rw [World.size_alloc] at e; exact e)
  obtain ⟨R, hR⟩ : ∃ R, R = PM.areRegs [a, b, c] := ⟨_, rfl⟩
  rw [← hR] at HA
  rw [← hR]
  clear hR
  go_enter Tryd.func59, Tryd.ntmps59
  go_wp2_with fail
  refine (HA.out w).mono ?_
  rintro e w' ⟨rfl, rfl⟩
  go_wp2
  go_ret
  exact ⟨by simp, ((Below.refl _ _).alloc (Nat.le_refl _) _).alloc (by simp) _⟩
set_option maxHeartbeats 400000 in
theorem isBad7 (a b c m : Int) (w : World) : Calls Tryd.prog 59 #[.agg #[.int .i64 7, .int .i64 a, .int .i64 b, .int .i64 c, .int .i64 m]] w fun e w' => e = .returned (.bool (!PM.areRegs [a, b, c])) ∧ Below w.heap.size w w' := by
  have HA : Hid (∀ V : World, Calls Tryd.prog 67 #[.slice (some ⟨w.heap.size + 1, 0, none⟩) 3 3] ((w.alloc (.cells #[.int .i64 7, .int .i64 a, .int .i64 b, .int .i64 c, .int .i64 m] 23)).alloc (.cells (ints [a, b, c]) 3)) fun e w' => e = .returned (.bool (PM.areRegs [a, b, c])) ∧ ((w.alloc (.cells #[.int .i64 7, .int .i64 a, .int .i64 b, .int .i64 c, .int .i64 m] 23)).alloc (.cells (ints [a, b, c]) 3)) = w') := fun V => areRegs_any [a, b, c] (w.heap.size + 1) _ (by simp) (by have e := B.new (w.alloc (.cells #[.int .i64 7, .int .i64 a, .int .i64 b, .int .i64 c, .int .i64 m] 23)) (ints [a, b, c]) 3; rw [World.size_alloc] at e; exact e)
  obtain ⟨R, hR⟩ : ∃ R, R = PM.areRegs [a, b, c] := ⟨_, rfl⟩
  rw [← hR] at HA
  rw [← hR]
  clear hR
  go_enter Tryd.func59, Tryd.ntmps59
  go_wp2_with fail
  refine (HA.out w).mono ?_
  rintro e w' ⟨rfl, rfl⟩
  go_wp2
  go_ret
  exact ⟨by simp, ((Below.refl _ _).alloc (Nat.le_refl _) _).alloc (by simp) _⟩
set_option maxHeartbeats 400000 in
theorem isBad8 (a b c m : Int) (w : World) : Calls Tryd.prog 59 #[.agg #[.int .i64 8, .int .i64 a, .int .i64 b, .int .i64 c, .int .i64 m]] w fun e w' => e = .returned (.bool (!PM.areRegs [a, b])) ∧ Below w.heap.size w w' := by
  have HA : Hid (∀ V : World, Calls Tryd.prog 67 #[.slice (some ⟨w.heap.size + 1, 0, none⟩) 2 2] ((w.alloc (.cells #[.int .i64 8, .int .i64 a, .int .i64 b, .int .i64 c, .int .i64 m] 23)).alloc (.cells (ints [a, b]) 3)) fun e w' => e = .returned (.bool (PM.areRegs [a, b])) ∧ ((w.alloc (.cells #[.int .i64 8, .int .i64 a, .int .i64 b, .int .i64 c, .int .i64 m] 23)).alloc (.cells (ints [a, b]) 3)) = w') := fun V => areRegs_any [a, b] (w.heap.size + 1) _ (by simp) (by have e := B.new (w.alloc (.cells #[.int .i64 8, .int .i64 a, .int .i64 b, .int .i64 c, .int .i64 m] 23)) (ints [a, b]) 3; rw [World.size_alloc] at e; exact e)
  obtain ⟨R, hR⟩ : ∃ R, R = PM.areRegs [a, b] := ⟨_, rfl⟩
  rw [← hR] at HA
  rw [← hR]
  clear hR
  go_enter Tryd.func59, Tryd.ntmps59
  go_wp2_with fail
  refine (HA.out w).mono ?_
  rintro e w' ⟨rfl, rfl⟩
  go_wp2
  go_ret
  exact ⟨by simp, ((Below.refl _ _).alloc (Nat.le_refl _) _).alloc (by simp) _⟩
set_option maxHeartbeats 400000 in
theorem isBad11 (a b c m : Int) (w : World) : Calls Tryd.prog 59 #[.agg #[.int .i64 11, .int .i64 a, .int .i64 b, .int .i64 c, .int .i64 m]] w fun e w' => e = .returned (.bool (!PM.areRegs [a])) ∧ Below w.heap.size w w' := by
  have HA : Hid (∀ V : World, Calls Tryd.prog 67 #[.slice (some ⟨w.heap.size + 1, 0, none⟩) 1 1] ((w.alloc (.cells #[.int .i64 11, .int .i64 a, .int .i64 b, .int .i64 c, .int .i64 m] 23)).alloc (.cells (ints [a]) 3)) fun e w' => e = .returned (.bool (PM.areRegs [a])) ∧ ((w.alloc (.cells #[.int .i64 11, .int .i64 a, .int .i64 b, .int .i64 c, .int .i64 m] 23)).alloc (.cells (ints [a]) 3)) = w') := fun V => areRegs_any [a] (w.heap.size + 1) _ (by simp) (by have e := B.new (w.alloc (.cells #[.int .i64 11, .int .i64 a, .int .i64 b, .int .i64 c, .int .i64 m] 23)) (ints [a]) 3; rw [World.size_alloc] at e; exact e)
  obtain ⟨R, hR⟩ : ∃ R, R = PM.areRegs [a] := ⟨_, rfl⟩
  rw [← hR] at HA
  rw [← hR]
  clear hR
  go_enter Tryd.func59, Tryd.ntmps59
  go_wp2_with fail
  refine (HA.out w).mono ?_
  rintro e w' ⟨rfl, rfl⟩
  go_wp2
  go_ret
  exact ⟨by simp, ((Below.refl _ _).alloc (Nat.le_refl _) _).alloc (by simp) _⟩
set_option maxHeartbeats 400000 in
theorem isBad13 (a b c m : Int) (w : World) : Calls Tryd.prog 59 #[.agg #[.int .i64 13, .int .i64 a, .int .i64 b, .int .i64 c, .int .i64 m]] w fun e w' => e = .returned (.bool (!PM.areRegs [a, b])) ∧ Below w.heap.size w w' := by
  have HA : Hid (∀ V : World, Calls Tryd.prog 67 #[.slice (some ⟨w.heap.size + 1, 0, none⟩) 2 2] ((w.alloc (.cells #[.int .i64 13, .int .i64 a, .int .i64 b, .int .i64 c, .int .i64 m] 23)).alloc (.cells (ints [a, b]) 3)) fun e w' => e = .returned (.bool (PM.areRegs [a, b])) ∧ ((w.alloc (.cells #[.int .i64 13, .int .i64 a, .int .i64 b, .int .i64 c, .int .i64 m] 23)).alloc (.cells (ints [a, b]) 3)) = w') := fun V => areRegs_any [a, b] (w.heap.size + 1) _ (by simp) (by have e := B.new (w.alloc (.cells #[.int .i64 13, .int .i64 a, .int .i64 b, .int .i64 c, .int .i64 m] 23)) (ints [a, b]) 3; rw [World.size_alloc] at e; exact e)
  obtain ⟨R, hR⟩ : ∃ R, R = PM.areRegs [a, b] := ⟨_, rfl⟩
  rw [← hR] at HA
  rw [← hR]
  clear hR
  go_enter Tryd.func59, Tryd.ntmps59
  go_wp2_with fail
  refine (HA.out w).mono ?_
  rintro e w' ⟨rfl, rfl⟩
  go_wp2
  go_ret
  exact ⟨by simp, ((Below.refl _ _).alloc (Nat.le_refl _) _).alloc (by simp) _⟩
set_option maxHeartbeats 400000 in
theorem isBad14 (a b c m : Int) (w : World) : Calls Tryd.prog 59 #[.agg #[.int .i64 14, .int .i64 a, .int .i64 b, .int .i64 c, .int .i64 m]] w fun e w' => e = .returned (.bool (!PM.areRegs [a, b])) ∧ Below w.heap.size w w' := by
  have HA : Hid (∀ V : World, Calls Tryd.prog 67 #[.slice (some ⟨w.heap.size + 1, 0, none⟩) 2 2] ((w.alloc (.cells #[.int .i64 14, .int .i64 a, .int .i64 b, .int .i64 c, .int .i64 m] 23)).alloc (.cells (ints [a, b]) 3)) fun e w' => e = .returned (.bool (PM.areRegs [a, b])) ∧ ((w.alloc (.cells #[.int .i64 14, .int .i64 a, .int .i64 b, .int .i64 c, .int .i64 m] 23)).alloc (.cells (ints [a, b]) 3)) = w') := fun V => areRegs_any [a, b] (w.heap.size + 1) _ (by simp) (by have e := B.new (w.alloc (.cells #[.int .i64 14, .int .i64 a, .int .i64 b, .int .i64 c, .int .i64 m] 23)) (ints [a, b]) 3; rw [World.size_alloc] at e; exact e)
  obtain ⟨R, hR⟩ : ∃ R, R = PM.areRegs [a, b] := ⟨_, rfl⟩
  rw [← hR] at HA
  rw [← hR]
  clear hR
  go_enter Tryd.func59, Tryd.ntmps59
  go_wp2_with fail
  refine (HA.out w).mono ?_
  rintro e w' ⟨rfl, rfl⟩
  go_wp2
  go_ret
  exact ⟨by simp, ((Below.refl _ _).alloc (Nat.le_refl _) _).alloc (by simp) _⟩
set_option maxHeartbeats 400000 in
theorem isBad15 (a b c m : Int) (w : World) : Calls Tryd.prog 59 #[.agg #[.int .i64 15, .int .i64 a, .int .i64 b, .int .i64 c, .int .i64 m]] w fun e w' => e = .returned (.bool (!PM.areRegs [a])) ∧ Below w.heap.size w w' := by
  have HA : Hid (∀ V : World, Calls Tryd.prog 67 #[.slice (some ⟨w.heap.size + 1, 0, none⟩) 1 1] ((w.alloc (.cells #[.int .i64 15, .int .i64 a, .int .i64 b, .int .i64 c, .int .i64 m] 23)).alloc (.cells (ints [a]) 3)) fun e w' => e = .returned (.bool (PM.areRegs [a])) ∧ ((w.alloc (.cells #[.int .i64 15, .int .i64 a, .int .i64 b, .int .i64 c, .int .i64 m] 23)).alloc (.cells (ints [a]) 3)) = w') := fun V => areRegs_any [a] (w.heap.size + 1) _ (by simp) (by have e := B.new (w.alloc (.cells #[.int .i64 15, .int .i64 a, .int .i64 b, .int .i64 c, .int .i64 m] 23)) (ints [a]) 3; rw [World.size_alloc] at e; exact e)
  obtain ⟨R, hR⟩ : ∃ R, R = PM.areRegs [a] := ⟨_, rfl⟩
  rw [← hR] at HA
  rw [← hR]
  clear hR
  go_enter Tryd.func59, Tryd.ntmps59
  go_wp2_with fail
  refine (HA.out w).mono ?_
  rintro e w' ⟨rfl, rfl⟩
  go_wp2
  go_ret
  exact ⟨by simp, ((Below.refl _ _).alloc (Nat.le_refl _) _).alloc (by simp) _⟩
end Go.Proofs.YtklobjfhjlkgfaaDoor.PW
namespace Go.Proofs.YtklobjfhjlkgfaaDoor.PW
open Go.RowKit
set_option linter.unusedVariables false
set_option maxRecDepth 100000
set_option maxHeartbeats 400000 in
theorem isBad9 (a b c m : Int) (w : World) : Calls Tryd.prog 59 #[.agg #[.int .i64 9, .int .i64 a, .int .i64 b, .int .i64 c, .int .i64 m]] w fun e w' => e = .returned (.bool (!PM.areRegs [a, b] || !PM.isSize c)) ∧ Below w.heap.size w w' := by
  have HA : Hid (∀ V : World, Calls Tryd.prog 67 #[.slice (some ⟨w.heap.size + 1, 0, none⟩) 2 2] ((w.alloc (.cells #[.int .i64 9, .int .i64 a, .int .i64 b, .int .i64 c, .int .i64 m] 23)).alloc (.cells (ints [a, b]) 3)) fun e w' => e = .returned (.bool (PM.areRegs [a, b])) ∧ ((w.alloc (.cells #[.int .i64 9, .int .i64 a, .int .i64 b, .int .i64 c, .int .i64 m] 23)).alloc (.cells (ints [a, b]) 3)) = w') := fun V => areRegs_any [a, b] (w.heap.size + 1) _ (by simp) (by have e := B.new (w.alloc (.cells #[.int .i64 9, .int .i64 a, .int .i64 b, .int .i64 c, .int .i64 m] 23)) (ints [a, b]) 3; rw [World.size_alloc] at e; exact e)
  have HS := hideC (isSize_any c)
  obtain ⟨R, hR⟩ : ∃ R, R = PM.areRegs [a, b] := ⟨_, rfl⟩
  rw [← hR] at HA
  rw [← hR]
  obtain ⟨S, hS⟩ : ∃ S, S = PM.isSize c := ⟨_, rfl⟩
  rw [← hS] at HS
  rw [← hS]
  clear hR hS
  cases R
  · go_enter Tryd.func59, Tryd.ntmps59
    go_wp2_with fail
    refine (HA.out w).mono ?_
    rintro e w' ⟨rfl, rfl⟩
    go_wp2
    go_ret
    exact ⟨by simp, ((Below.refl _ _).alloc (Nat.le_refl _) _).alloc (by simp) _⟩
  · go_enter Tryd.func59, Tryd.ntmps59
    go_wp2_with fail
    refine (HA.out w).mono ?_
    rintro e w' ⟨rfl, rfl⟩
    go_wp2_with fail
    refine (HS.out _).mono ?_
    rintro e w' ⟨rfl, rfl⟩
    go_wp2
    go_ret
    exact ⟨by simp, ((Below.refl _ _).alloc (Nat.le_refl _) _).alloc (by simp) _⟩
set_option maxHeartbeats 400000 in
theorem isBad10 (a b c m : Int) (w : World) : Calls Tryd.prog 59 #[.agg #[.int .i64 10, .int .i64 a, .int .i64 b, .int .i64 c, .int .i64 m]] w fun e w' => e = .returned (.bool (!PM.areRegs [a, b] || !PM.isSize c)) ∧ Below w.heap.size w w' := by
  have HA : Hid (∀ V : World, Calls Tryd.prog 67 #[.slice (some ⟨w.heap.size + 1, 0, none⟩) 2 2] ((w.alloc (.cells #[.int .i64 10, .int .i64 a, .int .i64 b, .int .i64 c, .int .i64 m] 23)).alloc (.cells (ints [a, b]) 3)) fun e w' => e = .returned (.bool (PM.areRegs [a, b])) ∧ ((w.alloc (.cells #[.int .i64 10, .int .i64 a, .int .i64 b, .int .i64 c, .int .i64 m] 23)).alloc (.cells (ints [a, b]) 3)) = w') := fun V => areRegs_any [a, b] (w.heap.size + 1) _ (by simp) (by have e := B.new (w.alloc (.cells #[.int .i64 10, .int .i64 a, .int .i64 b, .int .i64 c, .int .i64 m] 23)) (ints [a, b]) 3; rw [World.size_alloc] at e; exact e)
  have HS := hideC (isSize_any c)
  obtain ⟨R, hR⟩ : ∃ R, R = PM.areRegs [a, b] := ⟨_, rfl⟩
  rw [← hR] at HA
  rw [← hR]
  obtain ⟨S, hS⟩ : ∃ S, S = PM.isSize c := ⟨_, rfl⟩
  rw [← hS] at HS
  rw [← hS]
  clear hR hS
  cases R
  · go_enter Tryd.func59, Tryd.ntmps59
    go_wp2_with fail
    refine (HA.out w).mono ?_
    rintro e w' ⟨rfl, rfl⟩
    go_wp2
    go_ret
    exact ⟨by simp, ((Below.refl _ _).alloc (Nat.le_refl _) _).alloc (by simp) _⟩
  · go_enter Tryd.func59, Tryd.ntmps59
    go_wp2_with fail
    refine (HA.out w).mono ?_
    rintro e w' ⟨rfl, rfl⟩
    go_wp2_with fail
    refine (HS.out _).mono ?_
    rintro e w' ⟨rfl, rfl⟩
    go_wp2
    go_ret
    exact ⟨by simp, ((Below.refl _ _).alloc (Nat.le_refl _) _).alloc (by simp) _⟩
set_option maxHeartbeats 400000 in
theorem isBad12 (a b c m : Int) (w : World) : Calls Tryd.prog 59 #[.agg #[.int .i64 12, .int .i64 a, .int .i64 b, .int .i64 c, .int .i64 m]] w fun e w' => e = .returned (.bool false) ∧ Below w.heap.size w w' := by
  go_enter Tryd.func59, Tryd.ntmps59
  go_wp2
  go_ret
  exact ⟨by simp, (Below.refl _ _).alloc (Nat.le_refl _) _⟩
set_option maxHeartbeats 400000 in
theorem isBad16 (a b c m : Int) (w : World) : Calls Tryd.prog 59 #[.agg #[.int .i64 16, .int .i64 a, .int .i64 b, .int .i64 c, .int .i64 m]] w fun e w' => e = .returned (.bool (!decide (1 ≤ m ∧ m ≤ 6))) ∧ Below w.heap.size w w' := by
  by_cases h1 : 1 ≤ m
  · by_cases h2 : m ≤ 6
    · have HR := hideC (show (!decide (1 ≤ m ∧ m ≤ 6)) = false from by simp [h1, h2])
      rw [HR.out]
      go_enter Tryd.func59, Tryd.ntmps59
      go_wp2
      go_ret
      exact ⟨by first | (simp; done) | (simp; omega), (Below.refl _ _).alloc (Nat.le_refl _) _⟩
    · have HR := hideC (show (!decide (1 ≤ m ∧ m ≤ 6)) = true from by simp [h1, h2])
      rw [HR.out]
      go_enter Tryd.func59, Tryd.ntmps59
      go_wp2
      go_ret
      exact ⟨by first | (simp; done) | (simp; omega), (Below.refl _ _).alloc (Nat.le_refl _) _⟩
  · have HR := hideC (show (!decide (1 ≤ m ∧ m ≤ 6)) = true from by simp [h1])
    rw [HR.out]
    go_enter Tryd.func59, Tryd.ntmps59
    go_wp2
    go_ret
    exact ⟨by simp, (Below.refl _ _).alloc (Nat.le_refl _) _⟩
set_option maxHeartbeats 1000000 in
theorem isBadX (op a b c m : Int) (w : World) (h : op < 1 ∨ 16 < op) : Calls Tryd.prog 59 #[.agg #[.int .i64 op, .int .i64 a, .int .i64 b, .int .i64 c, .int .i64 m]] w fun e w' => e = .returned (.bool true) ∧ Below w.heap.size w w' := by
  have n1 : ¬ op = 1 := by omega
  have n2 : ¬ op = 2 := by omega
  have n3 : ¬ op = 3 := by omega
  have n4 : ¬ op = 4 := by omega
  have n5 : ¬ op = 5 := by omega
  have n6 : ¬ op = 6 := by omega
  have n7 : ¬ op = 7 := by omega
  have n8 : ¬ op = 8 := by omega
  have n9 : ¬ op = 9 := by omega
  have n10 : ¬ op = 10 := by omega
  have n11 : ¬ op = 11 := by omega
  have n12 : ¬ op = 12 := by omega
  have n13 : ¬ op = 13 := by omega
  have n14 : ¬ op = 14 := by omega
  have n15 : ¬ op = 15 := by omega
  have n16 : ¬ op = 16 := by omega
  clear h
  go_enter Tryd.func59, Tryd.ntmps59
  go_wp2
  go_ret
  exact ⟨by simp [n12], (Below.refl _ _).alloc (Nat.le_refl _) _⟩

theorem op_cases (op : Int) : (op < 1 ∨ 16 < op) ∨ op = 1 ∨ op = 2 ∨ op = 3 ∨ op = 4 ∨ op = 5 ∨ op = 6 ∨ op = 7 ∨ op = 8 ∨ op = 9 ∨ op = 10 ∨ op = 11 ∨ op = 12 ∨ op = 13 ∨ op = 14 ∨ op = 15 ∨ op = 16 := by omega
theorem bad_else (i : PM.Ins) (h : i.op < 1 ∨ 16 < i.op) : i.bad = true := by
  unfold PM.Ins.bad
  rw [if_neg (by omega), if_neg (by omega), if_neg (by omega), if_neg (by omega), if_neg (by omega), if_neg (by omega)]
theorem isBad_any (i : PM.Ins) (w : World) (hi : i.fits) : Calls Tryd.prog 59 #[.agg i.cells] w fun e w' => e = .returned (.bool i.bad) ∧ Below w.heap.size w w' := by
  obtain ⟨op, a, b, c, m⟩ := i
  obtain ⟨-, ha, hb, hc, -⟩ := hi
  have e1 := PM.regs1 a ha
  have e2 := PM.regs2 a b ha hb
  have e3 := PM.regs3 a b c ha hb hc
  rcases op_cases op with h | h | h | h | h | h | h | h | h | h | h | h | h | h | h | h | h
  · rw [bad_else _ h]; exact isBadX op a b c m w h
  · subst h
    have g := isBad1 a b c m w
    rw [e1] at g
    exact g
  · subst h
    have g := isBad2 a b c m w
    rw [e3] at g
    exact g
  · subst h
    have g := isBad3 a b c m w
    rw [e3] at g
    exact g
  · subst h
    have g := isBad4 a b c m w
    rw [e3] at g
    exact g
  · subst h
    have g := isBad5 a b c m w
    rw [e3] at g
    exact g
  · subst h
    have g := isBad6 a b c m w
    rw [e3] at g
    exact g
  · subst h
    have g := isBad7 a b c m w
    rw [e3] at g
    exact g
  · subst h
    have g := isBad8 a b c m w
    rw [e2] at g
    exact g
  · subst h
    have g := isBad9 a b c m w
    rw [e2] at g
    exact g
  · subst h
    have g := isBad10 a b c m w
    rw [e2] at g
    exact g
  · subst h
    have g := isBad11 a b c m w
    rw [e1] at g
    exact g
  · subst h
    have g := isBad12 a b c m w
    exact g
  · subst h
    have g := isBad13 a b c m w
    rw [e2] at g
    exact g
  · subst h
    have g := isBad14 a b c m w
    rw [e2] at g
    exact g
  · subst h
    have g := isBad15 a b c m w
    rw [e1] at g
    exact g
  · subst h
    have g := isBad16 a b c m w
    exact g
end Go.Proofs.YtklobjfhjlkgfaaDoor.PW
