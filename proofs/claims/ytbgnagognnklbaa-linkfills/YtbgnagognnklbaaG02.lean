import Derived.Test.YtbgnagognnklbaaG00
import Derived.Test.YtbgnagognnklbaaG01
import Derived.WalkKit
import Derived.Below
import Derived.Test.YtbgnagognnklbaaProg
import Derived.WalkLawsBesides
import Derived.WalkSpells
/- Sheets as plain Lean data; no Go in sight but where their cells lie. -/
namespace Go.Proofs.Ytbgnagognnklbaa.LM
open Go.RowKit
set_option linter.unusedVariables false
set_option maxRecDepth 100000

structure Fx where
  off : Int
  bytes : ByteArray
/-- a sheet; ao, cap: where its fixes lie -/
structure Sh where
  page : Int
  data : ByteArray
  fixes : List Fx
  ao : Option Addr
  cap : Nat
def fx0 : Fx := ⟨0, ⟨#[]⟩⟩
def fxAt (l : List Fx) (i : Nat) : Fx := l.getD i fx0
def sh0 : Sh := ⟨0, ⟨#[]⟩, [], none, 0⟩
def shAt (l : List Sh) (i : Nat) : Sh := l.getD i sh0

def LieF (w : World) (b off : Nat) (l : List Fx) : Prop := ∀ i, i < l.length → w.cell? ⟨b, off + i * 2, none⟩ = some (.int .i64 (fxAt l i).off) ∧ w.cell? ⟨b, off + i * 2 + 1, none⟩ = some (.string (fxAt l i).bytes)
theorem lieF {w w' : World} {b off : Nat} {l : List Fx} (hb : Below w.heap.size w w') (hlt : b < w.heap.size) (h : LieF w b off l) : LieF w' b off l := fun i hi => by
  obtain ⟨c0, c1⟩ := h i hi
  exact ⟨(M.below_cell hb hlt).trans c0, (M.below_cell hb hlt).trans c1⟩
def HasF (w : World) (ao : Option Addr) (l : List Fx) : Prop := M.HasBy LieF w ao l
theorem HasF.below {w w' : World} {ao : Option Addr} {l : List Fx} (h : HasF w ao l) (hb : Below w.heap.size w w') : HasF w' ao l := M.HasBy.below (lie := LieF) (fun hb hlt h => lieF hb hlt h) h hb
def FitF (f : Fx) : Prop := M.I64 f.off ∧ M.Short f.bytes.size
structure FitH (s : Sh) : Prop where
  page : M.I64 s.page
  data : M.Short s.data.size
  fixes : M.Short s.fixes.length
  fix : ∀ k, k < s.fixes.length → FitF (fxAt s.fixes k)
def cellsH (s : Sh) : Array Value := #[.int .i64 s.page, .string s.data, .slice s.ao s.fixes.length s.cap]

/-- where the bytes of the first k fixes end -/
def endTo (l : List Fx) : Nat → Int
  | 0 => 0
  | k + 1 => (fxAt l k).off + ((fxAt l k).bytes.size : Int)
def fixB (e : Int) (f : Fx) : Bool := decide (e ≤ f.off ∧ f.off ≤ 16 ∧ 1 ≤ (f.bytes.size : Int) ∧ (f.bytes.size : Int) ≤ 16 - f.off)
def fixesTo (l : List Fx) : Nat → Bool
  | 0 => true
  | k + 1 => fixesTo l k && fixB (endTo l k) (fxAt l k)
def headB (s : Sh) : Bool := decide (1 ≤ s.page ∧ s.page ≤ 255 ∧ s.data.size = 16)
/-- is the sheet right? -/
def sheetB (s : Sh) : Bool := headB s && fixesTo s.fixes s.fixes.length
/-- the data over which the first k fixes are laid -/
def laidTo (d : ByteArray) (l : List Fx) : Nat → ByteArray
  | 0 => d
  | k + 1 => CL.over (laidTo d l k) (fxAt l k).off.toNat (fxAt l k).bytes
def fillS (s : Sh) : ByteArray := laidTo s.data s.fixes s.fixes.length
/-- what Fill answers -/
def fillN (s : Sh) : ByteArray × Int := if sheetB s then (fillS s, 0) else (⟨#[]⟩, 1)

theorem fixesTo_false (l : List Fx) : ∀ (k n : Nat), k ≤ n → fixesTo l k = false → fixesTo l n = false
  | k, 0, h, hk => by obtain rfl : k = 0 := by omega
                      exact hk
  | k, n + 1, h, hk => by
    by_cases e : k = n + 1
    · subst e; exact hk
    · simp [fixesTo, fixesTo_false l k n (by omega) hk]
theorem fixes_bad (l : List Fx) (k : Nat) (hk : k < l.length) (h : fixB (endTo l k) (fxAt l k) = false) : fixesTo l l.length = false :=
  fixesTo_false l (k + 1) l.length (by omega) (by simp [fixesTo, h])
theorem fixesTo_ok (l : List Fx) : ∀ (n : Nat), fixesTo l n = true → ∀ i, i < n → fixB (endTo l i) (fxAt l i) = true
  | 0, _, i, hi => by omega
  | n + 1, h, i, hi => by
    simp only [fixesTo, Bool.and_eq_true] at h
    by_cases e : i = n
    · subst e; exact h.2
    · exact fixesTo_ok l n h.1 i (by omega)
theorem fixB_iff (e : Int) (f : Fx) : fixB e f = true ↔ (e ≤ f.off ∧ f.off ≤ 16 ∧ 1 ≤ (f.bytes.size : Int) ∧ (f.bytes.size : Int) ≤ 16 - f.off) := by simp [fixB]
theorem fixB_no {e : Int} {f : Fx} (h : ¬ (e ≤ f.off ∧ f.off ≤ 16 ∧ 1 ≤ (f.bytes.size : Int) ∧ (f.bytes.size : Int) ≤ 16 - f.off)) : fixB e f = false := by simpa [fixB] using h
/-- the ends rise: each fix has a byte at least -/
theorem endTo_ge (l : List Fx) : ∀ k, fixesTo l k = true → (k : Int) ≤ endTo l k ∧ endTo l k ≤ 16
  | 0, _ => by simp [endTo]
  | k + 1, h => by
    simp only [fixesTo, Bool.and_eq_true] at h
    have ih := endTo_ge l k h.1
    have hf := (fixB_iff _ _).1 h.2
    simp only [endTo]
    omega
theorem laidTo_size (d : ByteArray) (l : List Fx) (hd : d.size = 16) : ∀ k, fixesTo l k = true → (laidTo d l k).size = 16
  | 0, _ => hd
  | k + 1, h => by
    simp only [fixesTo, Bool.and_eq_true] at h
    have ih := laidTo_size d l hd k h.1
    have hf := (fixB_iff _ _).1 h.2
    have he := endTo_ge l k h.1
    simp only [laidTo]
    rw [CL.over_size' _ _ _ (by omega), ih]
end Go.Proofs.Ytbgnagognnklbaa.LM
/- Blocks that are known whole. -/
namespace Go.Proofs.Ytbgnagognnklbaa.B
open Go.RowKit
set_option linter.unusedVariables false

theorem below {w w' : World} {b N : Nat} {o : Obj} (h : w.heap[b]? = some o) (hb : Below N w w') (hlt : b < N) : w'.heap[b]? = some o := (hb.block b hlt).trans h
theorem isLt {w : World} {b : Nat} {o : Obj} (h : w.heap[b]? = some o) : b < w.heap.size := (Array.getElem?_eq_some_iff.1 h).1
theorem alloc {w : World} {b : Nat} {o : Obj} (h : w.heap[b]? = some o) (o' : Obj) : (w.alloc o').heap[b]? = some o := (Below.heap_alloc w o' b (isLt h)).trans h
theorem cell {w : World} {b : Nat} {C : Array Value} {t : TypeId} {fr : Nat × Nat} (h : w.heap[b]? = some (.cells C t fr)) (j : Nat) {v : Value} (hj : C[j]? = some v) : w.cell? ⟨b, j, none⟩ = some v := (cell_of_row w b j C t fr h).trans hj
theorem free {w : World} {b : Nat} {C : Array Value} {t : TypeId} (h : w.heap[b]? = some (.cells C t (0, 0))) (j : Nat) : w.frozen? ⟨b, j, none⟩ = false := frozen_of_row w b j C t h
theorem other {w : World} {b : Nat} {o : Obj} (h : w.heap[b]? = some o) (g j : Nat) (v : Value) (hne : b ≠ g) : (w.setCell ⟨g, j, none⟩ v).heap[b]? = some o := (heap_setCell_other w ⟨g, j, none⟩ b v hne).trans h
theorem set {w : World} {b : Nat} {C : Array Value} {t : TypeId} (h : w.heap[b]? = some (.cells C t (0, 0))) (j : Nat) (v : Value) : (w.setCell ⟨b, j, none⟩ v).heap[b]? = some (.cells (C.setIfInBounds j v) t (0, 0)) := heap_setCell_same w b j C t v h
theorem new (w : World) (C : Array Value) (t : TypeId) : (w.alloc (.cells C t)).heap[w.heap.size]? = some (.cells C t (0, 0)) := heap_alloc_new w _
theorem news {w : World} {b : Nat} {C : Array Value} {t : TypeId} {fr : Nat × Nat} (h : w.heap[b]? = some (.cells C t fr)) : ∀ j u, C.toList[j]? = some u → w.cell? ((⟨b, 0, none⟩ : Addr).add j) = some u := fun j u hj => by
  rw [Addr.add_lit, Nat.zero_add]
  exact cell h j (by simpa using hj)
theorem grown {w w' : World} {b : Nat} {o : Obj} {row : Option Nat} (h : w.heap[b]? = some o) (hg : w.grownBy w' row) (hne : some b ≠ row) : w'.heap[b]? = some o := (hg.block b (isLt h) hne).trans h
end Go.Proofs.Ytbgnagognnklbaa.B
namespace Go.Proofs.Ytbgnagognnklbaa.W
open Go.RowKit
set_option linter.unusedVariables false

theorem hideC {p : Prop} (h : p) : Hid p := h
theorem ret_bool {a b : Bool} (h : a = b) : Ending.returned (.bool a) = .returned (.bool b) := by rw [h]

set_option maxHeartbeats 1000000 in
theorem inName_any (n : Int) (w : World) : Calls Try.prog 98 #[.int .u8 n] w fun e w' => e = .returned (.bool (M.signB n)) ∧ w = w' := by
  by_cases h1 : 97 ≤ n ∧ n ≤ 122
  · have e : M.signB n = true := by unfold M.signB; rw [decide_eq_true h1]; rfl
    rw [e]
    obtain ⟨a, b⟩ := h1
    go_enter Try.func98, Try.ntmps98
    go_wp2
    go_ret
    exact ⟨rfl, rfl⟩
  · by_cases h2 : 48 ≤ n ∧ n ≤ 57
    · have e : M.signB n = true := by unfold M.signB; rw [decide_eq_true h2]; simp
      rw [e]
      obtain ⟨a, b⟩ := h2
      have c : decide (97 ≤ n) = false := by simp; omega
      clear h1
      go_enter Try.func98, Try.ntmps98
      go_wp2
      go_ret
      exact ⟨rfl, rfl⟩
    · by_cases h3 : n = 95
      · subst h3
        go_enter Try.func98, Try.ntmps98
        go_wp2
        go_ret
        exact ⟨rfl, rfl⟩
      · have e : M.signB n = false := by unfold M.signB; rw [decide_eq_false h1, decide_eq_false h2, decide_eq_false h3]; rfl
        rw [e]
        have h3' : (n == 95) = false := by simpa using h3
        by_cases a : 97 ≤ n
        · have b : decide (n ≤ 122) = false := by simp; omega
          have c : 48 ≤ n := by omega
          have d : decide (n ≤ 57) = false := by simp; omega
          clear h1 h2
          go_enter Try.func98, Try.ntmps98
          go_wp2
          go_ret
          exact ⟨rfl, rfl⟩
        · have a' : decide (97 ≤ n) = false := by simpa using a
          by_cases c : 48 ≤ n
          · have d : decide (n ≤ 57) = false := by simp; omega
            clear h1 h2
            go_enter Try.func98, Try.ntmps98
            go_wp2
            go_ret
            exact ⟨rfl, rfl⟩
          · have c' : decide (48 ≤ n) = false := by simpa using c
            clear h1 h2
            go_enter Try.func98, Try.ntmps98
            go_wp2
            go_ret
            exact ⟨rfl, rfl⟩

set_option maxHeartbeats 1000000 in
theorem isName_any (s : ByteArray) (w : World) (hs : M.Short s.size) : Calls Try.prog 86 #[.string s] w fun e w' => e = .returned (.bool (M.nameB s)) ∧ w = w' := by
  unfold M.Short at hs
  have hml : s.size ≤ maxLen := by unfold maxLen; omega
  by_cases h1 : 1 ≤ s.size
  · by_cases h2 : s.size ≤ 12
    · have d1 : ¬ (s.size : Int) < 1 := by omega
      have d2 : ¬ 12 < (s.size : Int) := by omega
      go_enter Try.func86, Try.ntmps86
      go_wp2
      go_loop [14] (fun i => ∃ k : Nat, k ≤ s.size ∧ i = .int .i64 k ∧ ∀ j (hj : j < s.size), j < k → M.signB s[j].toNat = true) (fun i => s.size - (intOf i).toNat)
      case atStart => exact ⟨0, by omega, rfl, fun j _ h => by omega⟩
      case round =>
        obtain ⟨k, hk, rfl, hall⟩ := hrel
        have HA := hideC hall
        clear hall
        by_cases hlt : k < s.size
        · cases hc : M.signB s[k].toNat
          · have HR := hideC (M.name_no s k hlt hc)
            go_wp2_with (go_at_call 98; refine (inName_any _ _).mono ?_; rintro e w' ⟨rfl, rfl⟩; rw [hc])
            go_ret
            exact ⟨ret_bool HR.out.symm, rfl⟩
          · have HC := hideC hc
            go_wp2_with (go_at_call 98; refine (inName_any _ _).mono ?_; rintro e w' ⟨rfl, rfl⟩; rw [hc])
            go_round
            case rel => exact ⟨k + 1, by omega, by go_num, fun j hj h => if e : j = k then by subst e; exact HC.out else HA.out j hj (by omega)⟩
            case measure => simp [intOf]; omega
        · obtain rfl : k = s.size := by omega
          have HR := hideC (M.name_yes s h1 h2 (fun k hk => HA.out k hk hk))
          go_wp2
          go_ret
          exact ⟨ret_bool HR.out.symm, rfl⟩
    · have HR := hideC (M.name_len s (fun h => h2 h.2))
      have d1 : ¬ (s.size : Int) < 1 := by omega
      have d2 : 12 < (s.size : Int) := by omega
      go_enter Try.func86, Try.ntmps86
      go_wp2
      go_ret
      exact ⟨ret_bool HR.out.symm, rfl⟩
  · have HR := hideC (M.name_len s (fun h => h1 h.1))
    have d1 : (s.size : Int) < 1 := by omega
    go_enter Try.func86, Try.ntmps86
    go_wp2
    go_ret
    exact ⟨ret_bool HR.out.symm, rfl⟩
end Go.Proofs.Ytbgnagognnklbaa.W
/- The linker: is a sheet right? -/
namespace Go.Proofs.Ytbgnagognnklbaa.LW
open Go.RowKit
open Go.Proofs.Ytbgnagognnklbaa.W (hideC)
set_option linter.unusedVariables false
set_option maxRecDepth 100000

theorem below_drew (w : World) : Below w.heap.size w w.drew := ⟨rfl, rfl, rfl, Nat.le_refl _, fun _ _ => rfl⟩
theorem ret_bool {a b : Bool} (h : a = b) : Ending.returned (.bool a) = .returned (.bool b) := by rw [h]

set_option maxHeartbeats 2000000 in
theorem rightSheet_any (s : LM.Sh) (w : World) (h : LM.HasF w s.ao s.fixes) (hf : LM.FitH s) :
    Calls Try.prog 34 #[.agg (LM.cellsH s)] w fun e w' => e = .returned (.bool (LM.sheetB s)) ∧ Below w.heap.size w w' := by
  obtain ⟨f1, f2, f3, f4⟩ := hf
  obtain ⟨pg, dt, fs, ao, cap⟩ := s
  simp only at f1 f2 f3 f4
  unfold M.I64 at f1
  unfold M.Short at f2 f3
  simp only [LM.cellsH]
  have hdl : dt.size ≤ maxLen := by unfold maxLen; omega
  have F4 := hideC f4
  have HH := hideC h
  clear f4 h
  have HB := hideC ((Below.refl w.heap.size w).alloc (Nat.le_refl _) (.cells #[.int .i64 pg, .string dt, .slice ao fs.length cap] 43))
  by_cases h1 : pg < 1
  · have e : LM.sheetB ⟨pg, dt, fs, ao, cap⟩ = false := by
      unfold LM.sheetB LM.headB
      rw [decide_eq_false (by simp only; omega), Bool.false_and]
    rw [e]
    go_enter Try.func34, Try.ntmps34
    go_wp2
    go_ret
    exact ⟨rfl, HB.out⟩
  by_cases h2 : 255 < pg
  · have e : LM.sheetB ⟨pg, dt, fs, ao, cap⟩ = false := by
      unfold LM.sheetB LM.headB
      rw [decide_eq_false (by simp only; omega), Bool.false_and]
    rw [e]
    go_enter Try.func34, Try.ntmps34
    go_wp2
    go_ret
    exact ⟨rfl, HB.out⟩
  by_cases h3 : dt.size = 16
  · have h3' : (dt.size : Int) = 16 := by omega
    have e : LM.headB ⟨pg, dt, fs, ao, cap⟩ = true := by
      unfold LM.headB
      exact decide_eq_true ⟨by simp only; omega, by simp only; omega, h3⟩
    have E : Hid (LM.sheetB ⟨pg, dt, fs, ao, cap⟩ = LM.fixesTo fs fs.length) := by
      show _ = _
      unfold LM.sheetB
      rw [e, Bool.true_and]
    clear e h3
    go_enter Try.func34, Try.ntmps34
    go_wp2
    go_loopw [23, 3] (fun i en wr => ∃ k : Nat, k ≤ fs.length ∧ i = .int .i64 k ∧ en = .int .i64 (LM.endTo fs k) ∧ LM.fixesTo fs k = true ∧ Below w.heap.size w wr) (fun i _ _ => fs.length - (intOf i).toNat)
    case atStart => exact ⟨0, by omega, rfl, rfl, rfl, HB.out⟩
    case round =>
      obtain ⟨k, hk, rfl, rfl, hg, hb⟩ := hrel
      have HG := hideC hg
      have HBr := hideC hb
      clear hg
      by_cases hlt : k < fs.length
      · obtain ⟨b, off, hao, hbl, hlie⟩ := (HH.out.below hb) (by omega)
        subst hao
        obtain ⟨c0, c1⟩ := hlie k hlt
        obtain ⟨g1, g2⟩ := F4.out k hlt
        have hed := LM.endTo_ge fs k HG.out
        obtain ⟨f, hfe⟩ : ∃ f, f = LM.fxAt fs k := ⟨_, rfl⟩
        rw [← hfe] at c0 c1 g1 g2
        unfold M.I64 at g1
        unfold M.Short at g2
        have hfl : f.bytes.size ≤ maxLen := by unfold maxLen; omega
        have HFE := hideC hfe
        clear hfe hlie hb
        obtain ⟨en, hen⟩ : ∃ en, en = LM.endTo fs k := ⟨_, rfl⟩
        rw [← hen] at hed
        have HEN := hideC hen
        rw [← hen]
        clear hen
        have HBA := hideC (HBr.out.alloc HBr.out.size (.cells #[.int .i64 f.off, .string f.bytes] 89))
        by_cases q1 : f.off < en
        · have HX : Hid (LM.fixesTo fs fs.length = false) := LM.fixes_bad fs k hlt (by rw [← HFE.out, ← HEN.out]; exact LM.fixB_no (by omega))
          go_wp2
          go_ret
          exact ⟨ret_bool (by rw [E.out, HX.out]), HBA.out⟩
        by_cases q2 : 16 < f.off
        · have HX : Hid (LM.fixesTo fs fs.length = false) := LM.fixes_bad fs k hlt (by rw [← HFE.out, ← HEN.out]; exact LM.fixB_no (by omega))
          go_wp2
          go_ret
          exact ⟨ret_bool (by rw [E.out, HX.out]), HBA.out⟩
        by_cases q3 : (f.bytes.size : Int) < 1
        · have HX : Hid (LM.fixesTo fs fs.length = false) := LM.fixes_bad fs k hlt (by rw [← HFE.out, ← HEN.out]; exact LM.fixB_no (by omega))
          go_wp2
          go_ret
          exact ⟨ret_bool (by rw [E.out, HX.out]), HBA.out⟩
        by_cases q4 : 16 - f.off < (f.bytes.size : Int)
        · have HX : Hid (LM.fixesTo fs fs.length = false) := LM.fixes_bad fs k hlt (by rw [← HFE.out, ← HEN.out]; exact LM.fixB_no (by omega))
          go_wp2
          go_ret
          exact ⟨ret_bool (by rw [E.out, HX.out]), HBA.out⟩
        · have HX : Hid (LM.fixesTo fs (k + 1) = true) := by
            show _ = _
            simp only [LM.fixesTo, Bool.and_eq_true]
            exact ⟨HG.out, by rw [← HFE.out, ← HEN.out]; exact (LM.fixB_iff _ _).2 (by omega)⟩
          have HY : Hid (LM.endTo fs (k + 1) = f.off + (f.bytes.size : Int)) := by show _ = _; simp only [LM.endTo]; rw [← HFE.out]
          go_wp2
          go_roundw
          case rel => exact ⟨k + 1, by omega, by go_num, by rw [HY.out], HX.out, HBA.out⟩
          case measure => simp [intOf]; omega
      · obtain rfl : k = fs.length := by omega
        go_wp2
        go_ret
        exact ⟨ret_bool (by rw [E.out, HG.out]), HBr.out⟩
  · have e : LM.sheetB ⟨pg, dt, fs, ao, cap⟩ = false := by
      unfold LM.sheetB LM.headB
      rw [decide_eq_false (fun h => h3 h.2.2), Bool.false_and]
    have h3' : ((dt.size : Int) == 16) = false := by simp; omega
    rw [e]
    go_enter Try.func34, Try.ntmps34
    go_wp2
    go_ret
    exact ⟨rfl, HB.out⟩
end Go.Proofs.Ytbgnagognnklbaa.LW
namespace Go.Proofs.Ytbgnagognnklbaa.CW
open Go.RowKit
set_option linter.unusedVariables false
set_option maxRecDepth 100000

theorem ret_int {k : IntKind} {a b : Int} (h : a = b) : Value.int k a = .int k b := by rw [h]

theorem rightSize_yes (n : Int) (w : World) (h1 : 1 ≤ n) (h2 : n ≤ 8) :
    Calls Try.prog 89 #[.int .i64 n] w fun e w' => e = .returned (.bool true) ∧ w = w' := by
  go_enter Try.func89, Try.ntmps89
  go_wp2
  go_ret
  exact ⟨rfl, rfl⟩
theorem rightSize_no (n : Int) (w : World) (h1 : n < 1 ∨ 8 < n) :
    Calls Try.prog 89 #[.int .i64 n] w fun e w' => e = .returned (.bool false) ∧ w = w' := by
  rcases h1 with h | h
  · go_enter Try.func89, Try.ntmps89
    go_wp2
    go_ret
    exact ⟨rfl, rfl⟩
  · have h' : 1 ≤ n := by omega
    have h'' : decide (n ≤ 8) = false := by simp; omega
    go_enter Try.func89, Try.ntmps89
    go_wp2
    go_ret
    exact ⟨rfl, rfl⟩

end Go.Proofs.Ytbgnagognnklbaa.CW
