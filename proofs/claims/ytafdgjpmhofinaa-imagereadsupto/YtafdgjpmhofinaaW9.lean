import Derived.Test.YtafdgjpmhofinaaW8
import Derived.Maps.Own
import Derived.Maps.OwnSet
import Derived.Maps.Views
namespace Go.Proofs.Ytafdgjpmhofinaa.W
open Go.RowKit Go.WideMaps Go.Maps
set_option linter.unusedVariables false

theorem law : Keyed Try.prog 9 := string_keyed Try.underlying9
theorem zero3 (w : World) : (zeroValue 3).run Try.prog w = .ok (.int .i64 0) w := by kernel_rfl
/-- a name as a key -/
def keyS (s : ByteArray) : Lit := .string s.data.toList
theorem keyS_inj {s t : ByteArray} (h : keyS s = keyS t) : s = t := by
  unfold keyS at h
  injection h with h
  cases s; cases t
  congr 1
  exact Array.toList_inj.1 h
theorem keyS_ok {s : ByteArray} (h : M.Short s.size) : keyOf Try.prog 9 (.string s) = some (keyS s) := keyOf_string_mk Try.underlying9 (by unfold M.Short at h; unfold maxLen; omega)
instance lawfulBA : LawfulBEq ByteArray where
  eq_of_beq {a b} h := by
    cases a; cases b
    congr 1
    exact eq_of_beq (α := Array UInt8) h
  rfl {a} := by
    cases a
    exact beq_self_eq_true (α := Array UInt8) _
/-- the map counts each of the first k names once -/
def Cnt (l : List ByteArray) (k : Nat) (D : DataW Unit) : Prop := ∀ s : ByteArray, D.atKey (keyS s) (.lit (.int .i64 0)) = .lit (.int .i64 (if (l.take k).contains s then 1 else 0))
theorem cnt_zero (l : List ByteArray) : Cnt l 0 (.map []) := fun s => by simp [DataW.atKey]
theorem contains_step (l : List ByteArray) (k : Nat) (hk : k < l.length) (s : ByteArray) : (l.take (k + 1)).contains s = ((l.take k).contains s || s == M.strAt l k) := by
  rw [List.take_add_one, List.getElem?_eq_getElem hk]
  have e : M.strAt l k = l[k] := by unfold M.strAt; rw [List.getD_eq_getElem?_getD, List.getElem?_eq_getElem hk]; rfl
  rw [e]
  have g : ∀ (m : List ByteArray) (a : ByteArray), (m ++ [a]).contains s = (m.contains s || s == a) := fun m a => by
    rw [Bool.eq_iff_iff]
    simp
  exact g _ _
theorem cnt_step {l : List ByteArray} {k : Nat} {D : DataW Unit} (hk : k < l.length) (hD : IsMap D) (h : Cnt l k D) : Cnt l (k + 1) (D.put (keyS (M.strAt l k)) (.lit (.int .i64 1))) := fun s => by
  rw [contains_step l k hk s]
  by_cases e : s = M.strAt l k
  · subst e
    rw [atKey_put_same hD (by trivial)]
    simp
  · rw [atKey_put_other (fun g => e (keyS_inj g)), h s]
    have : (s == M.strAt l k) = false := by simpa using e
    rw [this, Bool.or_false]
theorem once_mono (l : List ByteArray) (k n : Nat) (h : M.onceTo l k = false) (hk : k ≤ n) : M.onceTo l n = false := by
  induction n with
  | zero => obtain rfl : k = 0 := by omega
            exact h
  | succ n ih =>
    rcases Nat.lt_or_ge n k with g | g
    · obtain rfl : k = n + 1 := by omega
      exact h
    · simp only [M.onceTo]
      rw [ih g]; rfl

set_option maxRecDepth 100000 in
set_option maxHeartbeats 2000000 in
theorem twice_any (l : List ByteArray) (ao : Option Addr) (cap : Nat) (w : World) (h : M.HasBy M.LieS w ao l) (hn : M.Short l.length) (hf : ∀ k, k < l.length → M.Short (M.strAt l k).size) :
    Calls Try.prog 27 #[.slice ao l.length cap] w fun e w' => e = .returned (.bool (!M.onceB l)) ∧ Below w.heap.size w w' := by
  unfold M.Short at hn
  have H := hideC h
  have F := hideC hf
  clear h hf
  have hmm := @run_makeMap Try.prog
  go_enter Try.func27, Try.ntmps27
  go_wp2
  go_loopw [9] (fun i wr => ∃ (k : Nat) (D : DataW Unit), k ≤ l.length ∧ i = .int .i64 k ∧ wr.ownsMap Try.prog 9 (plainElem Try.prog 3) w.heap.size k D ∧ Cnt l k D ∧ M.onceTo l k = true ∧ Below w.heap.size w wr) (fun i _ => l.length - (intOf i).toNat)
  case atStart => exact ⟨0, .map [], Nat.zero_le _, rfl, World.ownsMap_made _ _ _ _, cnt_zero l, rfl, (Below.refl _ _).alloc (Nat.le_refl _) _⟩
  case round =>
    obtain ⟨k, D, hk, rfl, hown, hcnt, honce, hb⟩ := hrel
    have HO := hideC honce
    have HC := hideC hcnt
    have HB := hideC hb
    have HW := hideC hown
    clear honce hcnt
    by_cases hlt : k < l.length
    · obtain ⟨b, off, hao, hbl, hl⟩ := H.out (by omega)
      subst hao
      have hli : (k : Int) < (l.length : Int) := by omega
      have c0 := M.lieS hb hbl hl k hlt
      have fs := F.out k hlt
      have HCS := hideC (cnt_step hlt hown.isMap HC.out)
      have HN : Hid (M.onceTo l (k + 1) = !(l.take k).contains (M.strAt l k)) := by show (M.onceTo l k && _) = _; rw [HO.out]; rfl
      have hcx := HC.out (M.strAt l k)
      obtain ⟨s, hs⟩ : ∃ s, s = M.strAt l k := ⟨_, rfl⟩
      rw [← hs] at c0 fs HCS HN hcx
      clear hs hb hl
      have hkey := keyS_ok fs
      obtain ⟨c, hrun, hat, _⟩ := hown.lookup_int law Try.underlying78 Try.underlying3 (zero3 _) hkey
      rw [hcx] at hat
      have hkm : k < maxLen := by unfold maxLen; omega
      cases hc : (l.take k).contains s
      · rw [hc] at hat HN
        have e : c = 0 := by injection hat with hat; injection hat with _ hat; exact hat.symm
        subst e
        clear hat hcx
        go_wp2_with (first | (at_mapUpdate; refine wpList_mapUpdate_own _ rfl _ _ _ 78 rfl 9 3 law Try.underlying78 _ w.heap.size k _ rfl HW.out hkm _ _ _ rfl rfl hkey _ [] (plainElem_int Try.underlying3 (by decide)) ?_) | go_in)
        intro w1 hown1 hgrow1
        have R2 := hideC (HB.out.grown hgrow1 HB.out.size (fun j hj => by cases hj; exact Nat.le_refl _))
        obtain ⟨c, hrun1, hat1, _⟩ := hown1.lookup_int law Try.underlying78 Try.underlying3 (zero3 _) hkey
        rw [atKey_put_same HW.out.isMap (by trivial)] at hat1
        have e : c = 1 := by injection hat1 with hat1; injection hat1 with _ hat1; exact hat1.symm
        subst e
        have HW1 := hideC hown1
        clear hat1 hown hrun hgrow1 hown1
        go_wp2
        go_roundw
        case rel => exact ⟨k + 1, _, by omega, by go_num, HW1.out, HCS.out, HN.out, R2.out⟩
        case measure => simp [intOf]; omega
      · rw [hc] at hat HN
        have e : c = 1 := by injection hat with hat; injection hat with _ hat; exact hat.symm
        subst e
        clear hat hcx
        have HR := hideC (once_mono l (k + 1) l.length HN.out hlt)
        go_wp2_with (first | (at_mapUpdate; refine wpList_mapUpdate_own _ rfl _ _ _ 78 rfl 9 3 law Try.underlying78 _ w.heap.size k _ rfl HW.out hkm _ _ _ rfl rfl hkey _ [] (plainElem_int Try.underlying3 (by decide)) ?_) | go_in)
        intro w1 hown1 hgrow1
        have R2 := hideC (HB.out.grown hgrow1 HB.out.size (fun j hj => by cases hj; exact Nat.le_refl _))
        obtain ⟨c, hrun1, hat1, _⟩ := hown1.lookup_int law Try.underlying78 Try.underlying3 (zero3 _) hkey
        rw [atKey_put_same HW.out.isMap (by trivial)] at hat1
        have e : c = 2 := by injection hat1 with hat1; injection hat1 with _ hat1; exact hat1.symm
        subst e
        clear hat1 hown hrun hgrow1 hown1
        go_wp2
        go_ret
        exact ⟨ret_bool (by unfold M.onceB; rw [HR.out]; rfl), R2.out⟩
    · obtain rfl : k = l.length := by omega
      clear hb
      go_wp2
      go_ret
      exact ⟨ret_bool (by unfold M.onceB; rw [HO.out]; rfl), HB.out⟩
end Go.Proofs.Ytafdgjpmhofinaa.W
