import Derived.Test.YtafdgjpmhofinaaN1
namespace Go.Proofs.Ytafdgjpmhofinaa.W
open Go.RowKit
set_option linter.unusedVariables false

theorem flag_any (b : Bool) (w : World) : Calls Try.prog 42 #[.bool b] w fun e w' => e = .returned (.int .i64 (flagN b)) ∧ w = w' := by
  cases b
  · go_enter Try.func42, Try.ntmps42
    go_wp2
    go_ret
    exact ⟨rfl, rfl⟩
  · go_enter Try.func42, Try.ntmps42
    go_wp2
    go_ret
    exact ⟨rfl, rfl⟩

theorem row_slice {w : World} {base : Nat} {e : TypeId} {size : Nat} {v : Value} {n : Nat} {xs : List Value} (h : w.ownsRow base e size v n xs) : ∃ ao m c, v = .slice ao m c := by
  rcases h.2 with ⟨hv, _⟩ | ⟨g, cap, cur, hv, _⟩
  · exact ⟨none, 0, 0, hv⟩
  · exact ⟨_, _, _, hv⟩
theorem take_flat {α : Type} (f : α → List UInt8) (l : List α) (k : Nat) (d : α) (h : k < l.length) : (l.take (k + 1)).flatMap f = (l.take k).flatMap f ++ f (l.getD k d) := by
  rw [List.take_add_one, List.getElem?_eq_getElem h, List.flatMap_append, List.getD_eq_getElem?_getD, List.getElem?_eq_getElem h]
  simp
theorem num8_data (n : Int) : (⟨(Lib.leBytes 8 (Z.low n)).toArray⟩ : ByteArray).data.toList = num8 n := by unfold num8; simp
theorem num8_size (n : Int) : (⟨(Lib.leBytes 8 (Z.low n)).toArray⟩ : ByteArray).size = 8 := by
  rw [Lib.size_eq, num8_data, num8_length]

set_option maxRecDepth 100000 in
set_option maxHeartbeats 1500000 in
theorem numbers_any (p : Nat) (ms : List Int) (b off cap : Nat) (w : World) (r : Option Nat) (l : List UInt8) (hpen : Pen 44 p w r l) (hlen : l.length + 8 * ms.length ≤ 1000000) (hms : ∀ k, k < ms.length → w.cell? ⟨b, off + k, none⟩ = some (.int .i64 (ms.getD k 0)))
    (hb : b < w.heap.size) (hbp : b ≠ p) (hbr : some b ≠ r) :
    Calls Try.prog 41 #[.pointer (some ⟨p, 0, none⟩), .slice (some ⟨b, off, none⟩) ms.length cap] w fun e w' => e = .returned (.tuple #[]) ∧ ∃ r', Pen 44 p w' r' (l ++ ms.flatMap num8) ∧ Frm p w r w' r' := by
  obtain ⟨i0, hi, hz0, hz1, hz2⟩ := info_parts V.info5
  have HM := hideC hms
  have HP := hideC hpen
  clear hms hpen
  go_enter Try.func41, Try.ntmps41
  go_wp2
  go_loopw [10] (fun i wr => ∃ k : Nat, k ≤ ms.length ∧ i = .int .i64 k ∧ ∃ r', Pen 44 p wr r' (l ++ (ms.take k).flatMap num8) ∧ Frm p w r wr r') (fun i _ => ms.length - (intOf i).toNat)
  case atStart => exact ⟨0, by omega, rfl, r, by simpa using HP.out, Frm.refl _ _ _⟩
  case round =>
    obtain ⟨k, hk, rfl, r', hpen, hfrm⟩ := hrel
    have HF := hideC hfrm
    have HPN := hideC hpen
    by_cases hlt : k < ms.length
    · have hli : (k : Int) < (ms.length : Int) := by omega
      have c0 : wr.cell? ⟨b, off + k, none⟩ = some (.int .i64 (ms.getD k 0)) := by
        rw [← HM.out k hlt]
        exact World.cell?_of_block (hfrm.block b hb hbp hbr)
      have HT := hideC (take_flat num8 ms k 0 hlt)
      have hll : (l ++ (ms.take k).flatMap num8).length = l.length + 8 * k := by
        rw [List.length_append]
        congr 1
        clear HT c0 hli HPN HF hpen hfrm
        induction k with
        | zero => simp
        | succ k ih => rw [take_flat num8 ms k 0 (by omega), List.length_append, num8_length, ih (by omega) (by omega)]; omega
      obtain ⟨m, hm⟩ : ∃ m, m = ms.getD k 0 := ⟨_, rfl⟩
      rw [← hm] at c0 HT
      obtain ⟨L, hL⟩ : ∃ L, L = l ++ (ms.take k).flatMap num8 := ⟨_, rfl⟩
      rw [← hL] at hpen hll HPN
      have HLEN := hideC hll
      clear hll
      have HLL := hideC hL
      clear hm hL hfrm
      obtain ⟨v, h1, h2, h3⟩ := hpen
      have HV := hideC h1
      have HO := hideC h3
      have HR := hideC h2
      have hpl := B.isLt h1
      have hrow : Hid (∀ g, v.ownBlock = some g → p + 1 ≤ g ∧ g < wr.heap.size) := h3.lt
      clear h1 h2 h3
      go_wp2_with (first
        | (go_at_call 59; refine (V.put_yes m 8 _ (by omega) (by omega)).mono ?_; rintro e w1 ⟨rfl, hb1⟩; have HB1 := hideC hb1; have pv := B.cell (B.below HV.out hb1 hpl) 0 rfl; have pf := B.free (B.below HV.out hb1 hpl); have hpl1 := B.isLt (B.below HV.out hb1 hpl); clear hb1)
        | (at_builtin; refine wpList_append_str _ rfl _ _ 42 9 rfl (p + 1) 5 i0 Try.underlying42 Try.underlying9 hi hz0 hz1 hz2 _ _ _ rfl (ownsRow_below HO.out HB1.out) _ rfl (by rw [num8_size, HLEN.out]; omega) (by omega) ?_))
      intro v' w2 hown2 hg2 hl2
      obtain ⟨ao2, n2, c2, hv2⟩ := row_slice hown2
      subst hv2
      have HV1 := hideC (B.below HV.out HB1.out hpl)
      have hne : Hid (some p ≠ v.ownBlock) := fun e => by have := hrow.out p e.symm; omega
      have hV2 : w2.heap[p]? = some (.cells #[v] 44 (0, 0)) := (hg2.block p hpl1 hne.out).trans HV1.out
      have pv2 := B.cell hV2 0 rfl
      have pf2 := B.free hV2
      have HW := hideC (pen_write (l := L) (s := ⟨(Lib.leBytes 8 (Z.low m)).toArray⟩) HV1.out (fun g e => (hrow.out g e).1) hown2 hg2 hl2)
      have HFB := hideC (Frm.ofBelow (p := p) HB1.out (by omega) v.ownBlock)
      clear hown2 hg2 hl2 hV2 pv pf
      go_wp2
      go_roundw
      case rel =>
        refine ⟨k + 1, by omega, by go_num, _, ?_, HF.out.trans ((HR.out ▸ HFB.out).trans (HR.out ▸ HW.out.2))⟩
        have h := HW.out.1
        rw [num8_data, HLL.out, List.append_assoc] at h
        rw [HT.out]
        exact h
      case measure => simp [intOf]; omega
    · obtain rfl : k = ms.length := by omega
      go_wp2
      go_end0
      refine ⟨rfl, r', ?_, HF.out⟩
      have h := HPN.out
      rw [List.take_length] at h
      exact h
end Go.Proofs.Ytafdgjpmhofinaa.W
