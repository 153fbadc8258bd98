import Derived.Test.YtafdgjpmhofinaaN2
namespace Go.Proofs.Ytafdgjpmhofinaa.W
open Go.RowKit
set_option linter.unusedVariables false

theorem cells_one (w : World) (n : Int) (t : TypeId) : ∀ k, k < [n].length → (w.alloc (.cells #[.int .i64 n] t)).cell? ⟨w.heap.size, 0 + k, none⟩ = some (.int .i64 ([n].getD k 0)) := fun k hk => by
  obtain rfl : k = 0 := by simp at hk; omega
  exact B.cell (B.new w #[.int .i64 n] t) 0 rfl
theorem cells_two (w : World) (m n : Int) (t : TypeId) : ∀ k, k < [m, n].length → (w.alloc (.cells #[.int .i64 m, .int .i64 n] t)).cell? ⟨w.heap.size, 0 + k, none⟩ = some (.int .i64 ([m, n].getD k 0)) := fun k hk => by
  have : k = 0 ∨ k = 1 := by simp at hk; omega
  rcases this with rfl | rfl
  · exact B.cell (B.new w #[.int .i64 m, .int .i64 n] t) 0 rfl
  · exact B.cell (B.new w #[.int .i64 m, .int .i64 n] t) 1 rfl
/-- numbers, handed one in a new slice -/
theorem numbers_one (p : Nat) (n : Int) (w : World) (r : Option Nat) (l : List UInt8) (hpen : Pen 44 p w r l) (hlen : l.length ≤ 900000) :
    Calls Try.prog 41 #[.pointer (some ⟨p, 0, none⟩), .slice (some ⟨w.heap.size, 0, none⟩) 1 1] (w.alloc (.cells #[.int .i64 n] 3)) fun e w' => e = .returned (.tuple #[]) ∧ ∃ r', Pen 44 p w' r' (l ++ num8 n) ∧ Frm p w r w' r' := by
  have hp := hpen.lt
  have hA : Below w.heap.size w (w.alloc (.cells #[.int .i64 n] 3)) := (Below.refl _ _).alloc (Nat.le_refl _) _
  have h := numbers_any p [n] w.heap.size 0 1 (w.alloc (.cells #[.int .i64 n] 3)) r l (hpen.keep hA) (by simp; omega) (cells_one w n 3) (by simp) (by omega) (fun e => by have := hpen.row_ge w.heap.size e.symm; omega)
  refine h.mono fun e w' ⟨h1, r', h2, h3⟩ => ⟨h1, r', by simpa using h2, (Frm.ofBelow hA (by omega) r).trans h3⟩
theorem numbers_two (p : Nat) (m n : Int) (w : World) (r : Option Nat) (l : List UInt8) (hpen : Pen 44 p w r l) (hlen : l.length ≤ 900000) :
    Calls Try.prog 41 #[.pointer (some ⟨p, 0, none⟩), .slice (some ⟨w.heap.size, 0, none⟩) 2 2] (w.alloc (.cells #[.int .i64 m, .int .i64 n] 3)) fun e w' => e = .returned (.tuple #[]) ∧ ∃ r', Pen 44 p w' r' (l ++ (num8 m ++ num8 n)) ∧ Frm p w r w' r' := by
  have hp := hpen.lt
  have hA : Below w.heap.size w (w.alloc (.cells #[.int .i64 m, .int .i64 n] 3)) := (Below.refl _ _).alloc (Nat.le_refl _) _
  have h := numbers_any p [m, n] w.heap.size 0 2 (w.alloc (.cells #[.int .i64 m, .int .i64 n] 3)) r l (hpen.keep hA) (by simp; omega) (cells_two w m n 3) (by simp) (by omega) (fun e => by have := hpen.row_ge w.heap.size e.symm; omega)
  refine h.mono fun e w' ⟨h1, r', h2, h3⟩ => ⟨h1, r', by simpa using h2, (Frm.ofBelow hA (by omega) r).trans h3⟩

set_option maxRecDepth 100000 in
set_option maxHeartbeats 1500000 in
theorem text_any (p : Nat) (s : ByteArray) (w : World) (r : Option Nat) (l : List UInt8) (hpen : Pen 44 p w r l) (hlen : l.length ≤ 800000) (hs : s.size ≤ 100000) :
    Calls Try.prog 40 #[.pointer (some ⟨p, 0, none⟩), .string s] w fun e w' => e = .returned (.tuple #[]) ∧ ∃ r', Pen 44 p w' r' (l ++ textL s) ∧ Frm p w r w' r' := by
  obtain ⟨i0, hi, hz0, hz1, hz2⟩ := info_parts V.info5
  have HP := hideC hpen
  have hml : s.size ≤ maxLen := by unfold maxLen; omega
  clear hpen
  go_enter Try.func40, Try.ntmps40
  go_wp2_with (first
    | (go_at_call 41; refine (numbers_one p (s.size : Int) w r l HP.out (by omega)).mono ?_; rintro e w1 ⟨rfl, r1, hp1, hf1⟩; have HP1 := hideC hp1; have HF1 := hideC hf1; obtain ⟨v, h1, h2, h3⟩ := hp1; have HV := hideC h1; have HR := hideC h2; have HO := hideC h3; have hpl := B.isLt h1; have pv := B.cell h1 0 rfl; have hrow : Hid (∀ g, v.ownBlock = some g → p + 1 ≤ g ∧ g < w1.heap.size) := h3.lt; clear h1 h2 h3 hf1)
    | (at_builtin; refine wpList_append_str _ rfl _ _ 42 9 rfl (p + 1) 5 i0 Try.underlying42 Try.underlying9 hi hz0 hz1 hz2 _ _ _ rfl HO.out _ rfl (by rw [List.length_append, num8_length]; omega) (by omega) ?_))
  intro v' w2 hown2 hg2 hl2
  obtain ⟨ao2, n2, c2, hv2⟩ := row_slice hown2
  subst hv2
  have hne : Hid (some p ≠ v.ownBlock) := fun e => by have := hrow.out p e.symm; omega
  have hV2 : w2.heap[p]? = some (.cells #[v] 44 (0, 0)) := (hg2.block p hpl hne.out).trans HV.out
  have pv2 := B.cell hV2 0 rfl
  have pf2 := B.free hV2
  rw [← List.length_append] at hown2
  have HW := hideC (pen_write (l := l ++ num8 (s.size : Int)) (s := s) HV.out (fun g e => (hrow.out g e).1) hown2 hg2 hl2)
  clear hown2 hg2 hl2 hV2 pv
  go_wp2
  go_end0
  refine ⟨rfl, _, ?_, HF1.out.trans (HR.out ▸ HW.out.2)⟩
  have h := HW.out.1
  rw [List.append_assoc] at h
  exact h

theorem below_drew (w : World) : Below w.heap.size w w.drew := ⟨rfl, rfl, rfl, Nat.le_refl _, fun _ _ => rfl⟩
set_option maxRecDepth 100000 in
set_option maxHeartbeats 1500000 in
theorem inkNumber_any (p : Nat) (n : Int) (w : World) (r : Option Nat) (l : List UInt8) (hpen : Pen 54 p w r l) (hlen : l.length ≤ 900000) :
    Calls Try.prog 20 #[.pointer (some ⟨p, 0, none⟩), .int .i64 n] w fun e w' => e = .returned (.tuple #[]) ∧ ∃ r', Pen 54 p w' r' (l ++ num8 n) ∧ Frm p w r w' r' := by
  obtain ⟨i0, hi, hz0, hz1, hz2⟩ := info_parts V.info5
  have HP := hideC hpen
  obtain ⟨v, h1, h2, h3⟩ := hpen
  have HV := hideC h1
  have HR := hideC h2
  have HO := hideC h3
  have hpl := B.isLt h1
  have pv := B.cell h1 0 rfl
  have pf := B.free h1
  have hrow : Hid (∀ g, v.ownBlock = some g → p + 1 ≤ g ∧ g < w.heap.size) := h3.lt
  have hne : Hid (some p ≠ v.ownBlock) := fun e => by have := h3.lt p e.symm; omega
  have hDW := hideC (below_drew w)
  clear h1 h2 h3
  go_enter Try.func20, Try.ntmps20
  go_wp2
  go_region_law (first
    | (refine step_append_str _ rfl _ _ 42 9 rfl (p + 1) 5 i0 Try.underlying42 Try.underlying9 hi hz0 hz1 hz2 _ _ _ rfl (ownsRow_below HO.out HB1.out) _ rfl (by rw [num8_size]; omega) (by omega) ?_; intro v' w2 hown2 hg2 hl2; obtain ⟨ao2, n2, c2, hv2⟩ := row_slice hown2; subst hv2; have hV2 : w2.heap[p]? = some (.cells #[v] 54 (0, 0)) := (hg2.block p hpl1 hne.out).trans HV1.out; have pv2 := B.cell hV2 0 rfl; have pf2 := B.free hV2; have HW := hideC (pen_write (l := l) (s := ⟨(Lib.leBytes 8 (Z.low n)).toArray⟩) HV1.out (fun g e => (hrow.out g e).1) hown2 hg2 hl2); clear hown2 hg2 hl2 hV2)
    | (go_simp; go_at_call 45; refine (V.bytes_any n 8 _ (by omega)).mono ?_; rintro e w1 ⟨rfl, hb1⟩; have HB1 : Hid (Below w.heap.size w w1) := hDW.out.trans hb1; have HV1 := hideC (B.below HV.out HB1.out hpl); have pv1 := B.cell HV1.out 0 rfl; have pf1 := B.free HV1.out; have hpl1 := B.isLt HV1.out; clear hb1; go_simp))
  all_goals
    go_end0
    refine ⟨rfl, _, ?_, HR.out ▸ (Frm.ofBelow HB1.out (by omega) v.ownBlock).trans HW.out.2⟩
    have h := HW.out.1
    rw [num8_data] at h
    exact h

set_option maxRecDepth 100000 in
set_option maxHeartbeats 1500000 in
theorem inkText_any (p : Nat) (s : ByteArray) (w : World) (r : Option Nat) (l : List UInt8) (hpen : Pen 54 p w r l) (hlen : l.length ≤ 800000) (hs : s.size ≤ 100000) :
    Calls Try.prog 19 #[.pointer (some ⟨p, 0, none⟩), .string s] w fun e w' => e = .returned (.tuple #[]) ∧ ∃ r', Pen 54 p w' r' (l ++ textL s) ∧ Frm p w r w' r' := by
  obtain ⟨i0, hi, hz0, hz1, hz2⟩ := info_parts V.info5
  have HP := hideC hpen
  have hml : s.size ≤ maxLen := by unfold maxLen; omega
  clear hpen
  go_enter Try.func19, Try.ntmps19
  go_wp2_with (first
    | (go_at_call 20; refine (inkNumber_any p (s.size : Int) w r l HP.out (by omega)).mono ?_; rintro e w1 ⟨rfl, r1, hp1, hf1⟩; have HP1 := hideC hp1; have HF1 := hideC hf1; obtain ⟨v, h1, h2, h3⟩ := hp1; have HV := hideC h1; have HR := hideC h2; have HO := hideC h3; have hpl := B.isLt h1; have pv := B.cell h1 0 rfl; have hrow : Hid (∀ g, v.ownBlock = some g → p + 1 ≤ g ∧ g < w1.heap.size) := h3.lt; clear h1 h2 h3 hf1)
    | (at_builtin; refine wpList_append_str _ rfl _ _ 42 9 rfl (p + 1) 5 i0 Try.underlying42 Try.underlying9 hi hz0 hz1 hz2 _ _ _ rfl HO.out _ rfl (by rw [List.length_append, num8_length]; omega) (by omega) ?_))
  intro v' w2 hown2 hg2 hl2
  obtain ⟨ao2, n2, c2, hv2⟩ := row_slice hown2
  subst hv2
  have hne : Hid (some p ≠ v.ownBlock) := fun e => by have := hrow.out p e.symm; omega
  have hV2 : w2.heap[p]? = some (.cells #[v] 54 (0, 0)) := (hg2.block p hpl hne.out).trans HV.out
  have pv2 := B.cell hV2 0 rfl
  have pf2 := B.free hV2
  rw [← List.length_append] at hown2
  have HW := hideC (pen_write (l := l ++ num8 (s.size : Int)) (s := s) HV.out (fun g e => (hrow.out g e).1) hown2 hg2 hl2)
  clear hown2 hg2 hl2 hV2 pv
  go_wp2
  go_end0
  refine ⟨rfl, _, ?_, HF1.out.trans (HR.out ▸ HW.out.2)⟩
  have h := HW.out.1
  rw [List.append_assoc] at h
  exact h


theorem inkTruth_any (p : Nat) (b : Bool) (w : World) (r : Option Nat) (l : List UInt8) (hpen : Pen 54 p w r l) (hlen : l.length ≤ 900000) :
    Calls Try.prog 21 #[.pointer (some ⟨p, 0, none⟩), .bool b] w fun e w' => e = .returned (.tuple #[]) ∧ ∃ r', Pen 54 p w' r' (l ++ num8 (flagN b)) ∧ Frm p w r w' r' := by
  have HP := hideC hpen
  clear hpen
  cases b
  · go_enter Try.func21, Try.ntmps21
    go_wp2_with (go_at_call 20; refine (inkNumber_any p 0 w r l HP.out hlen).mono ?_; rintro e w1 ⟨rfl, hh⟩; have HH := hideC hh; clear hh)
    go_end0
    exact ⟨rfl, HH.out⟩
  · go_enter Try.func21, Try.ntmps21
    go_wp2_with (go_at_call 20; refine (inkNumber_any p 1 w r l HP.out hlen).mono ?_; rintro e w1 ⟨rfl, hh⟩; have HH := hideC hh; clear hh)
    go_end0
    exact ⟨rfl, HH.out⟩
end Go.Proofs.Ytafdgjpmhofinaa.W
