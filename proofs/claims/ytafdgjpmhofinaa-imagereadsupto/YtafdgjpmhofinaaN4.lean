import Derived.Test.YtafdgjpmhofinaaN3
namespace Go.Proofs.Ytafdgjpmhofinaa.W
open Go.RowKit
set_option linter.unusedVariables false

theorem numbers_one' (p : Nat) (n : Int) (w : World) (H : Nat) (hH : w.heap.size = H) (r : Option Nat) (l : List UInt8) (hpen : Pen 44 p w r l) (hlen : l.length ≤ 900000) :
    Calls Try.prog 41 #[.pointer (some ⟨p, 0, none⟩), .slice (some ⟨H, 0, none⟩) 1 1] (w.alloc (.cells #[.int .i64 n] 3)) fun e w' => e = .returned (.tuple #[]) ∧ ∃ r', Pen 44 p w' r' (l ++ num8 n) ∧ Frm p w r w' r' := by
  subst hH
  exact numbers_one p n w r l hpen hlen
theorem numbers_two' (p : Nat) (m n : Int) (w : World) (H : Nat) (hH : w.heap.size = H) (r : Option Nat) (l : List UInt8) (hpen : Pen 44 p w r l) (hlen : l.length ≤ 900000) :
    Calls Try.prog 41 #[.pointer (some ⟨p, 0, none⟩), .slice (some ⟨H, 0, none⟩) 2 2] (w.alloc (.cells #[.int .i64 m, .int .i64 n] 3)) fun e w' => e = .returned (.tuple #[]) ∧ ∃ r', Pen 44 p w' r' (l ++ (num8 m ++ num8 n)) ∧ Frm p w r w' r' := by
  subst hH
  exact numbers_two p m n w r l hpen hlen
/-- what Check takes is small -/
structure Small (i : M.Im) : Prop where
  name : i.name.size ≤ 12
  needs : i.needs.length ≤ 4
  need : ∀ k, k < i.needs.length → (M.strAt i.needs k).size ≤ 12
  segs : i.segs.length ≤ 6
  seg : ∀ k, k < i.segs.length → (M.sgAt i.segs k).data.size ≤ 4080
  syms : i.syms.length ≤ 12
  sym : ∀ k, k < i.syms.length → (M.syAt i.syms k).name.size ≤ 12
  rels : i.rels.length ≤ 16
  rel : ∀ k, k < i.rels.length → (M.rlAt i.rels k).name.size ≤ 12
theorem nameB_size {s : ByteArray} (h : M.nameB s = true) : s.size ≤ 12 := by
  unfold M.nameB at h
  rw [Bool.and_eq_true] at h
  exact (of_decide_eq_true h.1).2
theorem chk_parts {i : M.Im} (h : M.chkN i = 0) : M.namesB i = true ∧ M.countsB i = true ∧ M.rangesB i = true ∧ M.thereB i = true ∧ M.placesB i = true := by
  unfold M.chkN at h
  cases h1 : M.namesB i
  · rw [h1] at h; simp at h
  · cases h2 : M.countsB i
    · rw [h1, h2] at h; simp at h
    · cases h3 : M.rangesB i
      · rw [h1, h2, h3] at h; simp at h
      · cases h4 : M.thereB i
        · rw [h1, h2, h3, h4] at h; simp at h
        · cases h5 : M.placesB i
          · rw [h1, h2, h3, h4, h5] at h; simp at h
          · exact ⟨rfl, rfl, rfl, rfl, rfl⟩
theorem chk_small {i : M.Im} (h : M.chkN i = 0) : Small i := by
  obtain ⟨h1, h2, h3, _, _⟩ := chk_parts h
  unfold M.namesB at h1
  simp only [Bool.and_eq_true] at h1
  obtain ⟨n1, n2, n3, n4⟩ := h1
  obtain ⟨c1, c2, c3, c4, c5⟩ := of_decide_eq_true h2
  refine ⟨nameB_size n1, c3, fun k hk => nameB_size (M.all_at M.nameB M.nil i.needs k hk n2), c2, fun k hk => ?_, c4, fun k hk => nameB_size (M.all_at (fun y => M.nameB y.name) M.sy0 i.syms k hk n3), c5, fun k hk => ?_⟩
  · have := range_at h3 k hk
    omega
  · have := M.all_at M.relNameB M.rl0 i.rels k hk n4
    unfold M.relNameB at this
    rw [Bool.or_eq_true] at this
    rcases this with g | g
    · have := of_decide_eq_true g
      have e : i.rels.getD k M.rl0 = M.rlAt i.rels k := rfl
      rw [e] at this
      omega
    · exact nameB_size g
theorem len_text {l : List UInt8} {s : ByteArray} {a b : Nat} (h : l.length ≤ a) (g : s.size ≤ b) : (l ++ textL s).length ≤ a + (8 + b) := by
  rw [List.length_append, textL_length]; omega
theorem len_num {t : TypeId} {p : Nat} {w : World} {r : Option Nat} {l : List UInt8} {n : Int} {a : Nat} (_ : Pen t p w r (l ++ num8 n)) (h : l.length ≤ a) : (l ++ num8 n).length ≤ a + 8 := by
  rw [List.length_append, num8_length]; omega
theorem len_two {t : TypeId} {p : Nat} {w : World} {r : Option Nat} {l : List UInt8} {m n : Int} {a : Nat} (_ : Pen t p w r (l ++ (num8 m ++ num8 n))) (h : l.length ≤ a) : (l ++ (num8 m ++ num8 n)).length ≤ a + 16 := by
  rw [List.length_append, List.length_append, num8_length, num8_length]; omega
theorem flat_len {α : Type} (f : α → List UInt8) (l : List α) (d : α) (c : Nat) (h : ∀ j, j < l.length → (f (l.getD j d)).length ≤ c) : ∀ k, k ≤ l.length → ((l.take k).flatMap f).length ≤ c * k
  | 0, _ => by simp
  | k + 1, hk => by
    rw [take_flat f l k d (by omega), List.length_append]
    have := flat_len f l d c h k (by omega)
    have := h k (by omega)
    rw [Nat.mul_succ]
    omega
theorem len_flat {α : Type} {P : List UInt8} {a : Nat} (f : α → List UInt8) (l : List α) (d : α) (c n : Nat) (hP : P.length ≤ a) (h : ∀ j, j < l.length → (f (l.getD j d)).length ≤ c) (hn : l.length ≤ n) (k : Nat) (hk : k ≤ l.length) : (P ++ (l.take k).flatMap f).length ≤ a + c * n := by
  rw [List.length_append]
  have := flat_len f l d c h k hk
  have : c * k ≤ c * n := Nat.mul_le_mul_left c (by omega)
  omega
theorem segL_len {g : M.Sg} (h : g.data.size ≤ 4080) : (segL g).length ≤ 4120 := by
  unfold segL
  simp only [List.length_append, num8_length, textL_length]
  omega
theorem symL_len {g : M.Sy} (h : g.name.size ≤ 12) : (symL g).length ≤ 28 := by
  unfold symL
  simp only [List.length_append, num8_length, textL_length]
  omega
theorem relL_len {g : M.Rl} (h : g.name.size ≤ 12) : (relL g).length ≤ 36 := by
  unfold relL
  simp only [List.length_append, num8_length, textL_length]
  omega

set_option maxRecDepth 100000 in
set_option maxHeartbeats 1200000 in
theorem image_any (i : M.Im) (a : M.At) (w0 w : World) (p : Nat) (h : M.HasIm w0 a i) (hsm : Small i) (hw : Below w0.heap.size w0 w) (hp : w0.heap.size ≤ p) (hpen : Pen 44 p w none []) :
    Calls Try.prog 14 #[.pointer (some ⟨p, 0, none⟩), .agg (M.cellsI a i)] w fun e w' => e = .returned (.tuple #[]) ∧ ∃ r, Pen 44 p w' r (bytesL i) ∧ Below p w w' := by
  obtain ⟨an, cn, ag, cg, ay, cy, ar, cr⟩ := a
  obtain ⟨nm, ns, gs, ys, rs, en⟩ := i
  obtain ⟨z1, z2, z3, z4, z5, z6, z7, z8, z9⟩ := hsm
  simp only at z1 z2 z3 z4 z5 z6 z7 z8 z9
  have HI := hideC h
  have HWW := hideC hw
  have Z3 := hideC z3
  have Z5 := hideC z5
  have Z7 := hideC z7
  have Z9 := hideC z9
  have hml : nm.size ≤ maxLen := by unfold maxLen; omega
  clear h hw z3 z5 z7 z9
  simp only [M.cellsI]
  have hpl := hpen.lt
  have BOX := hideC (B.new w #[.string nm, .slice an ns.length cn, .slice ag gs.length cg, .slice ay ys.length cy, .slice ar rs.length cr, .int .i64 en] 27)
  have HB0 := hideC ((Below.refl w.heap.size w).alloc (Nat.le_refl _) (.cells #[.string nm, .slice an ns.length cn, .slice ag gs.length cg, .slice ay ys.length cy, .slice ar rs.length cr, .int .i64 en] 27))
  have HP : Hid (Pen 44 p (w.alloc (.cells #[.string nm, .slice an ns.length cn, .slice ag gs.length cg, .slice ay ys.length cy, .slice ar rs.length cr, .int .i64 en] 27)) none []) := hpen.keep HB0.out
  have HF : Hid (Frm p (w.alloc (.cells #[.string nm, .slice an ns.length cn, .slice ag gs.length cg, .slice ay ys.length cy, .slice ar rs.length cr, .int .i64 en] 27)) none (w.alloc (.cells #[.string nm, .slice an ns.length cn, .slice ag gs.length cg, .slice ay ys.length cy, .slice ar rs.length cr, .int .i64 en] 27)) none) := Frm.refl _ _ _
  have HLEN : Hid (([] : List UInt8).length ≤ 0) := Nat.le_refl 0
  have hqp : w.heap.size ≠ p := by omega
  obtain ⟨X, hX⟩ : ∃ X : Array Value, X = #[.string nm, .slice an ns.length cn, .slice ag gs.length cg, .slice ay ys.length cy, .slice ar rs.length cr, .int .i64 en] := ⟨_, rfl⟩
  have HX := hideC hX
  rw [← hX] at BOX HB0 HP HF
  clear hX hpen
  go_enter Try.func14, Try.ntmps14
  have HBW : Hid (∀ W r', Frm p (w.alloc (.cells X 27)) none W r' → Below w0.heap.size w0 W) := fun W r' hf => (HWW.out.trans (HB0.out.mono HWW.out.size)).trans (hf.below.mono hp)
  go_wp2_with (first | (rw [← HX.out]; (go_at_call 40; refine (text_any p _ _ _ _ HP.out (by have := HLEN.out; omega) (by omega)).mono ?_; rintro e w' ⟨rfl, r', hp', hf'⟩; have HF := hideC (HF.out.trans hf'); have HP := hideC hp'; have BX := hideC ((HF.out.block w.heap.size (by simp) hqp (by simp)).trans BOX.out); have q0 := B.cell BX.out 0 (by rw [HX.out]; rfl); have q1 := B.cell BX.out 1 (by rw [HX.out]; rfl); have q2 := B.cell BX.out 2 (by rw [HX.out]; rfl); have q3 := B.cell BX.out 3 (by rw [HX.out]; rfl); have q4 := B.cell BX.out 4 (by rw [HX.out]; rfl); have q5 := B.cell BX.out 5 (by rw [HX.out]; rfl); clear hp' hf'; have HLEN := hideC (len_text HLEN.out z1))) | (go_at_call 41; refine (numbers_one' p _ _ _ (by simp) _ _ HP.out (by have := HLEN.out; omega)).mono ?_; rintro e w' ⟨rfl, r', hp', hf'⟩; have HF := hideC (HF.out.trans hf'); have HP := hideC hp'; have BX := hideC ((HF.out.block w.heap.size (by simp) hqp (by simp)).trans BOX.out); have q0 := B.cell BX.out 0 (by rw [HX.out]; rfl); have q1 := B.cell BX.out 1 (by rw [HX.out]; rfl); have q2 := B.cell BX.out 2 (by rw [HX.out]; rfl); have q3 := B.cell BX.out 3 (by rw [HX.out]; rfl); have q4 := B.cell BX.out 4 (by rw [HX.out]; rfl); have q5 := B.cell BX.out 5 (by rw [HX.out]; rfl); clear hp' hf'; have HLEN := hideC (len_num HP.out HLEN.out)))
  obtain ⟨P0, hP0⟩ : ∃ P, P = ([] : List UInt8) ++ textL nm ++ num8 (ns.length : Int) := ⟨_, rfl⟩
  have HPE0 := hideC hP0
  rw [← hP0] at HP HLEN
  have HLP0 := hideC (Nat.le_trans HLEN.out (show _ ≤ 28 by omega))
  clear hP0 HLEN
  have HLK0 : Hid (∀ k, k ≤ ns.length → (P0 ++ (ns.take k).flatMap textL).length ≤ 28 + 20 * 4) := fun k hk => len_flat textL ns M.nil 20 4 HLP0.out (fun j hj => by rw [textL_length]; have := Z3.out j hj; unfold M.strAt at this; omega) z2 k hk
  go_loopw [25] (fun i wr => ∃ k : Nat, k ≤ ns.length ∧ i = .int .i64 k ∧ ∃ r', Pen 44 p wr r' (P0 ++ (ns.take k).flatMap textL) ∧ Frm p (w.alloc (.cells X 27)) none wr r') (fun i _ => ns.length - (intOf i).toNat)
  case atStart => exact ⟨0, by omega, rfl, _, by simpa using HP.out, HF.out⟩
  case round =>
    clear q0 q1 q2 q3 q4 q5 HP HF BX
    obtain ⟨k, hk, rfl, r', hpen, hfrm⟩ := hrel
    have HP := hideC hpen
    have HF := hideC hfrm
    have HLEN := hideC (HLK0.out k hk)
    have hpw := hpen.lt
    have hrow : Hid (∀ g, r' = some g → p + 1 ≤ g ∧ g < wr.heap.size) := hpen.row_ge
    clear hpen hfrm
    by_cases hlt : k < ns.length
    · obtain ⟨b, off, hao, hbl, hl⟩ := HI.out.needs (show 0 < ns.length by omega)
      simp only at hao
      subst hao
      have hli : (k : Int) < (ns.length : Int) := by omega
      have HT := hideC (take_flat textL ns k M.nil hlt)
      have c0 := M.lieS (HBW.out _ _ HF.out) hbl hl k hlt
      have sz := Z3.out k hlt
      obtain ⟨x, hx⟩ : ∃ x, x = M.strAt ns k := ⟨_, rfl⟩
      have HT : Hid ((ns.take (k + 1)).flatMap textL = (ns.take k).flatMap textL ++ textL (M.strAt ns k)) := HT.out
      rw [← hx] at c0 sz HT
      have hmx : x.size ≤ maxLen := by unfold maxLen; omega
      clear hx hl
      go_wp2_with (go_at_call 40; refine (text_any p _ _ _ _ HP.out (by have := HLEN.out; omega) (by omega)).mono ?_; rintro e w' ⟨rfl, r', hp', hf'⟩; have HF := hideC (HF.out.trans hf'); have HP := hideC hp'; skip; clear hp' hf'; have HLEN := hideC (len_text HLEN.out sz))
      go_roundw
      case rel => exact ⟨k + 1, by omega, by go_num, _, by rw [HT.out, ← List.append_assoc]; exact HP.out, HF.out⟩
      case measure => simp [intOf]; omega
    · obtain rfl : k = ns.length := by omega
      have BX := hideC ((HF.out.block w.heap.size (by simp) hqp (by simp)).trans BOX.out)
      have q0 := B.cell BX.out 0 (by rw [HX.out]; rfl)
      have q1 := B.cell BX.out 1 (by rw [HX.out]; rfl)
      have q2 := B.cell BX.out 2 (by rw [HX.out]; rfl)
      have q3 := B.cell BX.out 3 (by rw [HX.out]; rfl)
      have q4 := B.cell BX.out 4 (by rw [HX.out]; rfl)
      have q5 := B.cell BX.out 5 (by rw [HX.out]; rfl)
      rw [List.take_length] at HP HLEN
      go_wp2_with (go_at_call 41; refine (numbers_one' p _ _ _ (by simp) _ _ HP.out (by have := HLEN.out; omega)).mono ?_; rintro e w' ⟨rfl, r', hp', hf'⟩; have HF := hideC (HF.out.trans hf'); have HP := hideC hp'; have BX := hideC ((HF.out.block w.heap.size (by simp) hqp (by simp)).trans BOX.out); have q0 := B.cell BX.out 0 (by rw [HX.out]; rfl); have q1 := B.cell BX.out 1 (by rw [HX.out]; rfl); have q2 := B.cell BX.out 2 (by rw [HX.out]; rfl); have q3 := B.cell BX.out 3 (by rw [HX.out]; rfl); have q4 := B.cell BX.out 4 (by rw [HX.out]; rfl); have q5 := B.cell BX.out 5 (by rw [HX.out]; rfl); clear hp' hf'; have HLEN := hideC (len_num HP.out HLEN.out))
      obtain ⟨P1, hP1⟩ : ∃ P, P = P0 ++ ns.flatMap textL ++ num8 (gs.length : Int) := ⟨_, rfl⟩
      have HPE1 := hideC hP1
      rw [← hP1] at HP HLEN
      have HLP1 := hideC (Nat.le_trans HLEN.out (show _ ≤ 116 by omega))
      clear hP1 HLEN
      have HLK1 : Hid (∀ k, k ≤ gs.length → (P1 ++ (gs.take k).flatMap segL).length ≤ 116 + 4120 * 6) := fun k hk => len_flat segL gs M.sg0 4120 6 HLP1.out (fun j hj => segL_len (Z5.out j hj)) z4 k hk
      go_loopw [42] (fun i wr => ∃ k : Nat, k ≤ gs.length ∧ i = .int .i64 k ∧ ∃ r', Pen 44 p wr r' (P1 ++ (gs.take k).flatMap segL) ∧ Frm p (w.alloc (.cells X 27)) none wr r') (fun i _ => gs.length - (intOf i).toNat)
      case atStart => exact ⟨0, by omega, rfl, _, by simpa using HP.out, HF.out⟩
      case round =>
        clear q0 q1 q2 q3 q4 q5 HP HF BX
        obtain ⟨k, hk, rfl, r', hpen, hfrm⟩ := hrel
        have HP := hideC hpen
        have HF := hideC hfrm
        have HLEN := hideC (HLK1.out k hk)
        have hpw := hpen.lt
        have hrow : Hid (∀ g, r' = some g → p + 1 ≤ g ∧ g < wr.heap.size) := hpen.row_ge
        clear hpen hfrm
        by_cases hlt : k < gs.length
        · obtain ⟨b, off, hao, hbl, hl⟩ := HI.out.segs (show 0 < gs.length by omega)
          simp only at hao
          subst hao
          have hli : (k : Int) < (gs.length : Int) := by omega
          have HT := hideC (take_flat segL gs k M.sg0 hlt)
          obtain ⟨c0, c1, c2, c3, c4⟩ := M.lieG (HBW.out _ _ HF.out) hbl hl k hlt
          have sz := Z5.out k hlt
          have HT : Hid ((gs.take (k + 1)).flatMap segL = (gs.take k).flatMap segL ++ segL (M.sgAt gs k)) := HT.out
          obtain ⟨y, hx⟩ : ∃ y, y = M.sgAt gs k := ⟨_, rfl⟩
          rw [← hx] at c0 c1 c2 c3 c4 sz HT
          obtain ⟨sp, sn, x, sx, sy⟩ := y
          simp only at c0 c1 c2 c3 c4 sz
          have hmx : x.size ≤ maxLen := by unfold maxLen; omega
          clear hx hl
          have HBA := hideC ((Below.refl wr.heap.size wr).alloc (Nat.le_refl _) (.cells #[.int .i64 sp, .int .i64 sn, .string x, .bool sx, .bool sy] 48))
          have HP : Hid (Pen 44 p (wr.alloc (.cells #[.int .i64 sp, .int .i64 sn, .string x, .bool sx, .bool sy] 48)) r' (P1 ++ (gs.take k).flatMap segL)) := HP.out.keep HBA.out
          have HF := hideC (HF.out.trans (Frm.ofBelow HBA.out (by omega) r'))
          have EB := hideC (B.new wr #[.int .i64 sp, .int .i64 sn, .string x, .bool sx, .bool sy] 48)
          have HE : Hid (Frm p (wr.alloc (.cells #[.int .i64 sp, .int .i64 sn, .string x, .bool sx, .bool sy] 48)) r' (wr.alloc (.cells #[.int .i64 sp, .int .i64 sn, .string x, .bool sx, .bool sy] 48)) r') := Frm.refl _ _ _
          have hes : wr.heap.size ≠ p := by omega
          have her : Hid (some wr.heap.size ≠ r') := fun e => by have := hrow.out _ e.symm; omega
          go_wp2_with (first | (go_at_call 41; refine (numbers_two' p _ _ _ _ (by simp) _ _ HP.out (by have := HLEN.out; omega)).mono ?_; rintro e w' ⟨rfl, r', hp', hf'⟩; have HF := hideC (HF.out.trans hf'); have HP := hideC hp'; have HE := hideC (HE.out.trans hf'); have EX := hideC ((HE.out.block wr.heap.size (by simp) hes her.out).trans EB.out); have y0 := B.cell EX.out 0 rfl; have y1 := B.cell EX.out 1 rfl; have y2 := B.cell EX.out 2 rfl; have y3 := B.cell EX.out 3 rfl; have y4 := B.cell EX.out 4 rfl; clear hp' hf'; have HLEN := hideC (len_two HP.out HLEN.out)) | (go_at_call 40; refine (text_any p _ _ _ _ HP.out (by have := HLEN.out; omega) (by omega)).mono ?_; rintro e w' ⟨rfl, r', hp', hf'⟩; have HF := hideC (HF.out.trans hf'); have HP := hideC hp'; have HE := hideC (HE.out.trans hf'); have EX := hideC ((HE.out.block wr.heap.size (by simp) hes her.out).trans EB.out); have y0 := B.cell EX.out 0 rfl; have y1 := B.cell EX.out 1 rfl; have y2 := B.cell EX.out 2 rfl; have y3 := B.cell EX.out 3 rfl; have y4 := B.cell EX.out 4 rfl; clear hp' hf'; have HLEN := hideC (len_text HLEN.out sz)))
          have HBD := hideC (below_drew w')
          have HPD := hideC (HP.out.keep HBD.out)
          have HFD := hideC (HF.out.trans (Frm.ofBelow HBD.out (by have := HP.out.lt; omega) _))
          go_region_law (first | (go_simp; go_at_call 42; refine (flag_any _ _).mono ?_; rintro e w'' ⟨rfl, rfl⟩; go_simp) | (go_simp; go_at_call 41; refine (numbers_two' p (flagN sx) (flagN sy) _ _ (by simp) _ _ HPD.out (by have := HLEN.out; omega)).mono ?_; rintro e w4 ⟨rfl, r4, hp4, hf4⟩; have HP4 := hideC hp4; have HF4 := hideC (HFD.out.trans hf4); clear hp4 hf4; go_simp))
          all_goals
            go_wp2
            go_roundw
            case rel => exact ⟨k + 1, by omega, by go_num, _, by rw [HT.out, show segL ⟨sp, sn, x, sx, sy⟩ = num8 sp ++ (num8 sn ++ (textL x ++ (num8 (flagN sx) ++ num8 (flagN sy)))) from rfl]; have h := HP4.out; simpa only [List.append_assoc] using h, HF4.out⟩
            case measure => simp [intOf]; omega
        · obtain rfl : k = gs.length := by omega
          have BX := hideC ((HF.out.block w.heap.size (by simp) hqp (by simp)).trans BOX.out)
          have q0 := B.cell BX.out 0 (by rw [HX.out]; rfl)
          have q1 := B.cell BX.out 1 (by rw [HX.out]; rfl)
          have q2 := B.cell BX.out 2 (by rw [HX.out]; rfl)
          have q3 := B.cell BX.out 3 (by rw [HX.out]; rfl)
          have q4 := B.cell BX.out 4 (by rw [HX.out]; rfl)
          have q5 := B.cell BX.out 5 (by rw [HX.out]; rfl)
          rw [List.take_length] at HP HLEN
          go_wp2_with (go_at_call 41; refine (numbers_one' p _ _ _ (by simp) _ _ HP.out (by have := HLEN.out; omega)).mono ?_; rintro e w' ⟨rfl, r', hp', hf'⟩; have HF := hideC (HF.out.trans hf'); have HP := hideC hp'; have BX := hideC ((HF.out.block w.heap.size (by simp) hqp (by simp)).trans BOX.out); have q0 := B.cell BX.out 0 (by rw [HX.out]; rfl); have q1 := B.cell BX.out 1 (by rw [HX.out]; rfl); have q2 := B.cell BX.out 2 (by rw [HX.out]; rfl); have q3 := B.cell BX.out 3 (by rw [HX.out]; rfl); have q4 := B.cell BX.out 4 (by rw [HX.out]; rfl); have q5 := B.cell BX.out 5 (by rw [HX.out]; rfl); clear hp' hf'; have HLEN := hideC (len_num HP.out HLEN.out))
          obtain ⟨P2, hP2⟩ : ∃ P, P = P1 ++ gs.flatMap segL ++ num8 (ys.length : Int) := ⟨_, rfl⟩
          have HPE2 := hideC hP2
          rw [← hP2] at HP HLEN
          have HLP2 := hideC (Nat.le_trans HLEN.out (show _ ≤ 24844 by omega))
          clear hP2 HLEN
          have HLK2 : Hid (∀ k, k ≤ ys.length → (P2 ++ (ys.take k).flatMap symL).length ≤ 24844 + 28 * 12) := fun k hk => len_flat symL ys M.sy0 28 12 HLP2.out (fun j hj => symL_len (Z7.out j hj)) z6 k hk
          go_loopw [76] (fun i wr => ∃ k : Nat, k ≤ ys.length ∧ i = .int .i64 k ∧ ∃ r', Pen 44 p wr r' (P2 ++ (ys.take k).flatMap symL) ∧ Frm p (w.alloc (.cells X 27)) none wr r') (fun i _ => ys.length - (intOf i).toNat)
          case atStart => exact ⟨0, by omega, rfl, _, by simpa using HP.out, HF.out⟩
          case round =>
            clear q0 q1 q2 q3 q4 q5 HP HF BX
            obtain ⟨k, hk, rfl, r', hpen, hfrm⟩ := hrel
            have HP := hideC hpen
            have HF := hideC hfrm
            have HLEN := hideC (HLK2.out k hk)
            have hpw := hpen.lt
            have hrow : Hid (∀ g, r' = some g → p + 1 ≤ g ∧ g < wr.heap.size) := hpen.row_ge
            clear hpen hfrm
            by_cases hlt : k < ys.length
            · obtain ⟨b, off, hao, hbl, hl⟩ := HI.out.syms (show 0 < ys.length by omega)
              simp only at hao
              subst hao
              have hli : (k : Int) < (ys.length : Int) := by omega
              have HT := hideC (take_flat symL ys k M.sy0 hlt)
              obtain ⟨c0, c1⟩ := M.lieY (HBW.out _ _ HF.out) hbl hl k hlt
              have sz := Z7.out k hlt
              have HT : Hid ((ys.take (k + 1)).flatMap symL = (ys.take k).flatMap symL ++ symL (M.syAt ys k)) := HT.out
              obtain ⟨y, hx⟩ : ∃ y, y = M.syAt ys k := ⟨_, rfl⟩
              rw [← hx] at c0 c1 sz HT
              obtain ⟨x, xp⟩ := y
              simp only at c0 c1 sz
              have hmx : x.size ≤ maxLen := by unfold maxLen; omega
              clear hx hl
              have HBA := hideC ((Below.refl wr.heap.size wr).alloc (Nat.le_refl _) (.cells #[.string x, .int .i64 xp] 50))
              have HP : Hid (Pen 44 p (wr.alloc (.cells #[.string x, .int .i64 xp] 50)) r' (P2 ++ (ys.take k).flatMap symL)) := HP.out.keep HBA.out
              have HF := hideC (HF.out.trans (Frm.ofBelow HBA.out (by omega) r'))
              have EB := hideC (B.new wr #[.string x, .int .i64 xp] 50)
              have HE : Hid (Frm p (wr.alloc (.cells #[.string x, .int .i64 xp] 50)) r' (wr.alloc (.cells #[.string x, .int .i64 xp] 50)) r') := Frm.refl _ _ _
              have hes : wr.heap.size ≠ p := by omega
              have her : Hid (some wr.heap.size ≠ r') := fun e => by have := hrow.out _ e.symm; omega
              go_wp2_with (first | (go_at_call 41; refine (numbers_one' p _ _ _ (by simp) _ _ HP.out (by have := HLEN.out; omega)).mono ?_; rintro e w' ⟨rfl, r', hp', hf'⟩; have HF := hideC (HF.out.trans hf'); have HP := hideC hp'; have HE := hideC (HE.out.trans hf'); have EX := hideC ((HE.out.block wr.heap.size (by simp) hes her.out).trans EB.out); have y0 := B.cell EX.out 0 rfl; have y1 := B.cell EX.out 1 rfl; clear hp' hf'; have HLEN := hideC (len_num HP.out HLEN.out)) | (go_at_call 40; refine (text_any p _ _ _ _ HP.out (by have := HLEN.out; omega) (by omega)).mono ?_; rintro e w' ⟨rfl, r', hp', hf'⟩; have HF := hideC (HF.out.trans hf'); have HP := hideC hp'; have HE := hideC (HE.out.trans hf'); have EX := hideC ((HE.out.block wr.heap.size (by simp) hes her.out).trans EB.out); have y0 := B.cell EX.out 0 rfl; have y1 := B.cell EX.out 1 rfl; clear hp' hf'; have HLEN := hideC (len_text HLEN.out sz)))
              go_roundw
              case rel => exact ⟨k + 1, by omega, by go_num, _, by rw [HT.out, show symL ⟨x, xp⟩ = textL x ++ num8 xp from rfl]; have h := HP.out; simpa only [List.append_assoc] using h, HF.out⟩
              case measure => simp [intOf]; omega
            · obtain rfl : k = ys.length := by omega
              have BX := hideC ((HF.out.block w.heap.size (by simp) hqp (by simp)).trans BOX.out)
              have q0 := B.cell BX.out 0 (by rw [HX.out]; rfl)
              have q1 := B.cell BX.out 1 (by rw [HX.out]; rfl)
              have q2 := B.cell BX.out 2 (by rw [HX.out]; rfl)
              have q3 := B.cell BX.out 3 (by rw [HX.out]; rfl)
              have q4 := B.cell BX.out 4 (by rw [HX.out]; rfl)
              have q5 := B.cell BX.out 5 (by rw [HX.out]; rfl)
              rw [List.take_length] at HP HLEN
              go_wp2_with (go_at_call 41; refine (numbers_one' p _ _ _ (by simp) _ _ HP.out (by have := HLEN.out; omega)).mono ?_; rintro e w' ⟨rfl, r', hp', hf'⟩; have HF := hideC (HF.out.trans hf'); have HP := hideC hp'; have BX := hideC ((HF.out.block w.heap.size (by simp) hqp (by simp)).trans BOX.out); have q0 := B.cell BX.out 0 (by rw [HX.out]; rfl); have q1 := B.cell BX.out 1 (by rw [HX.out]; rfl); have q2 := B.cell BX.out 2 (by rw [HX.out]; rfl); have q3 := B.cell BX.out 3 (by rw [HX.out]; rfl); have q4 := B.cell BX.out 4 (by rw [HX.out]; rfl); have q5 := B.cell BX.out 5 (by rw [HX.out]; rfl); clear hp' hf'; have HLEN := hideC (len_num HP.out HLEN.out))
              obtain ⟨P3, hP3⟩ : ∃ P, P = P2 ++ ys.flatMap symL ++ num8 (rs.length : Int) := ⟨_, rfl⟩
              have HPE3 := hideC hP3
              rw [← hP3] at HP HLEN
              have HLP3 := hideC (Nat.le_trans HLEN.out (show _ ≤ 25188 by omega))
              clear hP3 HLEN
              have HLK3 : Hid (∀ k, k ≤ rs.length → (P3 ++ (rs.take k).flatMap relL).length ≤ 25188 + 36 * 16) := fun k hk => len_flat relL rs M.rl0 36 16 HLP3.out (fun j hj => relL_len (Z9.out j hj)) z8 k hk
              go_loopw [99] (fun i wr => ∃ k : Nat, k ≤ rs.length ∧ i = .int .i64 k ∧ ∃ r', Pen 44 p wr r' (P3 ++ (rs.take k).flatMap relL) ∧ Frm p (w.alloc (.cells X 27)) none wr r') (fun i _ => rs.length - (intOf i).toNat)
              case atStart => exact ⟨0, by omega, rfl, _, by simpa using HP.out, HF.out⟩
              case round =>
                clear q0 q1 q2 q3 q4 q5 HP HF BX
                obtain ⟨k, hk, rfl, r', hpen, hfrm⟩ := hrel
                have HP := hideC hpen
                have HF := hideC hfrm
                have HLEN := hideC (HLK3.out k hk)
                have hpw := hpen.lt
                have hrow : Hid (∀ g, r' = some g → p + 1 ≤ g ∧ g < wr.heap.size) := hpen.row_ge
                clear hpen hfrm
                by_cases hlt : k < rs.length
                · obtain ⟨b, off, hao, hbl, hl⟩ := HI.out.rels (show 0 < rs.length by omega)
                  simp only at hao
                  subst hao
                  have hli : (k : Int) < (rs.length : Int) := by omega
                  have HT := hideC (take_flat relL rs k M.rl0 hlt)
                  obtain ⟨c0, c1, c2⟩ := M.lieR (HBW.out _ _ HF.out) hbl hl k hlt
                  have sz := Z9.out k hlt
                  have HT : Hid ((rs.take (k + 1)).flatMap relL = (rs.take k).flatMap relL ++ relL (M.rlAt rs k)) := HT.out
                  obtain ⟨y, hx⟩ : ∃ y, y = M.rlAt rs k := ⟨_, rfl⟩
                  rw [← hx] at c0 c1 c2 sz HT
                  obtain ⟨xp, x, xa⟩ := y
                  simp only at c0 c1 c2 sz
                  have hmx : x.size ≤ maxLen := by unfold maxLen; omega
                  clear hx hl
                  have HBA := hideC ((Below.refl wr.heap.size wr).alloc (Nat.le_refl _) (.cells #[.int .i64 xp, .string x, .int .i64 xa] 59))
                  have HP : Hid (Pen 44 p (wr.alloc (.cells #[.int .i64 xp, .string x, .int .i64 xa] 59)) r' (P3 ++ (rs.take k).flatMap relL)) := HP.out.keep HBA.out
                  have HF := hideC (HF.out.trans (Frm.ofBelow HBA.out (by omega) r'))
                  have EB := hideC (B.new wr #[.int .i64 xp, .string x, .int .i64 xa] 59)
                  have HE : Hid (Frm p (wr.alloc (.cells #[.int .i64 xp, .string x, .int .i64 xa] 59)) r' (wr.alloc (.cells #[.int .i64 xp, .string x, .int .i64 xa] 59)) r') := Frm.refl _ _ _
                  have hes : wr.heap.size ≠ p := by omega
                  have her : Hid (some wr.heap.size ≠ r') := fun e => by have := hrow.out _ e.symm; omega
                  go_wp2_with (first | (go_at_call 41; refine (numbers_one' p _ _ _ (by simp) _ _ HP.out (by have := HLEN.out; omega)).mono ?_; rintro e w' ⟨rfl, r', hp', hf'⟩; have HF := hideC (HF.out.trans hf'); have HP := hideC hp'; have HE := hideC (HE.out.trans hf'); have EX := hideC ((HE.out.block wr.heap.size (by simp) hes her.out).trans EB.out); have y0 := B.cell EX.out 0 rfl; have y1 := B.cell EX.out 1 rfl; have y2 := B.cell EX.out 2 rfl; clear hp' hf'; have HLEN := hideC (len_num HP.out HLEN.out)) | (go_at_call 40; refine (text_any p _ _ _ _ HP.out (by have := HLEN.out; omega) (by omega)).mono ?_; rintro e w' ⟨rfl, r', hp', hf'⟩; have HF := hideC (HF.out.trans hf'); have HP := hideC hp'; have HE := hideC (HE.out.trans hf'); have EX := hideC ((HE.out.block wr.heap.size (by simp) hes her.out).trans EB.out); have y0 := B.cell EX.out 0 rfl; have y1 := B.cell EX.out 1 rfl; have y2 := B.cell EX.out 2 rfl; clear hp' hf'; have HLEN := hideC (len_text HLEN.out sz)))
                  go_roundw
                  case rel => exact ⟨k + 1, by omega, by go_num, _, by rw [HT.out, show relL ⟨xp, x, xa⟩ = num8 xp ++ (textL x ++ num8 xa) from rfl]; have h := HP.out; simpa only [List.append_assoc] using h, HF.out⟩
                  case measure => simp [intOf]; omega
                · obtain rfl : k = rs.length := by omega
                  have BX := hideC ((HF.out.block w.heap.size (by simp) hqp (by simp)).trans BOX.out)
                  have q0 := B.cell BX.out 0 (by rw [HX.out]; rfl)
                  have q1 := B.cell BX.out 1 (by rw [HX.out]; rfl)
                  have q2 := B.cell BX.out 2 (by rw [HX.out]; rfl)
                  have q3 := B.cell BX.out 3 (by rw [HX.out]; rfl)
                  have q4 := B.cell BX.out 4 (by rw [HX.out]; rfl)
                  have q5 := B.cell BX.out 5 (by rw [HX.out]; rfl)
                  rw [List.take_length] at HP HLEN
                  go_wp2_with (go_at_call 41; refine (numbers_one' p _ _ _ (by simp) _ _ HP.out (by have := HLEN.out; omega)).mono ?_; rintro e w' ⟨rfl, r', hp', hf'⟩; have HF := hideC (HF.out.trans hf'); have HP := hideC hp'; have BX := hideC ((HF.out.block w.heap.size (by simp) hqp (by simp)).trans BOX.out); have q0 := B.cell BX.out 0 (by rw [HX.out]; rfl); have q1 := B.cell BX.out 1 (by rw [HX.out]; rfl); have q2 := B.cell BX.out 2 (by rw [HX.out]; rfl); have q3 := B.cell BX.out 3 (by rw [HX.out]; rfl); have q4 := B.cell BX.out 4 (by rw [HX.out]; rfl); have q5 := B.cell BX.out 5 (by rw [HX.out]; rfl); clear hp' hf'; have HLEN := hideC (len_num HP.out HLEN.out))
                  go_end0
                  refine ⟨rfl, r', ?_, (HB0.out.mono (by omega)).trans HF.out.below⟩
                  have h := HP.out
                  rw [HPE3.out, HPE2.out, HPE1.out, HPE0.out] at h
                  exact h
end Go.Proofs.Ytafdgjpmhofinaa.W
