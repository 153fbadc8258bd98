import Derived.Test.YtafdgjpmhofinaaN4
namespace Go.Proofs.Ytafdgjpmhofinaa.W
open Go.RowKit
set_option linter.unusedVariables false

/-- what the pen wrote, as a string -/
theorem pen_string {t : TypeId} {p : Nat} {W : World} {r : Option Nat} {l : List UInt8} (h : Pen t p W r l) (hl : l ≠ []) : ∃ ao m c, W.heap[p]? = some (.cells #[.slice ao m c] t (0, 0)) ∧ (convert 42 9 (.slice ao m c)).run Try.prog W = .ok (.string ⟨l.toArray⟩) W := by
  obtain ⟨v, h1, h2, h3⟩ := h
  rcases h3.2 with ⟨hv, hn⟩ | ⟨g, cap, cur, hv, hbg, hg, hnc, hcm, hcs, htake⟩
  · exact absurd (List.eq_nil_of_length_eq_zero hn) hl
  · subst hv
    refine ⟨_, _, _, h1, ?_⟩
    rw [← Z.strOfNums_bytes]
    refine run_convert_bytes_arg _ 42 5 Try.underlying42 Try.underlying5 _ 0 l.length cap _ (by simp) ?_ 9 Try.underlying9
    intro i hi
    rw [Nat.zero_add, h3.cellAt i (by omega)]
    exact Z.byteCells_get _ i hi
theorem bytesL_ne (i : M.Im) : bytesL i ≠ [] := fun e => by
  have : (bytesL i).length = 0 := by rw [e]; rfl
  unfold bytesL at this
  simp only [List.length_append, num8_length] at this
  omega

set_option maxRecDepth 100000 in
set_option maxHeartbeats 2500000 in
theorem imageBytes_any (i : M.Im) (a : M.At) (w : World) (h : M.HasIm w a i) (hsm : Small i) :
    Calls Try.prog 8 #[.agg (M.cellsI a i)] w fun e w' => e = .returned (.string ⟨(bytesL i).toArray⟩) ∧ Below w.heap.size w w' := by
  have HNE := hideC (bytesL_ne i)
  obtain ⟨an, cn, ag, cg, ay, cy, ar, cr⟩ := a
  obtain ⟨nm, ns, gs, ys, rs, en⟩ := i
  obtain ⟨z1, z2, z3, z4, z5, z6, z7, z8, z9⟩ := hsm
  simp only at z1 z2 z3 z4 z5 z6 z7 z8 z9
  have HI := hideC h
  have Z3 := hideC z3
  have Z5 := hideC z5
  have Z7 := hideC z7
  have Z9 := hideC z9
  have hml : nm.size ≤ maxLen := by unfold maxLen; omega
  clear h z3 z5 z7 z9
  simp only [M.cellsI]
  obtain ⟨BL, hBL⟩ : ∃ BL, BL = bytesL ⟨nm, ns, gs, ys, rs, en⟩ := ⟨_, rfl⟩
  have HBL := hideC hBL
  rw [← hBL] at HNE
  rw [← hBL]
  clear hBL
  have HB0 := hideC ((Below.refl w.heap.size w).alloc (Nat.le_refl _) (.cells #[.string nm, .slice an ns.length cn, .slice ag gs.length cg, .slice ay ys.length cy, .slice ar rs.length cr, .int .i64 en] 27))
  have BOX := hideC (B.alloc (B.new w #[.string nm, .slice an ns.length cn, .slice ag gs.length cg, .slice ay ys.length cy, .slice ar rs.length cr, .int .i64 en] 27) (.cells #[.slice none 0 0] 54))
  have PB := hideC (B.new (w.alloc (.cells #[.string nm, .slice an ns.length cn, .slice ag gs.length cg, .slice ay ys.length cy, .slice ar rs.length cr, .int .i64 en] 27)) #[.slice none 0 0] 54)
  have HB1 := hideC (HB0.out.alloc HB0.out.size (.cells #[.slice none 0 0] 54))
  obtain ⟨X, hX⟩ : ∃ X : Array Value, X = #[.string nm, .slice an ns.length cn, .slice ag gs.length cg, .slice ay ys.length cy, .slice ar rs.length cr, .int .i64 en] := ⟨_, rfl⟩
  have HX := hideC hX
  rw [← hX] at BOX HB0 PB HB1
  clear hX
  obtain ⟨p, hp⟩ : ∃ p, p = w.heap.size + 1 := ⟨_, rfl⟩
  have hps : (w.alloc (.cells X 27)).heap.size = p := by rw [hp]; simp
  rw [hps] at PB
  have HP : Hid (Pen 54 p ((w.alloc (.cells X 27)).alloc (.cells #[.slice none 0 0] 54)) none []) := ⟨_, PB.out, rfl, World.ownsRow_nil _ _ _ _⟩
  have HF : Hid (Frm p ((w.alloc (.cells X 27)).alloc (.cells #[.slice none 0 0] 54)) none ((w.alloc (.cells X 27)).alloc (.cells #[.slice none 0 0] 54)) none) := Frm.refl _ _ _
  obtain ⟨W, hW⟩ : ∃ W, W = (w.alloc (.cells X 27)).alloc (.cells #[.slice none 0 0] 54) := ⟨_, rfl⟩
  have HWE := hideC hW
  rw [← hW] at BOX HP HF HB1
  have HLEN : Hid (([] : List UInt8).length ≤ 0) := Nat.le_refl 0
  have hqp : w.heap.size < p := by omega
  have HPD := hideC hp
  have HBW : Hid (∀ V r', Frm p W none V r' → Below w.heap.size w V) := fun V r' hf => HB1.out.trans (hf.below.mono (by omega))
  clear PB hW hps hp
  go_enter Try.func8, Try.ntmps8
  go_wp2_with (first | (rw [← HX.out, ← HWE.out, ← HPD.out]; (go_at_call 19; refine (inkText_any p _ _ _ _ HP.out (by have := HLEN.out; omega) (by omega)).mono ?_; rintro e w' ⟨rfl, r', hp', hf'⟩; have HF := hideC (HF.out.trans hf'); have HP := hideC hp'; have BX := hideC (B.below BOX.out HF.out.below hqp); have q0 := B.cell BX.out 0 (by rw [HX.out]; rfl); have q1 := B.cell BX.out 1 (by rw [HX.out]; rfl); have q2 := B.cell BX.out 2 (by rw [HX.out]; rfl); have q3 := B.cell BX.out 3 (by rw [HX.out]; rfl); have q4 := B.cell BX.out 4 (by rw [HX.out]; rfl); have q5 := B.cell BX.out 5 (by rw [HX.out]; rfl); skip; clear hp' hf'; have HLEN := hideC (len_text HLEN.out z1))) | (go_at_call 20; refine (inkNumber_any p _ _ _ _ HP.out (by have := HLEN.out; omega)).mono ?_; rintro e w' ⟨rfl, r', hp', hf'⟩; have HF := hideC (HF.out.trans hf'); have HP := hideC hp'; have BX := hideC (B.below BOX.out HF.out.below hqp); have q0 := B.cell BX.out 0 (by rw [HX.out]; rfl); have q1 := B.cell BX.out 1 (by rw [HX.out]; rfl); have q2 := B.cell BX.out 2 (by rw [HX.out]; rfl); have q3 := B.cell BX.out 3 (by rw [HX.out]; rfl); have q4 := B.cell BX.out 4 (by rw [HX.out]; rfl); have q5 := B.cell BX.out 5 (by rw [HX.out]; rfl); skip; clear hp' hf'; have HLEN := hideC (len_num HP.out HLEN.out)))
  obtain ⟨P0, hP0⟩ : ∃ P, P = ([] : List UInt8) ++ textL nm ++ num8 (ns.length : Int) := ⟨_, rfl⟩
  have HPE0 := hideC hP0
  rw [← hP0] at HP HLEN
  have HLP0 := hideC (Nat.le_trans HLEN.out (show _ ≤ 28 by omega))
  clear hP0 HLEN
  have HLK0 : Hid (∀ k, k ≤ ns.length → (P0 ++ (ns.take k).flatMap textL).length ≤ 28 + 20 * 4) := fun k hk => len_flat textL ns M.nil 20 4 HLP0.out (fun j hj => by rw [textL_length]; have := Z3.out j hj; unfold M.strAt at this; omega) z2 k hk
  go_loopw [4] (fun i wr => ∃ k : Nat, k ≤ ns.length ∧ i = .int .i64 k ∧ ∃ r', Pen 54 p wr r' (P0 ++ (ns.take k).flatMap textL) ∧ Frm p W none wr r') (fun i _ => ns.length - (intOf i).toNat)
  case atStart => exact ⟨0, by omega, rfl, _, by simpa using HP.out, HF.out⟩
  case round =>
    clear q0 q1 q2 q3 q4 q5 HP HF BX
    obtain ⟨k, hk, rfl, r', hpen, hfrm⟩ := hrel
    have HP := hideC hpen
    have HF := hideC hfrm
    have HLEN := hideC (HLK0.out k hk)
    have hpw := hpen.lt
    have hrow : Hid (∀ g, r' = some g → p + 1 ≤ g ∧ g < wr.heap.size) := hpen.row_ge
    clear hpen hfrm
    have BX := hideC (B.below BOX.out HF.out.below hqp)
    have q0 := B.cell BX.out 0 (by rw [HX.out]; rfl)
    have q1 := B.cell BX.out 1 (by rw [HX.out]; rfl)
    have q2 := B.cell BX.out 2 (by rw [HX.out]; rfl)
    have q3 := B.cell BX.out 3 (by rw [HX.out]; rfl)
    have q4 := B.cell BX.out 4 (by rw [HX.out]; rfl)
    have q5 := B.cell BX.out 5 (by rw [HX.out]; rfl)
    by_cases hlt : k < ns.length
    · obtain ⟨b, off, hao, hbl, hl⟩ := HI.out.needs (show 0 < ns.length by omega)
      simp only at hao
      subst hao
      have hli : (k : Int) < (ns.length : Int) := by omega
      have HL := hideC hl
      clear hl
      have HT := hideC (take_flat textL ns k M.nil hlt)
      have HT : Hid ((ns.take (k + 1)).flatMap textL = (ns.take k).flatMap textL ++ textL (M.strAt ns k)) := HT.out
      have sz := Z3.out k hlt
      obtain ⟨y, hx⟩ : ∃ y, y = M.strAt ns k := ⟨_, rfl⟩
      have HY := hideC hx
      rw [← hx] at sz HT
      clear hx
      obtain ⟨x, hxy⟩ : ∃ x, x = y := ⟨_, rfl⟩
      subst hxy
      have hmx : x.size ≤ maxLen := by unfold maxLen; omega
      have HEC : Hid (∀ V r', Frm p W none V r' → V.cell? ⟨b, off + k, none⟩ = some (.string x)) := fun V r' hf => by have h := M.lieS (HBW.out _ _ hf) hbl HL.out k hlt; rw [← HY.out] at h; exact h
      have c0 := HEC.out _ _ HF.out
      go_wp2_with (first | (go_at_call 20; refine (inkNumber_any p _ _ _ _ HP.out (by have := HLEN.out; omega)).mono ?_; rintro e w' ⟨rfl, r', hp', hf'⟩; have HF := hideC (HF.out.trans hf'); have HP := hideC hp'; have BX := hideC (B.below BOX.out HF.out.below hqp); have q0 := B.cell BX.out 0 (by rw [HX.out]; rfl); have q1 := B.cell BX.out 1 (by rw [HX.out]; rfl); have q2 := B.cell BX.out 2 (by rw [HX.out]; rfl); have q3 := B.cell BX.out 3 (by rw [HX.out]; rfl); have q4 := B.cell BX.out 4 (by rw [HX.out]; rfl); have q5 := B.cell BX.out 5 (by rw [HX.out]; rfl); have c0 := HEC.out _ _ HF.out; clear hp' hf'; have HLEN := hideC (len_num HP.out HLEN.out)) | (go_at_call 19; refine (inkText_any p _ _ _ _ HP.out (by have := HLEN.out; omega) (by omega)).mono ?_; rintro e w' ⟨rfl, r', hp', hf'⟩; have HF := hideC (HF.out.trans hf'); have HP := hideC hp'; have BX := hideC (B.below BOX.out HF.out.below hqp); have q0 := B.cell BX.out 0 (by rw [HX.out]; rfl); have q1 := B.cell BX.out 1 (by rw [HX.out]; rfl); have q2 := B.cell BX.out 2 (by rw [HX.out]; rfl); have q3 := B.cell BX.out 3 (by rw [HX.out]; rfl); have q4 := B.cell BX.out 4 (by rw [HX.out]; rfl); have q5 := B.cell BX.out 5 (by rw [HX.out]; rfl); have c0 := HEC.out _ _ HF.out; clear hp' hf'; have HLEN := hideC (len_text HLEN.out sz)))
      go_roundw
      case rel => exact ⟨k + 1, by omega, by go_num, r', by rw [HT.out]; have h := HP.out; simpa only [List.append_assoc] using h, HF.out⟩
      case measure => simp [intOf]; omega
    · obtain rfl : k = ns.length := by omega
      rw [List.take_length] at HP HLEN
      go_wp2_with (go_at_call 20; refine (inkNumber_any p _ _ _ _ HP.out (by have := HLEN.out; omega)).mono ?_; rintro e w' ⟨rfl, r', hp', hf'⟩; have HF := hideC (HF.out.trans hf'); have HP := hideC hp'; have BX := hideC (B.below BOX.out HF.out.below hqp); have q0 := B.cell BX.out 0 (by rw [HX.out]; rfl); have q1 := B.cell BX.out 1 (by rw [HX.out]; rfl); have q2 := B.cell BX.out 2 (by rw [HX.out]; rfl); have q3 := B.cell BX.out 3 (by rw [HX.out]; rfl); have q4 := B.cell BX.out 4 (by rw [HX.out]; rfl); have q5 := B.cell BX.out 5 (by rw [HX.out]; rfl); skip; clear hp' hf'; have HLEN := hideC (len_num HP.out HLEN.out))
      obtain ⟨P1, hP1⟩ : ∃ P, P = P0 ++ ns.flatMap textL ++ num8 (gs.length : Int) := ⟨_, rfl⟩
      have HPE1 := hideC hP1
      rw [← hP1] at HP HLEN
      have HLP1 := hideC (Nat.le_trans HLEN.out (show _ ≤ 116 by omega))
      clear hP1 HLEN
      have HLK1 : Hid (∀ k, k ≤ gs.length → (P1 ++ (gs.take k).flatMap segL).length ≤ 116 + 4120 * 6) := fun k hk => len_flat segL gs M.sg0 4120 6 HLP1.out (fun j hj => segL_len (Z5.out j hj)) z4 k hk
      go_loopw [5] (fun i wr => ∃ k : Nat, k ≤ gs.length ∧ i = .int .i64 k ∧ ∃ r', Pen 54 p wr r' (P1 ++ (gs.take k).flatMap segL) ∧ Frm p W none wr r') (fun i _ => gs.length - (intOf i).toNat)
      case atStart => exact ⟨0, by omega, rfl, _, by simpa using HP.out, HF.out⟩
      case round =>
        clear q0 q1 q2 q3 q4 q5 HP HF BX
        obtain ⟨k, hk, rfl, r', hpen, hfrm⟩ := hrel
        have HP := hideC hpen
        have HF := hideC hfrm
        have HLEN := hideC (HLK1.out k hk)
        have hpw := hpen.lt
        have hrow : Hid (∀ g, r' = some g → p + 1 ≤ g ∧ g < wr.heap.size) := hpen.row_ge
        clear hpen hfrm
        have BX := hideC (B.below BOX.out HF.out.below hqp)
        have q0 := B.cell BX.out 0 (by rw [HX.out]; rfl)
        have q1 := B.cell BX.out 1 (by rw [HX.out]; rfl)
        have q2 := B.cell BX.out 2 (by rw [HX.out]; rfl)
        have q3 := B.cell BX.out 3 (by rw [HX.out]; rfl)
        have q4 := B.cell BX.out 4 (by rw [HX.out]; rfl)
        have q5 := B.cell BX.out 5 (by rw [HX.out]; rfl)
        by_cases hlt : k < gs.length
        · obtain ⟨b, off, hao, hbl, hl⟩ := HI.out.segs (show 0 < gs.length by omega)
          simp only at hao
          subst hao
          have hli : (k : Int) < (gs.length : Int) := by omega
          have HL := hideC hl
          clear hl
          have HT := hideC (take_flat segL gs k M.sg0 hlt)
          have HT : Hid ((gs.take (k + 1)).flatMap segL = (gs.take k).flatMap segL ++ segL (M.sgAt gs k)) := HT.out
          have sz := Z5.out k hlt
          obtain ⟨y, hx⟩ : ∃ y, y = M.sgAt gs k := ⟨_, rfl⟩
          have HY := hideC hx
          rw [← hx] at sz HT
          clear hx
          obtain ⟨sp, sn, x, sx, sy⟩ := y
          simp only at sz
          have hmx : x.size ≤ maxLen := by unfold maxLen; omega
          have HEC : Hid (∀ V r', Frm p W none V r' → V.cell? ⟨b, off + k * 5, none⟩ = some (.int .i64 sp) ∧ V.cell? ⟨b, off + k * 5 + 1, none⟩ = some (.int .i64 sn) ∧ V.cell? ⟨b, off + k * 5 + 2, none⟩ = some (.string x) ∧ V.cell? ⟨b, off + k * 5 + 3, none⟩ = some (.bool sx) ∧ V.cell? ⟨b, off + k * 5 + 4, none⟩ = some (.bool sy)) := fun V r' hf => by have h := M.lieG (HBW.out _ _ hf) hbl HL.out k hlt; rw [← HY.out] at h; exact h
          obtain ⟨c0, c1, c2, c3, c4⟩ := HEC.out _ _ HF.out
          have HBA := hideC ((Below.refl wr.heap.size wr).alloc (Nat.le_refl _) (.cells #[.int .i64 sp, .int .i64 sn, .string x, .bool sx, .bool sy] 48))
          have HP : Hid (Pen 54 p (wr.alloc (.cells #[.int .i64 sp, .int .i64 sn, .string x, .bool sx, .bool sy] 48)) r' (P1 ++ (gs.take k).flatMap segL)) := HP.out.keep HBA.out
          have HF := hideC (HF.out.trans (Frm.ofBelow HBA.out (by omega) r'))
          have EB := hideC (B.new wr #[.int .i64 sp, .int .i64 sn, .string x, .bool sx, .bool sy] 48)
          have HE : Hid (Frm p (wr.alloc (.cells #[.int .i64 sp, .int .i64 sn, .string x, .bool sx, .bool sy] 48)) r' (wr.alloc (.cells #[.int .i64 sp, .int .i64 sn, .string x, .bool sx, .bool sy] 48)) r') := Frm.refl _ _ _
          have hes : wr.heap.size ≠ p := by omega
          have her : Hid (some wr.heap.size ≠ r') := fun e => by have := hrow.out _ e.symm; omega
          go_wp2_with (first | (go_at_call 20; refine (inkNumber_any p _ _ _ _ HP.out (by have := HLEN.out; omega)).mono ?_; rintro e w' ⟨rfl, r', hp', hf'⟩; have HF := hideC (HF.out.trans hf'); have HP := hideC hp'; have BX := hideC (B.below BOX.out HF.out.below hqp); have q0 := B.cell BX.out 0 (by rw [HX.out]; rfl); have q1 := B.cell BX.out 1 (by rw [HX.out]; rfl); have q2 := B.cell BX.out 2 (by rw [HX.out]; rfl); have q3 := B.cell BX.out 3 (by rw [HX.out]; rfl); have q4 := B.cell BX.out 4 (by rw [HX.out]; rfl); have q5 := B.cell BX.out 5 (by rw [HX.out]; rfl); have HE := hideC (HE.out.trans hf'); have EX := hideC ((HE.out.block wr.heap.size (by simp) hes her.out).trans EB.out); have y0 := B.cell EX.out 0 rfl; have y1 := B.cell EX.out 1 rfl; have y2 := B.cell EX.out 2 rfl; have y3 := B.cell EX.out 3 rfl; have y4 := B.cell EX.out 4 rfl; clear hp' hf'; have HLEN := hideC (len_num HP.out HLEN.out)) | (go_at_call 19; refine (inkText_any p _ _ _ _ HP.out (by have := HLEN.out; omega) (by omega)).mono ?_; rintro e w' ⟨rfl, r', hp', hf'⟩; have HF := hideC (HF.out.trans hf'); have HP := hideC hp'; have BX := hideC (B.below BOX.out HF.out.below hqp); have q0 := B.cell BX.out 0 (by rw [HX.out]; rfl); have q1 := B.cell BX.out 1 (by rw [HX.out]; rfl); have q2 := B.cell BX.out 2 (by rw [HX.out]; rfl); have q3 := B.cell BX.out 3 (by rw [HX.out]; rfl); have q4 := B.cell BX.out 4 (by rw [HX.out]; rfl); have q5 := B.cell BX.out 5 (by rw [HX.out]; rfl); have HE := hideC (HE.out.trans hf'); have EX := hideC ((HE.out.block wr.heap.size (by simp) hes her.out).trans EB.out); have y0 := B.cell EX.out 0 rfl; have y1 := B.cell EX.out 1 rfl; have y2 := B.cell EX.out 2 rfl; have y3 := B.cell EX.out 3 rfl; have y4 := B.cell EX.out 4 rfl; clear hp' hf'; have HLEN := hideC (len_text HLEN.out sz)) | (go_at_call 21; refine (inkTruth_any p _ _ _ _ HP.out (by have := HLEN.out; omega)).mono ?_; rintro e w' ⟨rfl, r', hp', hf'⟩; have HF := hideC (HF.out.trans hf'); have HP := hideC hp'; have BX := hideC (B.below BOX.out HF.out.below hqp); have q0 := B.cell BX.out 0 (by rw [HX.out]; rfl); have q1 := B.cell BX.out 1 (by rw [HX.out]; rfl); have q2 := B.cell BX.out 2 (by rw [HX.out]; rfl); have q3 := B.cell BX.out 3 (by rw [HX.out]; rfl); have q4 := B.cell BX.out 4 (by rw [HX.out]; rfl); have q5 := B.cell BX.out 5 (by rw [HX.out]; rfl); have HE := hideC (HE.out.trans hf'); have EX := hideC ((HE.out.block wr.heap.size (by simp) hes her.out).trans EB.out); have y0 := B.cell EX.out 0 rfl; have y1 := B.cell EX.out 1 rfl; have y2 := B.cell EX.out 2 rfl; have y3 := B.cell EX.out 3 rfl; have y4 := B.cell EX.out 4 rfl; clear hp' hf'; have HLEN := hideC (len_num HP.out HLEN.out)))
          go_roundw
          case rel => exact ⟨k + 1, by omega, by go_num, r', by rw [HT.out, show segL ⟨sp, sn, x, sx, sy⟩ = num8 sp ++ (num8 sn ++ (textL x ++ (num8 (flagN sx) ++ num8 (flagN sy)))) from rfl]; have h := HP.out; simpa only [List.append_assoc] using h, HF.out⟩
          case measure => simp [intOf]; omega
        · obtain rfl : k = gs.length := by omega
          rw [List.take_length] at HP HLEN
          go_wp2_with (go_at_call 20; refine (inkNumber_any p _ _ _ _ HP.out (by have := HLEN.out; omega)).mono ?_; rintro e w' ⟨rfl, r', hp', hf'⟩; have HF := hideC (HF.out.trans hf'); have HP := hideC hp'; have BX := hideC (B.below BOX.out HF.out.below hqp); have q0 := B.cell BX.out 0 (by rw [HX.out]; rfl); have q1 := B.cell BX.out 1 (by rw [HX.out]; rfl); have q2 := B.cell BX.out 2 (by rw [HX.out]; rfl); have q3 := B.cell BX.out 3 (by rw [HX.out]; rfl); have q4 := B.cell BX.out 4 (by rw [HX.out]; rfl); have q5 := B.cell BX.out 5 (by rw [HX.out]; rfl); skip; clear hp' hf'; have HLEN := hideC (len_num HP.out HLEN.out))
          obtain ⟨P2, hP2⟩ : ∃ P, P = P1 ++ gs.flatMap segL ++ num8 (ys.length : Int) := ⟨_, rfl⟩
          have HPE2 := hideC hP2
          rw [← hP2] at HP HLEN
          have HLP2 := hideC (Nat.le_trans HLEN.out (show _ ≤ 24844 by omega))
          clear hP2 HLEN
          have HLK2 : Hid (∀ k, k ≤ ys.length → (P2 ++ (ys.take k).flatMap symL).length ≤ 24844 + 28 * 12) := fun k hk => len_flat symL ys M.sy0 28 12 HLP2.out (fun j hj => symL_len (Z7.out j hj)) z6 k hk
          go_loopw [7] (fun i wr => ∃ k : Nat, k ≤ ys.length ∧ i = .int .i64 k ∧ ∃ r', Pen 54 p wr r' (P2 ++ (ys.take k).flatMap symL) ∧ Frm p W none wr r') (fun i _ => ys.length - (intOf i).toNat)
          case atStart => exact ⟨0, by omega, rfl, _, by simpa using HP.out, HF.out⟩
          case round =>
            clear q0 q1 q2 q3 q4 q5 HP HF BX
            obtain ⟨k, hk, rfl, r', hpen, hfrm⟩ := hrel
            have HP := hideC hpen
            have HF := hideC hfrm
            have HLEN := hideC (HLK2.out k hk)
            have hpw := hpen.lt
            have hrow : Hid (∀ g, r' = some g → p + 1 ≤ g ∧ g < wr.heap.size) := hpen.row_ge
            clear hpen hfrm
            have BX := hideC (B.below BOX.out HF.out.below hqp)
            have q0 := B.cell BX.out 0 (by rw [HX.out]; rfl)
            have q1 := B.cell BX.out 1 (by rw [HX.out]; rfl)
            have q2 := B.cell BX.out 2 (by rw [HX.out]; rfl)
            have q3 := B.cell BX.out 3 (by rw [HX.out]; rfl)
            have q4 := B.cell BX.out 4 (by rw [HX.out]; rfl)
            have q5 := B.cell BX.out 5 (by rw [HX.out]; rfl)
            by_cases hlt : k < ys.length
            · obtain ⟨b, off, hao, hbl, hl⟩ := HI.out.syms (show 0 < ys.length by omega)
              simp only at hao
              subst hao
              have hli : (k : Int) < (ys.length : Int) := by omega
              have HL := hideC hl
              clear hl
              have HT := hideC (take_flat symL ys k M.sy0 hlt)
              have HT : Hid ((ys.take (k + 1)).flatMap symL = (ys.take k).flatMap symL ++ symL (M.syAt ys k)) := HT.out
              have sz := Z7.out k hlt
              obtain ⟨y, hx⟩ : ∃ y, y = M.syAt ys k := ⟨_, rfl⟩
              have HY := hideC hx
              rw [← hx] at sz HT
              clear hx
              obtain ⟨x, xp⟩ := y
              simp only at sz
              have hmx : x.size ≤ maxLen := by unfold maxLen; omega
              have HEC : Hid (∀ V r', Frm p W none V r' → V.cell? ⟨b, off + k * 2, none⟩ = some (.string x) ∧ V.cell? ⟨b, off + k * 2 + 1, none⟩ = some (.int .i64 xp)) := fun V r' hf => by have h := M.lieY (HBW.out _ _ hf) hbl HL.out k hlt; rw [← HY.out] at h; exact h
              obtain ⟨c0, c1⟩ := HEC.out _ _ HF.out
              go_wp2_with (first | (go_at_call 20; refine (inkNumber_any p _ _ _ _ HP.out (by have := HLEN.out; omega)).mono ?_; rintro e w' ⟨rfl, r', hp', hf'⟩; have HF := hideC (HF.out.trans hf'); have HP := hideC hp'; have BX := hideC (B.below BOX.out HF.out.below hqp); have q0 := B.cell BX.out 0 (by rw [HX.out]; rfl); have q1 := B.cell BX.out 1 (by rw [HX.out]; rfl); have q2 := B.cell BX.out 2 (by rw [HX.out]; rfl); have q3 := B.cell BX.out 3 (by rw [HX.out]; rfl); have q4 := B.cell BX.out 4 (by rw [HX.out]; rfl); have q5 := B.cell BX.out 5 (by rw [HX.out]; rfl); obtain ⟨c0, c1⟩ := HEC.out _ _ HF.out; clear hp' hf'; have HLEN := hideC (len_num HP.out HLEN.out)) | (go_at_call 19; refine (inkText_any p _ _ _ _ HP.out (by have := HLEN.out; omega) (by omega)).mono ?_; rintro e w' ⟨rfl, r', hp', hf'⟩; have HF := hideC (HF.out.trans hf'); have HP := hideC hp'; have BX := hideC (B.below BOX.out HF.out.below hqp); have q0 := B.cell BX.out 0 (by rw [HX.out]; rfl); have q1 := B.cell BX.out 1 (by rw [HX.out]; rfl); have q2 := B.cell BX.out 2 (by rw [HX.out]; rfl); have q3 := B.cell BX.out 3 (by rw [HX.out]; rfl); have q4 := B.cell BX.out 4 (by rw [HX.out]; rfl); have q5 := B.cell BX.out 5 (by rw [HX.out]; rfl); obtain ⟨c0, c1⟩ := HEC.out _ _ HF.out; clear hp' hf'; have HLEN := hideC (len_text HLEN.out sz)))
              go_roundw
              case rel => exact ⟨k + 1, by omega, by go_num, r', by rw [HT.out, show symL ⟨x, xp⟩ = textL x ++ num8 xp from rfl]; have h := HP.out; simpa only [List.append_assoc] using h, HF.out⟩
              case measure => simp [intOf]; omega
            · obtain rfl : k = ys.length := by omega
              rw [List.take_length] at HP HLEN
              go_wp2_with (go_at_call 20; refine (inkNumber_any p _ _ _ _ HP.out (by have := HLEN.out; omega)).mono ?_; rintro e w' ⟨rfl, r', hp', hf'⟩; have HF := hideC (HF.out.trans hf'); have HP := hideC hp'; have BX := hideC (B.below BOX.out HF.out.below hqp); have q0 := B.cell BX.out 0 (by rw [HX.out]; rfl); have q1 := B.cell BX.out 1 (by rw [HX.out]; rfl); have q2 := B.cell BX.out 2 (by rw [HX.out]; rfl); have q3 := B.cell BX.out 3 (by rw [HX.out]; rfl); have q4 := B.cell BX.out 4 (by rw [HX.out]; rfl); have q5 := B.cell BX.out 5 (by rw [HX.out]; rfl); skip; clear hp' hf'; have HLEN := hideC (len_num HP.out HLEN.out))
              obtain ⟨P3, hP3⟩ : ∃ P, P = P2 ++ ys.flatMap symL ++ num8 (rs.length : Int) := ⟨_, rfl⟩
              have HPE3 := hideC hP3
              rw [← hP3] at HP HLEN
              have HLP3 := hideC (Nat.le_trans HLEN.out (show _ ≤ 25188 by omega))
              clear hP3 HLEN
              have HLK3 : Hid (∀ k, k ≤ rs.length → (P3 ++ (rs.take k).flatMap relL).length ≤ 25188 + 36 * 16) := fun k hk => len_flat relL rs M.rl0 36 16 HLP3.out (fun j hj => relL_len (Z9.out j hj)) z8 k hk
              go_loopw [8] (fun i wr => ∃ k : Nat, k ≤ rs.length ∧ i = .int .i64 k ∧ ∃ r', Pen 54 p wr r' (P3 ++ (rs.take k).flatMap relL) ∧ Frm p W none wr r') (fun i _ => rs.length - (intOf i).toNat)
              case atStart => exact ⟨0, by omega, rfl, _, by simpa using HP.out, HF.out⟩
              case round =>
                clear q0 q1 q2 q3 q4 q5 HP HF BX
                obtain ⟨k, hk, rfl, r', hpen, hfrm⟩ := hrel
                have HP := hideC hpen
                have HF := hideC hfrm
                have HLEN := hideC (HLK3.out k hk)
                have hpw := hpen.lt
                have hrow : Hid (∀ g, r' = some g → p + 1 ≤ g ∧ g < wr.heap.size) := hpen.row_ge
                clear hpen hfrm
                have BX := hideC (B.below BOX.out HF.out.below hqp)
                have q0 := B.cell BX.out 0 (by rw [HX.out]; rfl)
                have q1 := B.cell BX.out 1 (by rw [HX.out]; rfl)
                have q2 := B.cell BX.out 2 (by rw [HX.out]; rfl)
                have q3 := B.cell BX.out 3 (by rw [HX.out]; rfl)
                have q4 := B.cell BX.out 4 (by rw [HX.out]; rfl)
                have q5 := B.cell BX.out 5 (by rw [HX.out]; rfl)
                by_cases hlt : k < rs.length
                · obtain ⟨b, off, hao, hbl, hl⟩ := HI.out.rels (show 0 < rs.length by omega)
                  simp only at hao
                  subst hao
                  have hli : (k : Int) < (rs.length : Int) := by omega
                  have HL := hideC hl
                  clear hl
                  have HT := hideC (take_flat relL rs k M.rl0 hlt)
                  have HT : Hid ((rs.take (k + 1)).flatMap relL = (rs.take k).flatMap relL ++ relL (M.rlAt rs k)) := HT.out
                  have sz := Z9.out k hlt
                  obtain ⟨y, hx⟩ : ∃ y, y = M.rlAt rs k := ⟨_, rfl⟩
                  have HY := hideC hx
                  rw [← hx] at sz HT
                  clear hx
                  obtain ⟨xp, x, xa⟩ := y
                  simp only at sz
                  have hmx : x.size ≤ maxLen := by unfold maxLen; omega
                  have HEC : Hid (∀ V r', Frm p W none V r' → V.cell? ⟨b, off + k * 3, none⟩ = some (.int .i64 xp) ∧ V.cell? ⟨b, off + k * 3 + 1, none⟩ = some (.string x) ∧ V.cell? ⟨b, off + k * 3 + 2, none⟩ = some (.int .i64 xa)) := fun V r' hf => by have h := M.lieR (HBW.out _ _ hf) hbl HL.out k hlt; rw [← HY.out] at h; exact h
                  obtain ⟨c0, c1, c2⟩ := HEC.out _ _ HF.out
                  go_wp2_with (first | (go_at_call 20; refine (inkNumber_any p _ _ _ _ HP.out (by have := HLEN.out; omega)).mono ?_; rintro e w' ⟨rfl, r', hp', hf'⟩; have HF := hideC (HF.out.trans hf'); have HP := hideC hp'; have BX := hideC (B.below BOX.out HF.out.below hqp); have q0 := B.cell BX.out 0 (by rw [HX.out]; rfl); have q1 := B.cell BX.out 1 (by rw [HX.out]; rfl); have q2 := B.cell BX.out 2 (by rw [HX.out]; rfl); have q3 := B.cell BX.out 3 (by rw [HX.out]; rfl); have q4 := B.cell BX.out 4 (by rw [HX.out]; rfl); have q5 := B.cell BX.out 5 (by rw [HX.out]; rfl); obtain ⟨c0, c1, c2⟩ := HEC.out _ _ HF.out; clear hp' hf'; have HLEN := hideC (len_num HP.out HLEN.out)) | (go_at_call 19; refine (inkText_any p _ _ _ _ HP.out (by have := HLEN.out; omega) (by omega)).mono ?_; rintro e w' ⟨rfl, r', hp', hf'⟩; have HF := hideC (HF.out.trans hf'); have HP := hideC hp'; have BX := hideC (B.below BOX.out HF.out.below hqp); have q0 := B.cell BX.out 0 (by rw [HX.out]; rfl); have q1 := B.cell BX.out 1 (by rw [HX.out]; rfl); have q2 := B.cell BX.out 2 (by rw [HX.out]; rfl); have q3 := B.cell BX.out 3 (by rw [HX.out]; rfl); have q4 := B.cell BX.out 4 (by rw [HX.out]; rfl); have q5 := B.cell BX.out 5 (by rw [HX.out]; rfl); obtain ⟨c0, c1, c2⟩ := HEC.out _ _ HF.out; clear hp' hf'; have HLEN := hideC (len_text HLEN.out sz)))
                  go_roundw
                  case rel => exact ⟨k + 1, by omega, by go_num, r', by rw [HT.out, show relL ⟨xp, x, xa⟩ = num8 xp ++ (textL x ++ num8 xa) from rfl]; have h := HP.out; simpa only [List.append_assoc] using h, HF.out⟩
                  case measure => simp [intOf]; omega
                · obtain rfl : k = rs.length := by omega
                  rw [List.take_length] at HP HLEN
                  go_wp2_with (go_at_call 20; refine (inkNumber_any p _ _ _ _ HP.out (by have := HLEN.out; omega)).mono ?_; rintro e w' ⟨rfl, r', hp', hf'⟩; have HF := hideC (HF.out.trans hf'); have HP := hideC hp'; have BX := hideC (B.below BOX.out HF.out.below hqp); have q0 := B.cell BX.out 0 (by rw [HX.out]; rfl); have q1 := B.cell BX.out 1 (by rw [HX.out]; rfl); have q2 := B.cell BX.out 2 (by rw [HX.out]; rfl); have q3 := B.cell BX.out 3 (by rw [HX.out]; rfl); have q4 := B.cell BX.out 4 (by rw [HX.out]; rfl); have q5 := B.cell BX.out 5 (by rw [HX.out]; rfl); have HPS : Hid (Pen 54 p w' r' BL) := (by have h := hp'; rw [HPE3.out, HPE2.out, HPE1.out, HPE0.out] at h; rw [HBL.out]; exact h); obtain ⟨ao, m, c, hpv, hcv⟩ := pen_string HPS.out HNE.out; have pv := B.cell hpv 0 rfl; clear hp' hf'; have HLEN := hideC (len_num HP.out HLEN.out))
                  go_ret
                  exact ⟨rfl, HBW.out _ _ HF.out⟩
end Go.Proofs.Ytafdgjpmhofinaa.W
