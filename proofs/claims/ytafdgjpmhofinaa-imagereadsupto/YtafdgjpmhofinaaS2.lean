import Derived.Test.YtafdgjpmhofinaaS1
namespace Go.Proofs.Ytafdgjpmhofinaa.W
open Go.RowKit
set_option linter.unusedVariables false

theorem Frm.setNew {p : Nat} {w W : World} {r r' : Option Nat} (h : Frm p w r W r') (g j : Nat) (v : Value) (hg : w.heap.size ≤ g) (hp : p ≤ g) : Frm p w r (W.setCell ⟨g, j, none⟩ v) r' :=
  ⟨h.below.setCell hp v, fun b hb hbp hbr => by rw [heap_setCell_other W ⟨g, j, none⟩ b v (by show b ≠ g; omega)]; exact h.block b hb hbp hbr, h.row⟩
theorem Rd.setOther {p : Nat} {W : World} {s : ByteArray} {l : List UInt8} (h : Rd p W s l) (g j : Nat) (v : Value) (hp : p ≠ g) : Rd p (W.setCell ⟨g, j, none⟩ v) s l := by
  obtain ⟨k, h1, h2, h3⟩ := h
  exact ⟨k, h1, h2, B.other h3 g j v hp⟩
def segP (l : List UInt8) : Option (M.Sg × List UInt8) := match numP l with
  | none => none
  | some (sp, l1) => match numP l1 with
  | none => none
  | some (sn, l2) => match textP l2 with
  | none => none
  | some (sd, l3) => match flagP l3 with
  | none => none
  | some (sx, l4) => match flagP l4 with
  | none => none
  | some (sy, l5) => some (⟨sp, sn, sd, sx, sy⟩, l5)
def symP (l : List UInt8) : Option (M.Sy × List UInt8) := match textP l with
  | none => none
  | some (x, l1) => match numP l1 with
  | none => none
  | some (xp, l2) => some (⟨x, xp⟩, l2)
def relP (l : List UInt8) : Option (M.Rl × List UInt8) := match numP l with
  | none => none
  | some (xp, l1) => match textP l1 with
  | none => none
  | some (x, l2) => match numP l2 with
  | none => none
  | some (xa, l3) => some (⟨xp, x, xa⟩, l3)
def cellsY (y : M.Sy) : Array Value := #[.string y.name, .int .i64 y.pos]
def cellsR (r : M.Rl) : Array Value := #[.int .i64 r.pos, .string r.name, .int .i64 r.add]

set_option maxRecDepth 100000 in
set_option maxHeartbeats 2000000 in
theorem seg_rd (p : Nat) (s : ByteArray) (l : List UInt8) (w : World) (h : Rd p w s l) (hs : M.Short s.size) :
    Calls Try.prog 52 #[.pointer (some ⟨p, 0, none⟩)] w (Out p s w (fun g => .agg (cellsG g)) (segP l)) := by
  have hpl := h.lt
  have HB := hideC ((Below.refl w.heap.size w).alloc (Nat.le_refl _) (.cells #[.int .i64 0, .int .i64 0, .string ⟨#[]⟩, .bool false, .bool false] 48))
  have HR : Hid (Rd p (w.alloc (.cells #[.int .i64 0, .int .i64 0, .string ⟨#[]⟩, .bool false, .bool false] 48)) s l) := h.keep HB.out
  have HF : Hid (Frm p w none (w.alloc (.cells #[.int .i64 0, .int .i64 0, .string ⟨#[]⟩, .bool false, .bool false] 48)) none) := Frm.ofBelow HB.out (by omega) none
  have HE : Hid (Frm p (w.alloc (.cells #[.int .i64 0, .int .i64 0, .string ⟨#[]⟩, .bool false, .bool false] 48)) none (w.alloc (.cells #[.int .i64 0, .int .i64 0, .string ⟨#[]⟩, .bool false, .bool false] 48)) none) := Frm.refl _ _ _
  have EB := hideC (B.new w #[.int .i64 0, .int .i64 0, .string ⟨#[]⟩, .bool false, .bool false] 48)
  have hgp : w.heap.size ≠ p := by omega
  clear h
  cases e1 : numP l with
  | none =>
    have HT : Hid (segP l = none) := by show _ = _; unfold segP; simp only [e1]
    rw [HT.out]
    go_enter Try.func52, Try.ntmps52
    go_wp2_with (go_at_call 57; refine (out_none (number_rd p s l _ HR.out hs) e1).mono ?_; rintro e w' ⟨rfl, hf⟩; have HF := hideC (HF.out.trans hf); clear hf)
    exact ⟨rfl, rfl, HF.out⟩
  | some r1 =>
    obtain ⟨sp, l1⟩ := r1
    cases e2 : numP l1 with
    | none =>
      have HT : Hid (segP l = none) := by show _ = _; unfold segP; simp only [e1, e2]
      rw [HT.out]
      go_enter Try.func52, Try.ntmps52
      go_wp2_with (first | (go_at_call 57; have _ := NXT0; refine (out_none (number_rd p s l1 _ HR.out hs) e2).mono ?_; rintro e w' ⟨rfl, hf⟩; have HF := hideC (HF.out.trans hf); clear hf) | (go_at_call 57; refine (out_some (number_rd p s l _ HR.out hs) e1).mono ?_; rintro e w' ⟨rfl, hr, hf⟩; have HF := hideC (HF.out.trans hf); have HE := hideC (HE.out.trans hf); have HR := hideC hr; have NXT0 := trivial; have EX := hideC ((HE.out.block w.heap.size (by simp) hgp (by simp)).trans EB.out); have y0 := B.cell EX.out 0 rfl; have y1 := B.cell EX.out 1 rfl; have y2 := B.cell EX.out 2 rfl; have y3 := B.cell EX.out 3 rfl; have y4 := B.cell EX.out 4 rfl; have yf := B.free EX.out; clear hf hr))
      exact ⟨rfl, rfl, HF.out⟩
    | some r2 =>
      obtain ⟨sn, l2⟩ := r2
      cases e3 : textP l2 with
      | none =>
        have HT : Hid (segP l = none) := by show _ = _; unfold segP; simp only [e1, e2, e3]
        rw [HT.out]
        go_enter Try.func52, Try.ntmps52
        go_wp2_with (first | (go_at_call 49; have _ := NXT1; refine (out_none (text_rd p s l2 _ HR.out hs) e3).mono ?_; rintro e w' ⟨rfl, hf⟩; have HF := hideC (HF.out.trans hf); clear hf) | (go_at_call 57; have _ := NXT0; refine (out_some (number_rd p s l1 _ HR.out hs) e2).mono ?_; rintro e w' ⟨rfl, hr, hf⟩; have HF := hideC (HF.out.trans hf); have HE := hideC (HE.out.trans hf); have HR := hideC hr; have NXT1 := trivial; have EX := hideC ((HE.out.block w.heap.size (by simp) hgp (by simp)).trans EB.out); have y0 := B.cell EX.out 0 rfl; have y1 := B.cell EX.out 1 rfl; have y2 := B.cell EX.out 2 rfl; have y3 := B.cell EX.out 3 rfl; have y4 := B.cell EX.out 4 rfl; have yf := B.free EX.out; clear hf hr) | (go_at_call 57; refine (out_some (number_rd p s l _ HR.out hs) e1).mono ?_; rintro e w' ⟨rfl, hr, hf⟩; have HF := hideC (HF.out.trans hf); have HE := hideC (HE.out.trans hf); have HR := hideC hr; have NXT0 := trivial; have EX := hideC ((HE.out.block w.heap.size (by simp) hgp (by simp)).trans EB.out); have y0 := B.cell EX.out 0 rfl; have y1 := B.cell EX.out 1 rfl; have y2 := B.cell EX.out 2 rfl; have y3 := B.cell EX.out 3 rfl; have y4 := B.cell EX.out 4 rfl; have yf := B.free EX.out; clear hf hr))
        exact ⟨rfl, rfl, HF.out⟩
      | some r3 =>
        obtain ⟨sd, l3⟩ := r3
        cases e4 : flagP l3 with
        | none =>
          have HT : Hid (segP l = none) := by show _ = _; unfold segP; simp only [e1, e2, e3, e4]
          rw [HT.out]
          go_enter Try.func52, Try.ntmps52
          go_wp2_with (first | (go_at_call 62; have _ := NXT2; refine (out_none (flag_rd p s l3 _ HR.out hs) e4).mono ?_; rintro e w' ⟨rfl, hf⟩; have HF := hideC (HF.out.trans hf); clear hf) | (go_at_call 49; have _ := NXT1; refine (out_some (text_rd p s l2 _ HR.out hs) e3).mono ?_; rintro e w' ⟨rfl, hr, hf⟩; have HF := hideC (HF.out.trans hf); have HE := hideC (HE.out.trans hf); have HR := hideC hr; have NXT2 := trivial; have EX := hideC ((HE.out.block w.heap.size (by simp) hgp (by simp)).trans EB.out); have y0 := B.cell EX.out 0 rfl; have y1 := B.cell EX.out 1 rfl; have y2 := B.cell EX.out 2 rfl; have y3 := B.cell EX.out 3 rfl; have y4 := B.cell EX.out 4 rfl; have yf := B.free EX.out; clear hf hr) | (go_at_call 57; have _ := NXT0; refine (out_some (number_rd p s l1 _ HR.out hs) e2).mono ?_; rintro e w' ⟨rfl, hr, hf⟩; have HF := hideC (HF.out.trans hf); have HE := hideC (HE.out.trans hf); have HR := hideC hr; have NXT1 := trivial; have EX := hideC ((HE.out.block w.heap.size (by simp) hgp (by simp)).trans EB.out); have y0 := B.cell EX.out 0 rfl; have y1 := B.cell EX.out 1 rfl; have y2 := B.cell EX.out 2 rfl; have y3 := B.cell EX.out 3 rfl; have y4 := B.cell EX.out 4 rfl; have yf := B.free EX.out; clear hf hr) | (go_at_call 57; refine (out_some (number_rd p s l _ HR.out hs) e1).mono ?_; rintro e w' ⟨rfl, hr, hf⟩; have HF := hideC (HF.out.trans hf); have HE := hideC (HE.out.trans hf); have HR := hideC hr; have NXT0 := trivial; have EX := hideC ((HE.out.block w.heap.size (by simp) hgp (by simp)).trans EB.out); have y0 := B.cell EX.out 0 rfl; have y1 := B.cell EX.out 1 rfl; have y2 := B.cell EX.out 2 rfl; have y3 := B.cell EX.out 3 rfl; have y4 := B.cell EX.out 4 rfl; have yf := B.free EX.out; clear hf hr))
          exact ⟨rfl, rfl, HF.out⟩
        | some r4 =>
          obtain ⟨sx, l4⟩ := r4
          cases e5 : flagP l4 with
          | none =>
            have HT : Hid (segP l = none) := by show _ = _; unfold segP; simp only [e1, e2, e3, e4, e5]
            rw [HT.out]
            go_enter Try.func52, Try.ntmps52
            go_wp2_with (first | (go_at_call 62; have _ := NXT3; refine (out_none (flag_rd p s l4 _ HR.out hs) e5).mono ?_; rintro e w' ⟨rfl, hf⟩; have HF := hideC (HF.out.trans hf); clear hf) | (go_at_call 62; have _ := NXT2; refine (out_some (flag_rd p s l3 _ HR.out hs) e4).mono ?_; rintro e w' ⟨rfl, hr, hf⟩; have HF := hideC (HF.out.trans hf); have HE := hideC (HE.out.trans hf); have HR := hideC hr; have NXT3 := trivial; have EX := hideC ((HE.out.block w.heap.size (by simp) hgp (by simp)).trans EB.out); have y0 := B.cell EX.out 0 rfl; have y1 := B.cell EX.out 1 rfl; have y2 := B.cell EX.out 2 rfl; have y3 := B.cell EX.out 3 rfl; have y4 := B.cell EX.out 4 rfl; have yf := B.free EX.out; clear hf hr) | (go_at_call 49; have _ := NXT1; refine (out_some (text_rd p s l2 _ HR.out hs) e3).mono ?_; rintro e w' ⟨rfl, hr, hf⟩; have HF := hideC (HF.out.trans hf); have HE := hideC (HE.out.trans hf); have HR := hideC hr; have NXT2 := trivial; have EX := hideC ((HE.out.block w.heap.size (by simp) hgp (by simp)).trans EB.out); have y0 := B.cell EX.out 0 rfl; have y1 := B.cell EX.out 1 rfl; have y2 := B.cell EX.out 2 rfl; have y3 := B.cell EX.out 3 rfl; have y4 := B.cell EX.out 4 rfl; have yf := B.free EX.out; clear hf hr) | (go_at_call 57; have _ := NXT0; refine (out_some (number_rd p s l1 _ HR.out hs) e2).mono ?_; rintro e w' ⟨rfl, hr, hf⟩; have HF := hideC (HF.out.trans hf); have HE := hideC (HE.out.trans hf); have HR := hideC hr; have NXT1 := trivial; have EX := hideC ((HE.out.block w.heap.size (by simp) hgp (by simp)).trans EB.out); have y0 := B.cell EX.out 0 rfl; have y1 := B.cell EX.out 1 rfl; have y2 := B.cell EX.out 2 rfl; have y3 := B.cell EX.out 3 rfl; have y4 := B.cell EX.out 4 rfl; have yf := B.free EX.out; clear hf hr) | (go_at_call 57; refine (out_some (number_rd p s l _ HR.out hs) e1).mono ?_; rintro e w' ⟨rfl, hr, hf⟩; have HF := hideC (HF.out.trans hf); have HE := hideC (HE.out.trans hf); have HR := hideC hr; have NXT0 := trivial; have EX := hideC ((HE.out.block w.heap.size (by simp) hgp (by simp)).trans EB.out); have y0 := B.cell EX.out 0 rfl; have y1 := B.cell EX.out 1 rfl; have y2 := B.cell EX.out 2 rfl; have y3 := B.cell EX.out 3 rfl; have y4 := B.cell EX.out 4 rfl; have yf := B.free EX.out; clear hf hr))
            exact ⟨rfl, rfl, HF.out⟩
          | some r5 =>
            obtain ⟨sy, l5⟩ := r5
            have HT : Hid (segP l = some (⟨sp, sn, sd, sx, sy⟩, l5)) := by show _ = _; unfold segP; simp only [e1, e2, e3, e4, e5]
            rw [HT.out]
            go_enter Try.func52, Try.ntmps52
            go_wp2_with (first | (go_at_call 62; have _ := NXT3; refine (out_some (flag_rd p s l4 _ HR.out hs) e5).mono ?_; rintro e w' ⟨rfl, hr, hf⟩; have HF := hideC (HF.out.trans hf); have HE := hideC (HE.out.trans hf); have HR := hideC hr; have NXT4 := trivial; have EX := hideC ((HE.out.block w.heap.size (by simp) hgp (by simp)).trans EB.out); have y0 := B.cell EX.out 0 rfl; have y1 := B.cell EX.out 1 rfl; have y2 := B.cell EX.out 2 rfl; have y3 := B.cell EX.out 3 rfl; have y4 := B.cell EX.out 4 rfl; have yf := B.free EX.out; clear hf hr) | (go_at_call 62; have _ := NXT2; refine (out_some (flag_rd p s l3 _ HR.out hs) e4).mono ?_; rintro e w' ⟨rfl, hr, hf⟩; have HF := hideC (HF.out.trans hf); have HE := hideC (HE.out.trans hf); have HR := hideC hr; have NXT3 := trivial; have EX := hideC ((HE.out.block w.heap.size (by simp) hgp (by simp)).trans EB.out); have y0 := B.cell EX.out 0 rfl; have y1 := B.cell EX.out 1 rfl; have y2 := B.cell EX.out 2 rfl; have y3 := B.cell EX.out 3 rfl; have y4 := B.cell EX.out 4 rfl; have yf := B.free EX.out; clear hf hr) | (go_at_call 49; have _ := NXT1; refine (out_some (text_rd p s l2 _ HR.out hs) e3).mono ?_; rintro e w' ⟨rfl, hr, hf⟩; have HF := hideC (HF.out.trans hf); have HE := hideC (HE.out.trans hf); have HR := hideC hr; have NXT2 := trivial; have EX := hideC ((HE.out.block w.heap.size (by simp) hgp (by simp)).trans EB.out); have y0 := B.cell EX.out 0 rfl; have y1 := B.cell EX.out 1 rfl; have y2 := B.cell EX.out 2 rfl; have y3 := B.cell EX.out 3 rfl; have y4 := B.cell EX.out 4 rfl; have yf := B.free EX.out; clear hf hr) | (go_at_call 57; have _ := NXT0; refine (out_some (number_rd p s l1 _ HR.out hs) e2).mono ?_; rintro e w' ⟨rfl, hr, hf⟩; have HF := hideC (HF.out.trans hf); have HE := hideC (HE.out.trans hf); have HR := hideC hr; have NXT1 := trivial; have EX := hideC ((HE.out.block w.heap.size (by simp) hgp (by simp)).trans EB.out); have y0 := B.cell EX.out 0 rfl; have y1 := B.cell EX.out 1 rfl; have y2 := B.cell EX.out 2 rfl; have y3 := B.cell EX.out 3 rfl; have y4 := B.cell EX.out 4 rfl; have yf := B.free EX.out; clear hf hr) | (go_at_call 57; refine (out_some (number_rd p s l _ HR.out hs) e1).mono ?_; rintro e w' ⟨rfl, hr, hf⟩; have HF := hideC (HF.out.trans hf); have HE := hideC (HE.out.trans hf); have HR := hideC hr; have NXT0 := trivial; have EX := hideC ((HE.out.block w.heap.size (by simp) hgp (by simp)).trans EB.out); have y0 := B.cell EX.out 0 rfl; have y1 := B.cell EX.out 1 rfl; have y2 := B.cell EX.out 2 rfl; have y3 := B.cell EX.out 3 rfl; have y4 := B.cell EX.out 4 rfl; have yf := B.free EX.out; clear hf hr))
            exact bodyPost_ret (v := .agg #[(.int .i64 sp), (.int .i64 sn), (.string sd), (.bool sx), (.bool sy)]) (by simp [results, Try.results52, go_sem, y0, y1, y2, y3, y4]) rfl ⟨rfl, (((((HR.out.setOther w.heap.size 0 (.int .i64 sp) (by omega)).setOther w.heap.size 1 (.int .i64 sn) (by omega)).setOther w.heap.size 2 (.string sd) (by omega)).setOther w.heap.size 3 (.bool sx) (by omega)).setOther w.heap.size 4 (.bool sy) (by omega)), (((((HF.out.setNew w.heap.size 0 (.int .i64 sp) (Nat.le_refl _) (by omega)).setNew w.heap.size 1 (.int .i64 sn) (Nat.le_refl _) (by omega)).setNew w.heap.size 2 (.string sd) (Nat.le_refl _) (by omega)).setNew w.heap.size 3 (.bool sx) (Nat.le_refl _) (by omega)).setNew w.heap.size 4 (.bool sy) (Nat.le_refl _) (by omega))⟩

set_option maxRecDepth 100000 in
set_option maxHeartbeats 2000000 in
theorem sym_rd (p : Nat) (s : ByteArray) (l : List UInt8) (w : World) (h : Rd p w s l) (hs : M.Short s.size) :
    Calls Try.prog 54 #[.pointer (some ⟨p, 0, none⟩)] w (Out p s w (fun g => .agg (cellsY g)) (symP l)) := by
  have hpl := h.lt
  have HB := hideC ((Below.refl w.heap.size w).alloc (Nat.le_refl _) (.cells #[.string ⟨#[]⟩, .int .i64 0] 50))
  have HR : Hid (Rd p (w.alloc (.cells #[.string ⟨#[]⟩, .int .i64 0] 50)) s l) := h.keep HB.out
  have HF : Hid (Frm p w none (w.alloc (.cells #[.string ⟨#[]⟩, .int .i64 0] 50)) none) := Frm.ofBelow HB.out (by omega) none
  have HE : Hid (Frm p (w.alloc (.cells #[.string ⟨#[]⟩, .int .i64 0] 50)) none (w.alloc (.cells #[.string ⟨#[]⟩, .int .i64 0] 50)) none) := Frm.refl _ _ _
  have EB := hideC (B.new w #[.string ⟨#[]⟩, .int .i64 0] 50)
  have hgp : w.heap.size ≠ p := by omega
  clear h
  cases e1 : textP l with
  | none =>
    have HT : Hid (symP l = none) := by show _ = _; unfold symP; simp only [e1]
    rw [HT.out]
    go_enter Try.func54, Try.ntmps54
    go_wp2_with (go_at_call 49; refine (out_none (text_rd p s l _ HR.out hs) e1).mono ?_; rintro e w' ⟨rfl, hf⟩; have HF := hideC (HF.out.trans hf); clear hf)
    exact ⟨rfl, rfl, HF.out⟩
  | some r1 =>
    obtain ⟨x, l1⟩ := r1
    cases e2 : numP l1 with
    | none =>
      have HT : Hid (symP l = none) := by show _ = _; unfold symP; simp only [e1, e2]
      rw [HT.out]
      go_enter Try.func54, Try.ntmps54
      go_wp2_with (first | (go_at_call 57; have _ := NXT0; refine (out_none (number_rd p s l1 _ HR.out hs) e2).mono ?_; rintro e w' ⟨rfl, hf⟩; have HF := hideC (HF.out.trans hf); clear hf) | (go_at_call 49; refine (out_some (text_rd p s l _ HR.out hs) e1).mono ?_; rintro e w' ⟨rfl, hr, hf⟩; have HF := hideC (HF.out.trans hf); have HE := hideC (HE.out.trans hf); have HR := hideC hr; have NXT0 := trivial; have EX := hideC ((HE.out.block w.heap.size (by simp) hgp (by simp)).trans EB.out); have y0 := B.cell EX.out 0 rfl; have y1 := B.cell EX.out 1 rfl; have yf := B.free EX.out; clear hf hr))
      exact ⟨rfl, rfl, HF.out⟩
    | some r2 =>
      obtain ⟨xp, l2⟩ := r2
      have HT : Hid (symP l = some (⟨x, xp⟩, l2)) := by show _ = _; unfold symP; simp only [e1, e2]
      rw [HT.out]
      go_enter Try.func54, Try.ntmps54
      go_wp2_with (first | (go_at_call 57; have _ := NXT0; refine (out_some (number_rd p s l1 _ HR.out hs) e2).mono ?_; rintro e w' ⟨rfl, hr, hf⟩; have HF := hideC (HF.out.trans hf); have HE := hideC (HE.out.trans hf); have HR := hideC hr; have NXT1 := trivial; have EX := hideC ((HE.out.block w.heap.size (by simp) hgp (by simp)).trans EB.out); have y0 := B.cell EX.out 0 rfl; have y1 := B.cell EX.out 1 rfl; have yf := B.free EX.out; clear hf hr) | (go_at_call 49; refine (out_some (text_rd p s l _ HR.out hs) e1).mono ?_; rintro e w' ⟨rfl, hr, hf⟩; have HF := hideC (HF.out.trans hf); have HE := hideC (HE.out.trans hf); have HR := hideC hr; have NXT0 := trivial; have EX := hideC ((HE.out.block w.heap.size (by simp) hgp (by simp)).trans EB.out); have y0 := B.cell EX.out 0 rfl; have y1 := B.cell EX.out 1 rfl; have yf := B.free EX.out; clear hf hr))
      exact bodyPost_ret (v := .agg #[(.string x), (.int .i64 xp)]) (by simp [results, Try.results54, go_sem, y0, y1]) rfl ⟨rfl, ((HR.out.setOther w.heap.size 0 (.string x) (by omega)).setOther w.heap.size 1 (.int .i64 xp) (by omega)), ((HF.out.setNew w.heap.size 0 (.string x) (Nat.le_refl _) (by omega)).setNew w.heap.size 1 (.int .i64 xp) (Nat.le_refl _) (by omega))⟩

set_option maxRecDepth 100000 in
set_option maxHeartbeats 2000000 in
theorem rel_rd (p : Nat) (s : ByteArray) (l : List UInt8) (w : World) (h : Rd p w s l) (hs : M.Short s.size) :
    Calls Try.prog 56 #[.pointer (some ⟨p, 0, none⟩)] w (Out p s w (fun g => .agg (cellsR g)) (relP l)) := by
  have hpl := h.lt
  have HB := hideC ((Below.refl w.heap.size w).alloc (Nat.le_refl _) (.cells #[.int .i64 0, .string ⟨#[]⟩, .int .i64 0] 59))
  have HR : Hid (Rd p (w.alloc (.cells #[.int .i64 0, .string ⟨#[]⟩, .int .i64 0] 59)) s l) := h.keep HB.out
  have HF : Hid (Frm p w none (w.alloc (.cells #[.int .i64 0, .string ⟨#[]⟩, .int .i64 0] 59)) none) := Frm.ofBelow HB.out (by omega) none
  have HE : Hid (Frm p (w.alloc (.cells #[.int .i64 0, .string ⟨#[]⟩, .int .i64 0] 59)) none (w.alloc (.cells #[.int .i64 0, .string ⟨#[]⟩, .int .i64 0] 59)) none) := Frm.refl _ _ _
  have EB := hideC (B.new w #[.int .i64 0, .string ⟨#[]⟩, .int .i64 0] 59)
  have hgp : w.heap.size ≠ p := by omega
  clear h
  cases e1 : numP l with
  | none =>
    have HT : Hid (relP l = none) := by show _ = _; unfold relP; simp only [e1]
    rw [HT.out]
    go_enter Try.func56, Try.ntmps56
    go_wp2_with (go_at_call 57; refine (out_none (number_rd p s l _ HR.out hs) e1).mono ?_; rintro e w' ⟨rfl, hf⟩; have HF := hideC (HF.out.trans hf); clear hf)
    exact ⟨rfl, rfl, HF.out⟩
  | some r1 =>
    obtain ⟨xp, l1⟩ := r1
    cases e2 : textP l1 with
    | none =>
      have HT : Hid (relP l = none) := by show _ = _; unfold relP; simp only [e1, e2]
      rw [HT.out]
      go_enter Try.func56, Try.ntmps56
      go_wp2_with (first | (go_at_call 49; have _ := NXT0; refine (out_none (text_rd p s l1 _ HR.out hs) e2).mono ?_; rintro e w' ⟨rfl, hf⟩; have HF := hideC (HF.out.trans hf); clear hf) | (go_at_call 57; refine (out_some (number_rd p s l _ HR.out hs) e1).mono ?_; rintro e w' ⟨rfl, hr, hf⟩; have HF := hideC (HF.out.trans hf); have HE := hideC (HE.out.trans hf); have HR := hideC hr; have NXT0 := trivial; have EX := hideC ((HE.out.block w.heap.size (by simp) hgp (by simp)).trans EB.out); have y0 := B.cell EX.out 0 rfl; have y1 := B.cell EX.out 1 rfl; have y2 := B.cell EX.out 2 rfl; have yf := B.free EX.out; clear hf hr))
      exact ⟨rfl, rfl, HF.out⟩
    | some r2 =>
      obtain ⟨x, l2⟩ := r2
      cases e3 : numP l2 with
      | none =>
        have HT : Hid (relP l = none) := by show _ = _; unfold relP; simp only [e1, e2, e3]
        rw [HT.out]
        go_enter Try.func56, Try.ntmps56
        go_wp2_with (first | (go_at_call 57; have _ := NXT1; refine (out_none (number_rd p s l2 _ HR.out hs) e3).mono ?_; rintro e w' ⟨rfl, hf⟩; have HF := hideC (HF.out.trans hf); clear hf) | (go_at_call 49; have _ := NXT0; refine (out_some (text_rd p s l1 _ HR.out hs) e2).mono ?_; rintro e w' ⟨rfl, hr, hf⟩; have HF := hideC (HF.out.trans hf); have HE := hideC (HE.out.trans hf); have HR := hideC hr; have NXT1 := trivial; have EX := hideC ((HE.out.block w.heap.size (by simp) hgp (by simp)).trans EB.out); have y0 := B.cell EX.out 0 rfl; have y1 := B.cell EX.out 1 rfl; have y2 := B.cell EX.out 2 rfl; have yf := B.free EX.out; clear hf hr) | (go_at_call 57; refine (out_some (number_rd p s l _ HR.out hs) e1).mono ?_; rintro e w' ⟨rfl, hr, hf⟩; have HF := hideC (HF.out.trans hf); have HE := hideC (HE.out.trans hf); have HR := hideC hr; have NXT0 := trivial; have EX := hideC ((HE.out.block w.heap.size (by simp) hgp (by simp)).trans EB.out); have y0 := B.cell EX.out 0 rfl; have y1 := B.cell EX.out 1 rfl; have y2 := B.cell EX.out 2 rfl; have yf := B.free EX.out; clear hf hr))
        exact ⟨rfl, rfl, HF.out⟩
      | some r3 =>
        obtain ⟨xa, l3⟩ := r3
        have HT : Hid (relP l = some (⟨xp, x, xa⟩, l3)) := by show _ = _; unfold relP; simp only [e1, e2, e3]
        rw [HT.out]
        go_enter Try.func56, Try.ntmps56
        go_wp2_with (first | (go_at_call 57; have _ := NXT1; refine (out_some (number_rd p s l2 _ HR.out hs) e3).mono ?_; rintro e w' ⟨rfl, hr, hf⟩; have HF := hideC (HF.out.trans hf); have HE := hideC (HE.out.trans hf); have HR := hideC hr; have NXT2 := trivial; have EX := hideC ((HE.out.block w.heap.size (by simp) hgp (by simp)).trans EB.out); have y0 := B.cell EX.out 0 rfl; have y1 := B.cell EX.out 1 rfl; have y2 := B.cell EX.out 2 rfl; have yf := B.free EX.out; clear hf hr) | (go_at_call 49; have _ := NXT0; refine (out_some (text_rd p s l1 _ HR.out hs) e2).mono ?_; rintro e w' ⟨rfl, hr, hf⟩; have HF := hideC (HF.out.trans hf); have HE := hideC (HE.out.trans hf); have HR := hideC hr; have NXT1 := trivial; have EX := hideC ((HE.out.block w.heap.size (by simp) hgp (by simp)).trans EB.out); have y0 := B.cell EX.out 0 rfl; have y1 := B.cell EX.out 1 rfl; have y2 := B.cell EX.out 2 rfl; have yf := B.free EX.out; clear hf hr) | (go_at_call 57; refine (out_some (number_rd p s l _ HR.out hs) e1).mono ?_; rintro e w' ⟨rfl, hr, hf⟩; have HF := hideC (HF.out.trans hf); have HE := hideC (HE.out.trans hf); have HR := hideC hr; have NXT0 := trivial; have EX := hideC ((HE.out.block w.heap.size (by simp) hgp (by simp)).trans EB.out); have y0 := B.cell EX.out 0 rfl; have y1 := B.cell EX.out 1 rfl; have y2 := B.cell EX.out 2 rfl; have yf := B.free EX.out; clear hf hr))
        exact bodyPost_ret (v := .agg #[(.int .i64 xp), (.string x), (.int .i64 xa)]) (by simp [results, Try.results56, go_sem, y0, y1, y2]) rfl ⟨rfl, (((HR.out.setOther w.heap.size 0 (.int .i64 xp) (by omega)).setOther w.heap.size 1 (.string x) (by omega)).setOther w.heap.size 2 (.int .i64 xa) (by omega)), (((HF.out.setNew w.heap.size 0 (.int .i64 xp) (Nat.le_refl _) (by omega)).setNew w.heap.size 1 (.string x) (Nat.le_refl _) (by omega)).setNew w.heap.size 2 (.int .i64 xa) (Nat.le_refl _) (by omega))⟩
end Go.Proofs.Ytafdgjpmhofinaa.W
