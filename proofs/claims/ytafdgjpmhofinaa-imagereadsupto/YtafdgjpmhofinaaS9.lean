import Derived.Test.YtafdgjpmhofinaaS8
namespace Go.Proofs.Ytafdgjpmhofinaa.W
open Go.RowKit
set_option linter.unusedVariables false

/-- how Read ends -/
def OutR (w : World) : Option M.Im → Ending → World → Prop
  | some i, e, w' => (∃ a, e = .returned (.tuple #[.agg (M.cellsI a i), .int .i64 0]) ∧ M.HasIm w' a i) ∧ Below w.heap.size w w'
  | none, e, w' => e = .returned (.tuple #[.agg #[.string ⟨#[]⟩, .slice none 0 0, .slice none 0 0, .slice none 0 0, .slice none 0 0, .int .i64 0], .int .i64 1]) ∧ Below w.heap.size w w'
theorem noImage_below {N : Nat} {w W : World} (h : Below N w W) {a b : Nat} (ha : N ≤ a) (hb : N ≤ b) : Below N w (noImage W a b) :=
  ((((((h.setCell (p := ⟨a, 0, none⟩) ha _).setCell (p := ⟨a, 1, none⟩) ha _).setCell (p := ⟨a, 2, none⟩) ha _).setCell (p := ⟨a, 3, none⟩) ha _).setCell (p := ⟨a, 4, none⟩) ha _).setCell (p := ⟨a, 5, none⟩) ha _).setCell (p := ⟨b, 0, none⟩) hb _

def set6 (w : World) (g : Nat) (v0 v1 v2 v3 v4 v5 : Value) : World :=
  (((((w.setCell ⟨g, 0, none⟩ v0).setCell ⟨g, 1, none⟩ v1).setCell ⟨g, 2, none⟩ v2).setCell ⟨g, 3, none⟩ v3).setCell ⟨g, 4, none⟩ v4).setCell ⟨g, 5, none⟩ v5
theorem set6_row {w : World} {g : Nat} {u0 u1 u2 u3 u4 u5 : Value} {t : TypeId} (h : w.heap[g]? = some (.cells #[u0, u1, u2, u3, u4, u5] t (0, 0))) (v0 v1 v2 v3 v4 v5 : Value) : (set6 w g v0 v1 v2 v3 v4 v5).heap[g]? = some (.cells #[v0, v1, v2, v3, v4, v5] t (0, 0)) :=
  B.set (B.set (B.set (B.set (B.set (B.set h 0 v0) 1 v1) 2 v2) 3 v3) 4 v4) 5 v5
theorem set6_other {w : World} {g b : Nat} {o : Obj} (h : w.heap[b]? = some o) (hne : b ≠ g) (v0 v1 v2 v3 v4 v5 : Value) : (set6 w g v0 v1 v2 v3 v4 v5).heap[b]? = some o :=
  B.other (B.other (B.other (B.other (B.other (B.other h g 0 v0 hne) g 1 v1 hne) g 2 v2 hne) g 3 v3 hne) g 4 v4 hne) g 5 v5 hne
theorem set6_rd {p : Nat} {w : World} {s : ByteArray} {l : List UInt8} (h : Rd p w s l) (g : Nat) (hp : p ≠ g) (v0 v1 v2 v3 v4 v5 : Value) : Rd p (set6 w g v0 v1 v2 v3 v4 v5) s l :=
  (((((h.setOther g 0 v0 hp).setOther g 1 v1 hp).setOther g 2 v2 hp).setOther g 3 v3 hp).setOther g 4 v4 hp).setOther g 5 v5 hp
theorem set6_below {N g : Nat} {w W : World} (h : Below N w W) (hg : N ≤ g) (v0 v1 v2 v3 v4 v5 : Value) : Below N w (set6 W g v0 v1 v2 v3 v4 v5) :=
  (((((h.setCell (p := ⟨g, 0, none⟩) hg v0).setCell (p := ⟨g, 1, none⟩) hg v1).setCell (p := ⟨g, 2, none⟩) hg v2).setCell (p := ⟨g, 3, none⟩) hg v3).setCell (p := ⟨g, 4, none⟩) hg v4).setCell (p := ⟨g, 5, none⟩) hg v5
theorem set6_has {lo g : Nat} {w : World} {a : M.At} {i : M.Im} (h : HasImN lo w a i) (hg : g < lo) (v0 v1 v2 v3 v4 v5 : Value) : HasImN lo (set6 w g v0 v1 v2 v3 v4 v5) a i :=
  (((((h.set g 0 v0 hg).set g 1 v1 hg).set g 2 v2 hg).set g 3 v3 hg).set g 4 v4 hg).set g 5 v5 hg

set_option maxRecDepth 100000 in
set_option maxHeartbeats 3000000 in
theorem read_any (s : ByteArray) (w : World) (hs : M.Short s.size) : Calls Try.prog 11 #[.string s] w (OutR w (readP s.data.toList)) := by
  have hmf : ∀ (fn : Fn) (first cap : Array Value) (w : World), (Instr.makeFunc fn first cap).run Try.prog w = .ok (.func fn first cap) w := fun _ _ _ _ => rfl
  have HB1 := hideC ((Below.refl w.heap.size w).alloc (Nat.le_refl _) (.cells #[.string ⟨#[]⟩, .slice none 0 0, .slice none 0 0, .slice none 0 0, .slice none 0 0, .int .i64 0] 27))
  have HB2 := hideC (HB1.out.alloc HB1.out.size (.cells #[.int .i64 0] 28))
  have HB3 := hideC (HB2.out.alloc HB2.out.size (.cells #[.string s, .int .i64 0] 64))
  obtain ⟨W, hW⟩ : ∃ W, W = ((w.alloc (.cells #[.string ⟨#[]⟩, .slice none 0 0, .slice none 0 0, .slice none 0 0, .slice none 0 0, .int .i64 0] 27)).alloc (.cells #[.int .i64 0] 28)).alloc (.cells #[.string s, .int .i64 0] 64) := ⟨_, rfl⟩
  have HW := hideC hW
  have hWs : W.heap.size = w.heap.size + 3 := by rw [hW]; simp
  have R0 : Hid (W.heap[w.heap.size]? = some (.cells #[.string ⟨#[]⟩, .slice none 0 0, .slice none 0 0, .slice none 0 0, .slice none 0 0, .int .i64 0] 27 (0, 0))) := by
    show _ = _
    rw [hW]
    exact B.alloc (B.alloc (B.new w _ _) _) _
  have R1 : Hid (W.heap[w.heap.size + 1]? = some (.cells #[.int .i64 0] 28 (0, 0))) := by
    show _ = _
    rw [hW]
    have h := B.new (w.alloc (.cells #[.string ⟨#[]⟩, .slice none 0 0, .slice none 0 0, .slice none 0 0, .slice none 0 0, .int .i64 0] 27)) #[.int .i64 0] 28
    rw [show (w.alloc (.cells #[.string ⟨#[]⟩, .slice none 0 0, .slice none 0 0, .slice none 0 0, .slice none 0 0, .int .i64 0] 27)).heap.size = w.heap.size + 1 by simp] at h
    exact B.alloc h _
  have HR : Hid (Rd (w.heap.size + 2) W s s.data.toList) := by
    refine ⟨0, by omega, rfl, ?_⟩
    rw [hW]
    have h := B.new ((w.alloc (.cells #[.string ⟨#[]⟩, .slice none 0 0, .slice none 0 0, .slice none 0 0, .slice none 0 0, .int .i64 0] 27)).alloc (.cells #[.int .i64 0] 28)) #[.string s, .int .i64 0] 64
    rw [show ((w.alloc (.cells #[.string ⟨#[]⟩, .slice none 0 0, .slice none 0 0, .slice none 0 0, .slice none 0 0, .int .i64 0] 27)).alloc (.cells #[.int .i64 0] 28)).heap.size = w.heap.size + 2 by simp] at h
    exact h
  rw [← hW] at HB3
  clear hW HB1 HB2
  have HSL : Hid (s.data.toList.length = s.size) := (Lib.size_eq s).symm
  cases e1 : imgP s.data.toList with
  | none =>
    have HC : Hid (∀ V, V = W → Calls Try.prog 33 #[.pointer (some ⟨w.heap.size + 2, 0, none⟩)] V fun e w' => e = wrongE ∧ Frm (w.heap.size + 2) W none w' none) := fun V hv => by
      subst hv
      have h := image_rd (w.heap.size + 2) s s.data.toList V HR.out hs
      rw [e1] at h
      exact h
    rw [read_none e1]
    clear e1
    go_enter_defers Try.func11, Try.ntmps11
    go_wp2_with (go_at_call 33; refine (HC.out _ HW.out.symm).mono ?_; rintro e w1 ⟨rfl, hf⟩; have HF := hideC hf; clear hf)
    refine leaves_cons (f := 32) (args := #[.pointer (some ⟨w.heap.size, 0, none⟩), .pointer (some ⟨w.heap.size + 1, 0, none⟩)]) (by simp) (by simp [go_sem]) ?_
    have r0 := B.below R0.out HF.out.below (show w.heap.size < w.heap.size + 2 by omega)
    have r1 := B.below R1.out HF.out.below (show w.heap.size + 1 < w.heap.size + 2 by omega)
    refine (catch_panicking w.heap.size (w.heap.size + 1) _ _ _ _ _ _ _ 90 _ [] _ r0 r1 (by omega)).mono ?_
    rintro e u' w'' ⟨rfl, rfl, rfl⟩
    have y0 := B.cell r0 0 rfl
    have y1 := B.cell r0 1 rfl
    have y2 := B.cell r0 2 rfl
    have y3 := B.cell r0 3 rfl
    have y4 := B.cell r0 4 rfl
    have y5 := B.cell r0 5 rfl
    have z0 := B.cell r1 0 rfl
    have HB := hideC (noImage_below (HB3.out.trans (HF.out.below.mono (show w.heap.size ≤ w.heap.size + 2 by omega))) (Nat.le_refl w.heap.size) (show w.heap.size ≤ w.heap.size + 1 by omega))
    simp [Leaves, settle, results, Try.results11, go_sem, noImage, y0, y1, y2, y3, y4, y5, z0]
    exact ⟨rfl, HB.out⟩
  | some r =>
    obtain ⟨i, l'⟩ := r
    obtain ⟨hlim, hfit, hbytes⟩ := img_some e1
    have HFI : Hid (M.Fit i) := fit_of hfit hlim (by
      have h := HSL.out
      rw [hbytes, List.length_append] at h
      unfold M.Short at hs ⊢
      omega)
    clear hlim hfit hbytes
    have HC : Hid (∀ V, V = W → Calls Try.prog 33 #[.pointer (some ⟨w.heap.size + 2, 0, none⟩)] V fun e w' => (∃ a, e = .returned (.agg (M.cellsI a i)) ∧ HasImN (w.heap.size + 3) w' a i) ∧ Rd (w.heap.size + 2) w' s l' ∧ Frm (w.heap.size + 2) W none w' none) := fun V hv => by
      subst hv
      have h := image_rd (w.heap.size + 2) s s.data.toList V HR.out hs
      rw [e1] at h
      unfold OutI at h
      rw [hWs] at h
      exact h
    rw [read_eq e1]
    clear e1
    by_cases hl : l' = []
    · subst hl
      by_cases hc : M.chkN i = 0
      · rw [if_pos ⟨rfl, hc⟩]
        go_enter_defers Try.func11, Try.ntmps11
        go_wp2_with (first | (go_at_call 33; refine (HC.out _ HW.out.symm).mono ?_; rintro e w1 ⟨⟨a, rfl, hn⟩, hr, hf⟩; obtain ⟨an, cn, ag, cg, ay, cy, ar, cr⟩ := a; obtain ⟨nm, ns, gs, ys, rs, en⟩ := i; simp only [M.cellsI]; have HF := hideC hf; have HN := hideC hn; have HR := hideC hr; have r0 := B.below R0.out HF.out.below (show w.heap.size < w.heap.size + 2 by omega); have y0 := B.cell r0 0 rfl; have y1 := B.cell r0 1 rfl; have y2 := B.cell r0 2 rfl; have y3 := B.cell r0 3 rfl; have y4 := B.cell r0 4 rfl; have y5 := B.cell r0 5 rfl; have yf := B.free r0; have Y1 := hideC (B.below R1.out HF.out.below (show w.heap.size + 1 < w.heap.size + 2 by omega)); have S0 := hideC (set6_row r0 (.string nm) (.slice an ns.length cn) (.slice ag gs.length cg) (.slice ay ys.length cy) (.slice ar rs.length cr) (.int .i64 en)); have S1 := hideC (set6_other (g := w.heap.size) Y1.out (by omega) (.string nm) (.slice an ns.length cn) (.slice ag gs.length cg) (.slice ay ys.length cy) (.slice ar rs.length cr) (.int .i64 en)); have SR := hideC (set6_rd hr w.heap.size (by omega) (.string nm) (.slice an ns.length cn) (.slice ag gs.length cg) (.slice ay ys.length cy) (.slice ar rs.length cr) (.int .i64 en)); have SB := hideC (set6_below (HB3.out.trans (HF.out.below.mono (show w.heap.size ≤ w.heap.size + 2 by omega))) (Nat.le_refl w.heap.size) (.string nm) (.slice an ns.length cn) (.slice ag gs.length cg) (.slice ay ys.length cy) (.slice ar rs.length cr) (.int .i64 en)); have SN := hideC (set6_has (g := w.heap.size) hn (by omega) (.string nm) (.slice an ns.length cn) (.slice ag gs.length cg) (.slice ay ys.length cy) (.slice ar rs.length cr) (.int .i64 en)); clear hf hn hr r0) | (go_at_call 34; refine (end_yes (w.heap.size + 2) s _ SR.out hs).mono ?_; rintro e w2 ⟨rfl, hr2, hf2⟩; have E0 := hideC (B.below S0.out hf2.below (show w.heap.size < w.heap.size + 2 by omega)); have E1 := hideC (B.below S1.out hf2.below (show w.heap.size + 1 < w.heap.size + 2 by omega)); have EB := hideC (SB.out.trans (hf2.below.mono (show w.heap.size ≤ w.heap.size + 2 by omega))); have EN := hideC (SN.out.frm hf2 (by omega)); have y0 := B.cell E0.out 0 rfl; have y1 := B.cell E0.out 1 rfl; have y2 := B.cell E0.out 2 rfl; have y3 := B.cell E0.out 3 rfl; have y4 := B.cell E0.out 4 rfl; have y5 := B.cell E0.out 5 rfl; clear hr2 hf2) | (go_at_call 10; refine (check_any ⟨nm, ns, gs, ys, rs, en⟩ ⟨an, cn, ag, cg, ay, cy, ar, cr⟩ _ EN.out.im HFI.out).mono ?_; rintro e w3 ⟨rfl, hb3⟩; rw [hc]; have G0 := hideC (B.below E0.out hb3 (B.isLt E0.out)); have G1 := hideC (B.below E1.out hb3 (B.isLt E1.out)); have GB := hideC (EB.out.trans (hb3.mono EB.out.size)); have GN := hideC (EN.out.below hb3); have y0 := B.cell G0.out 0 rfl; have y1 := B.cell G0.out 1 rfl; have y2 := B.cell G0.out 2 rfl; have y3 := B.cell G0.out 3 rfl; have y4 := B.cell G0.out 4 rfl; have y5 := B.cell G0.out 5 rfl; have yf := B.free G0.out; have z0 := B.cell G1.out 0 rfl; have zf := B.free G1.out; clear hb3) | (go_at_call 35; refine (must_yes _ _).mono ?_; rintro e w'' ⟨rfl, rfl⟩))
        refine leaves_cons (f := 32) (args := #[.pointer (some ⟨w.heap.size, 0, none⟩), .pointer (some ⟨w.heap.size + 1, 0, none⟩)]) (by simp) (by simp [go_sem]) ?_
        refine (catch_idle ⟨w.heap.size, 0, none⟩ ⟨w.heap.size + 1, 0, none⟩ _).mono ?_
        rintro e u' w'' ⟨rfl, rfl, rfl⟩
        have FB := hideC ((set6_below GB.out (Nat.le_refl w.heap.size) (.string nm) (.slice an ns.length cn) (.slice ag gs.length cg) (.slice ay ys.length cy) (.slice ar rs.length cr) (.int .i64 en)).setCell (p := ⟨w.heap.size + 1, 0, none⟩) (show w.heap.size ≤ w.heap.size + 1 by omega) (.int .i64 0))
        have FN := hideC ((set6_has (g := w.heap.size) GN.out (by omega) (.string nm) (.slice an ns.length cn) (.slice ag gs.length cg) (.slice ay ys.length cy) (.slice ar rs.length cr) (.int .i64 en)).set (w.heap.size + 1) 0 (.int .i64 0) (by omega)).im
        simp [Leaves, settle, results, Try.results11, go_sem, y0, y1, y2, y3, y4, y5, z0]
        exact ⟨⟨⟨an, cn, ag, cg, ay, cy, ar, cr⟩, rfl, FN.out⟩, FB.out⟩
      · have hc' : (M.chkN i == 0) = false := by simpa using hc
        rw [if_neg (fun h => hc h.2)]
        go_enter_defers Try.func11, Try.ntmps11
        go_wp2_with (first | (go_at_call 33; refine (HC.out _ HW.out.symm).mono ?_; rintro e w1 ⟨⟨a, rfl, hn⟩, hr, hf⟩; obtain ⟨an, cn, ag, cg, ay, cy, ar, cr⟩ := a; obtain ⟨nm, ns, gs, ys, rs, en⟩ := i; simp only [M.cellsI]; have HF := hideC hf; have HN := hideC hn; have HR := hideC hr; have r0 := B.below R0.out HF.out.below (show w.heap.size < w.heap.size + 2 by omega); have y0 := B.cell r0 0 rfl; have y1 := B.cell r0 1 rfl; have y2 := B.cell r0 2 rfl; have y3 := B.cell r0 3 rfl; have y4 := B.cell r0 4 rfl; have y5 := B.cell r0 5 rfl; have yf := B.free r0; have Y1 := hideC (B.below R1.out HF.out.below (show w.heap.size + 1 < w.heap.size + 2 by omega)); have S0 := hideC (set6_row r0 (.string nm) (.slice an ns.length cn) (.slice ag gs.length cg) (.slice ay ys.length cy) (.slice ar rs.length cr) (.int .i64 en)); have S1 := hideC (set6_other (g := w.heap.size) Y1.out (by omega) (.string nm) (.slice an ns.length cn) (.slice ag gs.length cg) (.slice ay ys.length cy) (.slice ar rs.length cr) (.int .i64 en)); have SR := hideC (set6_rd hr w.heap.size (by omega) (.string nm) (.slice an ns.length cn) (.slice ag gs.length cg) (.slice ay ys.length cy) (.slice ar rs.length cr) (.int .i64 en)); have SB := hideC (set6_below (HB3.out.trans (HF.out.below.mono (show w.heap.size ≤ w.heap.size + 2 by omega))) (Nat.le_refl w.heap.size) (.string nm) (.slice an ns.length cn) (.slice ag gs.length cg) (.slice ay ys.length cy) (.slice ar rs.length cr) (.int .i64 en)); have SN := hideC (set6_has (g := w.heap.size) hn (by omega) (.string nm) (.slice an ns.length cn) (.slice ag gs.length cg) (.slice ay ys.length cy) (.slice ar rs.length cr) (.int .i64 en)); clear hf hn hr r0) | (go_at_call 34; refine (end_yes (w.heap.size + 2) s _ SR.out hs).mono ?_; rintro e w2 ⟨rfl, hr2, hf2⟩; have E0 := hideC (B.below S0.out hf2.below (show w.heap.size < w.heap.size + 2 by omega)); have E1 := hideC (B.below S1.out hf2.below (show w.heap.size + 1 < w.heap.size + 2 by omega)); have EB := hideC (SB.out.trans (hf2.below.mono (show w.heap.size ≤ w.heap.size + 2 by omega))); have EN := hideC (SN.out.frm hf2 (by omega)); have y0 := B.cell E0.out 0 rfl; have y1 := B.cell E0.out 1 rfl; have y2 := B.cell E0.out 2 rfl; have y3 := B.cell E0.out 3 rfl; have y4 := B.cell E0.out 4 rfl; have y5 := B.cell E0.out 5 rfl; clear hr2 hf2) | (go_at_call 10; refine (check_any ⟨nm, ns, gs, ys, rs, en⟩ ⟨an, cn, ag, cg, ay, cy, ar, cr⟩ _ EN.out.im HFI.out).mono ?_; rintro e w3 ⟨rfl, hb3⟩; generalize M.chkN ⟨nm, ns, gs, ys, rs, en⟩ = cc at *; have G0 := hideC (B.below E0.out hb3 (B.isLt E0.out)); have G1 := hideC (B.below E1.out hb3 (B.isLt E1.out)); have GB := hideC (EB.out.trans (hb3.mono EB.out.size)); have GN := hideC (EN.out.below hb3); have y0 := B.cell G0.out 0 rfl; have y1 := B.cell G0.out 1 rfl; have y2 := B.cell G0.out 2 rfl; have y3 := B.cell G0.out 3 rfl; have y4 := B.cell G0.out 4 rfl; have y5 := B.cell G0.out 5 rfl; have yf := B.free G0.out; have z0 := B.cell G1.out 0 rfl; have zf := B.free G1.out; clear hb3) | (go_at_call 35; refine (must_no _ _).mono ?_; rintro e w'' ⟨rfl, rfl⟩))
        refine leaves_cons (f := 32) (args := #[.pointer (some ⟨w.heap.size, 0, none⟩), .pointer (some ⟨w.heap.size + 1, 0, none⟩)]) (by simp) (by simp [go_sem]) ?_
        refine (catch_panicking w.heap.size (w.heap.size + 1) _ _ _ _ _ _ _ 90 _ [] _ G0.out G1.out (by omega)).mono ?_
        rintro e u' w'' ⟨rfl, rfl, rfl⟩
        have x0 := B.cell G0.out 0 rfl
        have x1 := B.cell G0.out 1 rfl
        have x2 := B.cell G0.out 2 rfl
        have x3 := B.cell G0.out 3 rfl
        have x4 := B.cell G0.out 4 rfl
        have x5 := B.cell G0.out 5 rfl
        have x9 := B.cell G1.out 0 rfl
        have HB := hideC (noImage_below GB.out (Nat.le_refl w.heap.size) (show w.heap.size ≤ w.heap.size + 1 by omega))
        simp [Leaves, settle, results, Try.results11, go_sem, noImage, x0, x1, x2, x3, x4, x5, x9]
        exact ⟨rfl, HB.out⟩
    · rw [if_neg (fun h => hl h.1)]
      go_enter_defers Try.func11, Try.ntmps11
      go_wp2_with (first | (go_at_call 33; refine (HC.out _ HW.out.symm).mono ?_; rintro e w1 ⟨⟨a, rfl, hn⟩, hr, hf⟩; obtain ⟨an, cn, ag, cg, ay, cy, ar, cr⟩ := a; obtain ⟨nm, ns, gs, ys, rs, en⟩ := i; simp only [M.cellsI]; have HF := hideC hf; have HN := hideC hn; have HR := hideC hr; have r0 := B.below R0.out HF.out.below (show w.heap.size < w.heap.size + 2 by omega); have y0 := B.cell r0 0 rfl; have y1 := B.cell r0 1 rfl; have y2 := B.cell r0 2 rfl; have y3 := B.cell r0 3 rfl; have y4 := B.cell r0 4 rfl; have y5 := B.cell r0 5 rfl; have yf := B.free r0; have Y1 := hideC (B.below R1.out HF.out.below (show w.heap.size + 1 < w.heap.size + 2 by omega)); have S0 := hideC (set6_row r0 (.string nm) (.slice an ns.length cn) (.slice ag gs.length cg) (.slice ay ys.length cy) (.slice ar rs.length cr) (.int .i64 en)); have S1 := hideC (set6_other (g := w.heap.size) Y1.out (by omega) (.string nm) (.slice an ns.length cn) (.slice ag gs.length cg) (.slice ay ys.length cy) (.slice ar rs.length cr) (.int .i64 en)); have SR := hideC (set6_rd hr w.heap.size (by omega) (.string nm) (.slice an ns.length cn) (.slice ag gs.length cg) (.slice ay ys.length cy) (.slice ar rs.length cr) (.int .i64 en)); have SB := hideC (set6_below (HB3.out.trans (HF.out.below.mono (show w.heap.size ≤ w.heap.size + 2 by omega))) (Nat.le_refl w.heap.size) (.string nm) (.slice an ns.length cn) (.slice ag gs.length cg) (.slice ay ys.length cy) (.slice ar rs.length cr) (.int .i64 en)); have SN := hideC (set6_has (g := w.heap.size) hn (by omega) (.string nm) (.slice an ns.length cn) (.slice ag gs.length cg) (.slice ay ys.length cy) (.slice ar rs.length cr) (.int .i64 en)); clear hf hn hr r0) | (go_at_call 34; refine (end_no (w.heap.size + 2) s l' _ SR.out hl hs).mono ?_; rintro e w2 ⟨rfl, hf2⟩; have E0 := hideC (B.below S0.out hf2.below (show w.heap.size < w.heap.size + 2 by omega)); have E1 := hideC (B.below S1.out hf2.below (show w.heap.size + 1 < w.heap.size + 2 by omega)); have EB := hideC (SB.out.trans (hf2.below.mono (show w.heap.size ≤ w.heap.size + 2 by omega))); clear hf2))
      refine leaves_cons (f := 32) (args := #[.pointer (some ⟨w.heap.size, 0, none⟩), .pointer (some ⟨w.heap.size + 1, 0, none⟩)]) (by simp) (by simp [go_sem]) ?_
      refine (catch_panicking w.heap.size (w.heap.size + 1) _ _ _ _ _ _ _ 90 _ [] _ E0.out E1.out (by omega)).mono ?_
      rintro e u' w'' ⟨rfl, rfl, rfl⟩
      have x0 := B.cell E0.out 0 rfl
      have x1 := B.cell E0.out 1 rfl
      have x2 := B.cell E0.out 2 rfl
      have x3 := B.cell E0.out 3 rfl
      have x4 := B.cell E0.out 4 rfl
      have x5 := B.cell E0.out 5 rfl
      have x9 := B.cell E1.out 0 rfl
      have HB := hideC (noImage_below EB.out (Nat.le_refl w.heap.size) (show w.heap.size ≤ w.heap.size + 1 by omega))
      simp [Leaves, settle, results, Try.results11, go_sem, noImage, x0, x1, x2, x3, x4, x5, x9]
      exact ⟨rfl, HB.out⟩
end Go.Proofs.Ytafdgjpmhofinaa.W
