import Derived.Test.YtbgnagognnklbaaG15
namespace Go.Proofs.Ytbgnagognnklbaa.W
open Go.RowKit
set_option linter.unusedVariables false

theorem placed_bounds {l : List M.Sg} (h : l.all M.rangeB = true) (a : Int) (hp : M.placedB l a = true) : 0 ≤ a ∧ a < 4080 := by
  induction l with
  | nil => cases hp
  | cons s r ih =>
    have h' : M.rangeB s = true ∧ r.all M.rangeB = true := by simpa using h
    have hs : 0 ≤ s.page ∧ 1 ≤ s.pages ∧ s.page + s.pages ≤ 255 ∧ (s.data.size : Int) ≤ s.pages * 16 := of_decide_eq_true h'.1
    unfold M.placedB M.segIn at hp
    cases e : M.inSeg s a
    · rw [e, if_neg (by simp)] at hp
      exact ih h'.2 hp
    · have := of_decide_eq_true e
      omega
theorem whole_yes {l : List M.Sg} {a : Int} (h : ∀ n : Nat, n < 8 → M.placedB l (a + n) = true) : M.wholeB l a = true := by
  have e0 := h 0 (by omega)
  have e1 := h 1 (by omega)
  have e2 := h 2 (by omega)
  have e3 := h 3 (by omega)
  have e4 := h 4 (by omega)
  have e5 := h 5 (by omega)
  have e6 := h 6 (by omega)
  have e7 := h 7 (by omega)
  simp only [Int.cast_ofNat_Int, Int.add_zero] at e0 e1 e2 e3 e4 e5 e6 e7
  unfold M.wholeB
  rw [e0, e1, e2, e3, e4, e5, e6, e7]
  rfl
theorem whole_at {l : List M.Sg} {a : Int} (h : M.wholeB l a = true) (n : Nat) (hn : n < 8) : M.placedB l (a + n) = true := by
  unfold M.wholeB at h
  simp only [Bool.and_eq_true] at h
  obtain ⟨e0, e1, e2, e3, e4, e5, e6, e7⟩ := h
  have : n = 0 ∨ n = 1 ∨ n = 2 ∨ n = 3 ∨ n = 4 ∨ n = 5 ∨ n = 6 ∨ n = 7 := by omega
  rcases this with rfl | rfl | rfl | rfl | rfl | rfl | rfl | rfl
  · simpa using e0
  · exact e1
  · exact e2
  · exact e3
  · exact e4
  · exact e5
  · exact e6
  · exact e7
theorem whole_no {l : List M.Sg} {a : Int} (n : Nat) (hn : n < 8) (h : M.placedB l (a + n) = false) : M.wholeB l a = false := by
  cases e : M.wholeB l a
  · rfl
  · rw [whole_at e n hn] at h; cases h
theorem rels_mono (i : M.Im) (k n : Nat) (h : M.relsTo i k = false) (hk : k ≤ n) : M.relsTo i n = false := by
  induction n with
  | zero => obtain rfl : k = 0 := by omega
            exact h
  | succ n ih =>
    rcases Nat.lt_or_ge n k with g | g
    · obtain rfl : k = n + 1 := by omega
      exact h
    · simp only [M.relsTo]
      rw [ih g]; rfl
theorem rels_at (i : M.Im) (k n : Nat) (h : M.relsTo i n = true) (hk : k < n) : M.relAt i k = true := by
  cases e : M.relAt i k
  · have : M.relsTo i (k + 1) = false := by simp only [M.relsTo]; rw [e, Bool.and_false]
    rw [rels_mono i (k + 1) n this hk] at h; cases h
  · rfl
theorem rels_no (i : M.Im) (k : Nat) (hk : k < i.rels.length) (h : M.relAt i k = false) : M.relsTo i i.rels.length = false :=
  rels_mono i (k + 1) _ (by simp only [M.relsTo]; rw [h, Bool.and_false]) hk

set_option maxRecDepth 100000 in
set_option maxHeartbeats 1500000 in
theorem symsPlaced_any (i : M.Im) (a : M.At) (w : World) (h : M.HasIm w a i) (hf : M.Fit i) (hr : i.segs.all M.rangeB = true) : Calls Try.prog 74 #[.agg (M.cellsI a i)] w fun e w' => e = .returned (.bool (i.syms.all (fun y => M.placedB i.segs y.pos))) ∧ Below w.heap.size w w' := by
  obtain ⟨an, cn, ag, cg, ay, cy, ar, cr⟩ := a
  obtain ⟨nm, ns, gs, ys, rs, en⟩ := i
  obtain ⟨h1, h2, h3, h4⟩ := h
  obtain ⟨f1, f2, f3, f4, f5, f6, f7, f8, f9, f10⟩ := hf
  simp only at h1 h2 h3 h4 f1 f2 f3 f4 f5 f6 f7 f8 f9 f10
  have F4 := hideC f4
  unfold M.Short at f2 f4 f6 f8
  simp only [M.cellsI]
  have H1 := hideC h1
  have H2 := hideC h2
  have H3 := hideC h3
  have H4 := hideC h4
  have F3 := hideC f3
  have F7 := hideC f7
  have F9 := hideC f9
  have F10 := hideC f10
  have HG := hideC hr
  clear h1 h2 h3 h4 f3 f5 f7 f9 f10 hr
  have BOX := hideC (B.new w #[.string nm, .slice an ns.length cn, .slice ag gs.length cg, .slice ay ys.length cy, .slice ar rs.length cr, .int .i64 en] 27)
  have HB0 := hideC ((Below.refl w.heap.size w).alloc (Nat.le_refl _) (.cells #[.string nm, .slice an ns.length cn, .slice ag gs.length cg, .slice ay ys.length cy, .slice ar rs.length cr, .int .i64 en] 27))
  obtain ⟨X, hX⟩ : ∃ X : Array Value, X = #[.string nm, .slice an ns.length cn, .slice ag gs.length cg, .slice ay ys.length cy, .slice ar rs.length cr, .int .i64 en] := ⟨_, rfl⟩
  have HX := hideC hX
  rw [← hX] at BOX HB0
  clear hX
  go_enter Try.func74, Try.ntmps74
  go_wp2
  rw [← HX.out]
  go_loopw [10] (fun i wr => ∃ k : Nat, k ≤ ys.length ∧ i = .int .i64 k ∧ (∀ j, j < k → M.placedB gs (M.syAt ys j).pos = true) ∧ wr.heap[w.heap.size]? = some (.cells X 27 (0, 0)) ∧ Below w.heap.size w wr) (fun i _ => ys.length - (intOf i).toNat)
  case atStart => exact ⟨0, by omega, rfl, fun j h => by omega, BOX.out, HB0.out⟩
  case round =>
    obtain ⟨k, hk, rfl, hall, hbox, hb⟩ := hrel
    have HA := hideC hall
    have BX := hideC hbox
    have HB := hideC hb
    have bx0 := B.cell hbox 0 (by rw [HX.out]; rfl)
    have bx1 := B.cell hbox 1 (by rw [HX.out]; rfl)
    have bx2 := B.cell hbox 2 (by rw [HX.out]; rfl)
    have bx3 := B.cell hbox 3 (by rw [HX.out]; rfl)
    have bx4 := B.cell hbox 4 (by rw [HX.out]; rfl)
    have bx5 := B.cell hbox 5 (by rw [HX.out]; rfl)
    clear hall hbox
    by_cases hlt : k < ys.length
    · obtain ⟨b, off, hao, hbl, hl⟩ := H3.out (by omega)
      have hli : (k : Int) < (ys.length : Int) := by omega
      obtain ⟨c0, c1⟩ := M.lieY hb hbl hl k hlt
      have fs := (F7.out k hlt).2
      obtain ⟨y, hx⟩ : ∃ y, y = M.syAt ys k := ⟨_, rfl⟩
      rw [← hx] at c0 c1 fs
      have HXX := hideC hx
      clear hx hb hl
      obtain ⟨x, xp⟩ := y
      simp only at c0 c1 fs
      subst hao
      have HB1 := hideC (HB.out.alloc HB.out.size (.cells #[.string x, .int .i64 xp] 116))
      have BX1 := hideC (B.alloc BX.out (.cells #[.string x, .int .i64 xp] 116))
      have hsz : w.heap.size < wr.heap.size := B.isLt BX.out
      have by2 := B.cell BX1.out 2 (by rw [HX.out]; rfl)
      cases hc : M.placedB gs xp
      · have HR := hideC (M.all_false (fun y => M.placedB gs y.pos) M.sy0 ys k hlt (by show M.placedB gs (M.syAt ys k).pos = false; rw [← HXX.out]; exact hc))
        go_wp2_with (go_at_call 87; refine (segAt_any gs ag cg xp _ (M.HasBy.below (lie := M.LieG) (fun hb hlt h => M.lieG hb hlt h) H2.out HB1.out) F4.out HG.out fs).mono ?_; rintro e w2 ⟨rfl, hb2⟩; rw [hc]; generalize segOr gs xp = sg; obtain ⟨sp, sn, sd, sx, sy⟩ := sg; simp only [cellsG]; have HB2 := hideC (HB1.out.trans (hb2.mono HB1.out.size)); have BX2 := hideC (B.below BX1.out hb2 (B.isLt BX1.out)); clear hb2)
        go_ret
        exact ⟨ret_bool HR.out.symm, HB2.out.alloc HB2.out.size _⟩
      · go_wp2_with (go_at_call 87; refine (segAt_any gs ag cg xp _ (M.HasBy.below (lie := M.LieG) (fun hb hlt h => M.lieG hb hlt h) H2.out HB1.out) F4.out HG.out fs).mono ?_; rintro e w2 ⟨rfl, hb2⟩; rw [hc]; generalize segOr gs xp = sg; obtain ⟨sp, sn, sd, sx, sy⟩ := sg; simp only [cellsG]; have HB2 := hideC (HB1.out.trans (hb2.mono HB1.out.size)); have BX2 := hideC (B.below BX1.out hb2 (B.isLt BX1.out)); clear hb2)
        go_roundw
        case rel => exact ⟨k + 1, by omega, by go_num, fun j h => if e : j = k then by rw [e, ← HXX.out]; exact hc else HA.out j (by omega), B.alloc BX2.out _, HB2.out.alloc HB2.out.size _⟩
        case measure => simp [intOf]; omega
    · obtain rfl : k = ys.length := by omega
      clear hb
      have HR := hideC (M.all_true (fun y => M.placedB gs y.pos) M.sy0 ys (fun j hj => HA.out j hj))
      go_wp2
      go_ret
      exact ⟨ret_bool HR.out.symm, HB.out⟩
end Go.Proofs.Ytbgnagognnklbaa.W
