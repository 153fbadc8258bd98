import Derived.Test.YtafdgjpmhofinaaW2
namespace Go.Proofs.Ytafdgjpmhofinaa.W
open Go.RowKit
set_option linter.unusedVariables false

set_option maxRecDepth 100000 in
set_option maxHeartbeats 4000000 in
theorem namesFine_any (i : M.Im) (a : M.At) (w : World) (h : M.HasIm w a i) (hf : M.Fit i) : Calls Try.prog 15 #[.agg (M.cellsI a i)] w fun e w' => e = .returned (.bool (M.namesB i)) ∧ Below w.heap.size w w' := by
  obtain ⟨an, cn, ag, cg, ay, cy, ar, cr⟩ := a
  obtain ⟨nm, ns, gs, ys, rs, en⟩ := i
  obtain ⟨h1, h2, h3, h4⟩ := h
  obtain ⟨f1, f2, f3, f4, f5, f6, f7, f8, f9, f10⟩ := hf
  simp only at h1 h2 h3 h4 f1 f2 f3 f4 f5 f6 f7 f8 f9 f10
  unfold M.Short at f2 f6 f8
  simp only [M.cellsI, M.namesB]
  have H1 := hideC h1
  have H3 := hideC h3
  have H4 := hideC h4
  have F3 := hideC f3
  have F7 := hideC f7
  have F9 := hideC f9
  clear h1 h2 h3 h4 f3 f4 f5 f7 f9 f10
  have BOX := hideC (B.new w #[.string nm, .slice an ns.length cn, .slice ag gs.length cg, .slice ay ys.length cy, .slice ar rs.length cr, .int .i64 en] 27)
  have HB0 := hideC ((Below.refl w.heap.size w).alloc (Nat.le_refl _) (.cells #[.string nm, .slice an ns.length cn, .slice ag gs.length cg, .slice ay ys.length cy, .slice ar rs.length cr, .int .i64 en] 27))
  obtain ⟨X, hX⟩ : ∃ X : Array Value, X = #[.string nm, .slice an ns.length cn, .slice ag gs.length cg, .slice ay ys.length cy, .slice ar rs.length cr, .int .i64 en] := ⟨_, rfl⟩
  have HX := hideC hX
  rw [← hX] at BOX HB0
  clear hX
  cases e1 : M.nameB nm
  · go_enter Try.func15, Try.ntmps15
    go_wp2_with (go_at_call 43; refine (named_any _ _ f1).mono ?_; rintro e w' ⟨rfl, rfl⟩; rw [e1])
    go_ret
    rw [← HX.out]
    exact ⟨rfl, HB0.out⟩
  · go_enter Try.func15, Try.ntmps15
    go_wp2_with (go_at_call 43; refine (named_any _ _ f1).mono ?_; rintro e w' ⟨rfl, rfl⟩; rw [e1])
    rw [← HX.out]
    go_loopw [3] (fun i wr => ∃ k : Nat, k ≤ ns.length ∧ i = .int .i64 k ∧ (∀ j, j < k → M.nameB (M.strAt ns j) = true) ∧ wr.heap[w.heap.size]? = some (.cells X 27 (0, 0)) ∧ Below w.heap.size w wr) (fun i _ => ns.length - (intOf i).toNat)
    case atStart => exact ⟨0, by omega, rfl, fun j h => by omega, BOX.out, HB0.out⟩
    case round =>
      obtain ⟨k0, hk, rfl, hall, hbox, hb⟩ := hrel
      have HA0 := hideC hall
      have BOX0 := hideC hbox
      have HB1 := hideC hb
      have bx0 := B.cell hbox 0 (by rw [HX.out]; rfl)
      have bx1 := B.cell hbox 1 (by rw [HX.out]; rfl)
      have bx2 := B.cell hbox 2 (by rw [HX.out]; rfl)
      have bx3 := B.cell hbox 3 (by rw [HX.out]; rfl)
      have bx4 := B.cell hbox 4 (by rw [HX.out]; rfl)
      have bx5 := B.cell hbox 5 (by rw [HX.out]; rfl)
      clear hall hbox
      by_cases hlt : k0 < ns.length
      · obtain ⟨b, off, hao, hbl, hl⟩ := H1.out (by omega)
        have hli : (k0 : Int) < (ns.length : Int) := by omega
        have c0 := M.lieS hb hbl hl k0 hlt
        have fs := F3.out k0 hlt
        obtain ⟨x, hx⟩ : ∃ x, x = M.strAt ns k0 := ⟨_, rfl⟩
        rw [← hx] at c0 fs
        have HXX := hideC hx
        clear hx hb hl
        subst hao
        cases hc : M.nameB x
        · have HR : Hid ((true && (ns.all M.nameB && (ys.all (fun y => M.nameB y.name) && rs.all M.relNameB))) = false) := by
            show _ = _
            rw [M.all_false M.nameB M.nil ns k0 hlt (by show M.nameB (M.strAt ns k0) = false; rw [← HXX.out]; exact hc)]
            simp
          go_wp2_with (go_at_call 43; refine (named_any _ _ fs).mono ?_; rintro e w' ⟨rfl, rfl⟩; rw [hc])
          go_ret
          exact ⟨ret_bool HR.out.symm, HB1.out⟩
        · go_wp2_with (go_at_call 43; refine (named_any _ _ fs).mono ?_; rintro e w' ⟨rfl, rfl⟩; rw [hc])
          go_roundw
          case rel => exact ⟨k0 + 1, by omega, by go_num, fun j h => if e : j = k0 then by rw [e, ← HXX.out]; exact hc else HA0.out j (by omega), BOX0.out, HB1.out⟩
          case measure => simp [intOf]; omega
      · obtain rfl : k0 = ns.length := by omega
        clear hb
        go_wp2_with (go_at_call 43; fail)
        go_loopw [4] (fun i wr => ∃ k : Nat, k ≤ ys.length ∧ i = .int .i64 k ∧ (∀ j, j < k → M.nameB (M.syAt ys j).name = true) ∧ wr.heap[w.heap.size]? = some (.cells X 27 (0, 0)) ∧ Below w.heap.size w wr) (fun i _ => ys.length - (intOf i).toNat)
        case atStart => exact ⟨0, by omega, rfl, fun j h => by omega, BOX0.out, HB1.out⟩
        case round =>
          obtain ⟨k1, hk, rfl, hall, hbox, hb⟩ := hrel
          have HA1 := hideC hall
          have BOX1 := hideC hbox
          have HB2 := hideC hb
          have bx0 := B.cell hbox 0 (by rw [HX.out]; rfl)
          have bx1 := B.cell hbox 1 (by rw [HX.out]; rfl)
          have bx2 := B.cell hbox 2 (by rw [HX.out]; rfl)
          have bx3 := B.cell hbox 3 (by rw [HX.out]; rfl)
          have bx4 := B.cell hbox 4 (by rw [HX.out]; rfl)
          have bx5 := B.cell hbox 5 (by rw [HX.out]; rfl)
          clear hall hbox
          by_cases hlt : k1 < ys.length
          · obtain ⟨b, off, hao, hbl, hl⟩ := H3.out (by omega)
            have hli : (k1 : Int) < (ys.length : Int) := by omega
            obtain ⟨c0, c1⟩ := M.lieY hb hbl hl k1 hlt
            have fs := (F7.out k1 hlt).1
            obtain ⟨y, hx⟩ : ∃ y, y = M.syAt ys k1 := ⟨_, rfl⟩
            rw [← hx] at c0 c1 fs
            have HXX := hideC hx
            clear hx hb hl
            obtain ⟨x, xp⟩ := y
            simp only at c0 c1 fs
            subst hao
            cases hc : M.nameB x
            · have HR : Hid ((true && (ns.all M.nameB && (ys.all (fun y => M.nameB y.name) && rs.all M.relNameB))) = false) := by
                show _ = _
                rw [M.all_false (fun y => M.nameB y.name) M.sy0 ys k1 hlt (by show M.nameB (M.syAt ys k1).name = false; rw [← HXX.out]; exact hc)]
                simp
              go_wp2_with (go_at_call 43; refine (named_any _ _ fs).mono ?_; rintro e w' ⟨rfl, rfl⟩; rw [hc])
              go_ret
              exact ⟨ret_bool HR.out.symm, HB2.out⟩
            · go_wp2_with (go_at_call 43; refine (named_any _ _ fs).mono ?_; rintro e w' ⟨rfl, rfl⟩; rw [hc])
              go_roundw
              case rel => exact ⟨k1 + 1, by omega, by go_num, fun j h => if e : j = k1 then by rw [e, ← HXX.out]; exact hc else HA1.out j (by omega), BOX1.out, HB2.out⟩
              case measure => simp [intOf]; omega
          · obtain rfl : k1 = ys.length := by omega
            clear hb
            go_wp2_with (go_at_call 43; fail)
            go_loopw [5] (fun i wr => ∃ k : Nat, k ≤ rs.length ∧ i = .int .i64 k ∧ (∀ j, j < k → M.relNameB (M.rlAt rs j) = true) ∧ wr.heap[w.heap.size]? = some (.cells X 27 (0, 0)) ∧ Below w.heap.size w wr) (fun i _ => rs.length - (intOf i).toNat)
            case atStart => exact ⟨0, by omega, rfl, fun j h => by omega, BOX1.out, HB2.out⟩
            case round =>
              obtain ⟨k2, hk, rfl, hall, hbox, hb⟩ := hrel
              have HA2 := hideC hall
              have BOX2 := hideC hbox
              have HB3 := hideC hb
              have bx0 := B.cell hbox 0 (by rw [HX.out]; rfl)
              have bx1 := B.cell hbox 1 (by rw [HX.out]; rfl)
              have bx2 := B.cell hbox 2 (by rw [HX.out]; rfl)
              have bx3 := B.cell hbox 3 (by rw [HX.out]; rfl)
              have bx4 := B.cell hbox 4 (by rw [HX.out]; rfl)
              have bx5 := B.cell hbox 5 (by rw [HX.out]; rfl)
              clear hall hbox
              by_cases hlt : k2 < rs.length
              · obtain ⟨b, off, hao, hbl, hl⟩ := H4.out (by omega)
                have hli : (k2 : Int) < (rs.length : Int) := by omega
                obtain ⟨c0, c1, c2⟩ := M.lieR hb hbl hl k2 hlt
                have fs := (F9.out k2 hlt).2.1
                obtain ⟨y, hx⟩ : ∃ y, y = M.rlAt rs k2 := ⟨_, rfl⟩
                rw [← hx] at c0 c1 c2 fs
                have HXX := hideC hx
                clear hx hb hl
                obtain ⟨xp, x, xa⟩ := y
                simp only at c0 c1 c2 fs
                subst hao
                by_cases he : x.size = 0
                · have hrl : Hid (M.relNameB ⟨xp, x, xa⟩ = true) := by show _ = _; unfold M.relNameB; simp only; rw [decide_eq_true he]; rfl
                  obtain rfl : x = ⟨#[]⟩ := by cases x with | mk d => congr 1; exact Array.eq_empty_of_size_eq_zero he
                  go_wp2
                  go_roundw
                  case rel => exact ⟨k2 + 1, by omega, by go_num, fun j h => if e : j = k2 then by rw [e, ← HXX.out]; exact hrl.out else HA2.out j (by omega), BOX2.out, HB3.out⟩
                  case measure => simp [intOf]; omega
                · have hne : ¬ x.toList = [] := by rw [Lib.toList_data]; intro e; exact he (by rw [Lib.size_eq, e]; rfl)
                  have hne2 : x.toList.isEmpty = false := by cases hh : x.toList with | nil => exact absurd hh hne | cons _ _ => rfl
                  cases hc : M.nameB x
                  · have HR : Hid ((true && (ns.all M.nameB && (ys.all (fun y => M.nameB y.name) && rs.all M.relNameB))) = false) := by
                      show _ = _
                      rw [M.all_false M.relNameB M.rl0 rs k2 hlt (by show M.relNameB (M.rlAt rs k2) = false; rw [← HXX.out]; unfold M.relNameB; simp only; rw [hc, decide_eq_false he]; rfl)]
                      simp
                    go_wp2_with (go_at_call 43; refine (named_any _ _ fs).mono ?_; rintro e w' ⟨rfl, rfl⟩; rw [hc])
                    go_ret
                    exact ⟨ret_bool HR.out.symm, HB3.out⟩
                  · have hrl : Hid (M.relNameB ⟨xp, x, xa⟩ = true) := by show _ = _; unfold M.relNameB; simp only; rw [hc]; simp
                    go_wp2_with (go_at_call 43; refine (named_any _ _ fs).mono ?_; rintro e w' ⟨rfl, rfl⟩; rw [hc])
                    go_roundw
                    case rel => exact ⟨k2 + 1, by omega, by go_num, fun j h => if e : j = k2 then by rw [e, ← HXX.out]; exact hrl.out else HA2.out j (by omega), BOX2.out, HB3.out⟩
                    case measure => simp [intOf]; omega
              · obtain rfl : k2 = rs.length := by omega
                clear hb
                have HR : Hid ((true && (ns.all M.nameB && (ys.all (fun y => M.nameB y.name) && rs.all M.relNameB))) = true) := by
                  show _ = _
                  rw [M.all_true M.nameB M.nil ns (fun j hj => HA0.out j hj), M.all_true (fun y => M.nameB y.name) M.sy0 ys (fun j hj => HA1.out j hj), M.all_true M.relNameB M.rl0 rs (fun j hj => HA2.out j hj)]
                  rfl
                go_wp2
                go_ret
                exact ⟨ret_bool HR.out.symm, HB3.out⟩
end Go.Proofs.Ytafdgjpmhofinaa.W
