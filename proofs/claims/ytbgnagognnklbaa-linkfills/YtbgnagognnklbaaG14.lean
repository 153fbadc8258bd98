import Derived.Test.YtbgnagognnklbaaG13
import Derived.Test.YtbgnagognnklbaaG06
namespace Go.Proofs.Ytbgnagognnklbaa.W
open Go.RowKit
set_option linter.unusedVariables false

set_option maxRecDepth 100000 in
set_option maxHeartbeats 4000000 in
theorem rightNames_any (i : M.Im) (a : M.At) (w : World) (h : M.HasIm w a i) (hf : M.Fit i) : Calls Try.prog 68 #[.agg (M.cellsI a i)] w fun e w' => e = .returned (.bool (M.namesB i)) ∧ Below w.heap.size w w' := by
  obtain ⟨an, cn, ag, cg, ay, cy, ar, cr⟩ := a
  obtain ⟨nm, ns, gs, ys, rs, en⟩ := i
  obtain ⟨h1, h2, h3, h4⟩ := h
  obtain ⟨f1, f2, f3, f4, f5, f6, f7, f8, f9, f10⟩ := hf
  simp only at h1 h2 h3 h4 f1 f2 f3 f4 f5 f6 f7 f8 f9 f10
  unfold M.Short at f2 f6 f8
  simp only [M.cellsI, M.namesB]
  have H1 := hideC h1
  have H3 := hideC h3
  have H4 := hideC h4
  have F3 := hideC f3
  have F7 := hideC f7
  have F9 := hideC f9
  clear h1 h2 h3 h4 f3 f4 f5 f7 f9 f10
  have BOX := hideC (B.new w #[.string nm, .slice an ns.length cn, .slice ag gs.length cg, .slice ay ys.length cy, .slice ar rs.length cr, .int .i64 en] 27)
  have HB0 := hideC ((Below.refl w.heap.size w).alloc (Nat.le_refl _) (.cells #[.string nm, .slice an ns.length cn, .slice ag gs.length cg, .slice ay ys.length cy, .slice ar rs.length cr, .int .i64 en] 27))
  obtain ⟨X, hX⟩ : ∃ X : Array Value, X = #[.string nm, .slice an ns.length cn, .slice ag gs.length cg, .slice ay ys.length cy, .slice ar rs.length cr, .int .i64 en] := ⟨_, rfl⟩
  have HX := hideC hX
  rw [← hX] at BOX HB0
  clear hX
  cases e1 : M.nameB nm
  · go_enter Try.func68, Try.ntmps68
    go_wp2_with (go_at_call 86; refine (isName_any _ _ f1).mono ?_; rintro e w' ⟨rfl, rfl⟩; rw [e1])
    go_ret
    rw [← HX.out]
    exact ⟨rfl, HB0.out⟩
  · go_enter Try.func68, Try.ntmps68
    go_wp2_with (go_at_call 86; refine (isName_any _ _ f1).mono ?_; rintro e w' ⟨rfl, rfl⟩; rw [e1])
    rw [← HX.out]
    go_loopw [16] (fun i wr => ∃ k : Nat, k ≤ ns.length ∧ i = .int .i64 k ∧ (∀ j, j < k → M.nameB (M.strAt ns j) = true) ∧ wr.heap[w.heap.size]? = some (.cells X 27 (0, 0)) ∧ Below w.heap.size w wr) (fun i _ => ns.length - (intOf i).toNat)
    case atStart => exact ⟨0, by omega, rfl, fun j h => by omega, BOX.out, HB0.out⟩
    case round =>
      obtain ⟨k0, hk, rfl, hall, hbox, hb⟩ := hrel
      have HA0 := hideC hall
      have BOX0 := hideC hbox
      have HB1 := hideC hb
      have bx0 := B.cell hbox 0 (by rw [HX.out]; rfl)
      have bx1 := B.cell hbox 1 (by rw [HX.out]; rfl)
      have bx2 := B.cell hbox 2 (by rw [HX.out]; rfl)
      have bx3 := B.cell hbox 3 (by rw [HX.out]; rfl)
      have bx4 := B.cell hbox 4 (by rw [HX.out]; rfl)
      have bx5 := B.cell hbox 5 (by rw [HX.out]; rfl)
      clear hall hbox
      by_cases hlt : k0 < ns.length
      · obtain ⟨b, off, hao, hbl, hl⟩ := H1.out (by omega)
        have hli : (k0 : Int) < (ns.length : Int) := by omega
        have c0 := M.lieS hb hbl hl k0 hlt
        have fs := F3.out k0 hlt
        obtain ⟨x, hx⟩ : ∃ x, x = M.strAt ns k0 := ⟨_, rfl⟩
        rw [← hx] at c0 fs
        have HXX := hideC hx
        clear hx hb hl
        subst hao
        cases hc : M.nameB x
        · have HR : Hid ((true && (ns.all M.nameB && (ys.all (fun y => M.nameB y.name) && rs.all M.relNameB))) = false) := by
            show _ = _
            rw [M.all_false M.nameB M.nil ns k0 hlt (by show M.nameB (M.strAt ns k0) = false; rw [← HXX.out]; exact hc)]
            simp
          go_wp2_with (go_at_call 86; refine (isName_any _ _ fs).mono ?_; rintro e w' ⟨rfl, rfl⟩; rw [hc])
          go_ret
          exact ⟨ret_bool HR.out.symm, HB1.out⟩
        · go_wp2_with (go_at_call 86; refine (isName_any _ _ fs).mono ?_; rintro e w' ⟨rfl, rfl⟩; rw [hc])
          go_roundw
          case rel => exact ⟨k0 + 1, by omega, by go_num, fun j h => if e : j = k0 then by rw [e, ← HXX.out]; exact hc else HA0.out j (by omega), BOX0.out, HB1.out⟩
          case measure => simp [intOf]; omega
      · obtain rfl : k0 = ns.length := by omega
        clear hb
        go_wp2_with (go_at_call 86; fail)
        go_loopw [27] (fun i wr => ∃ k : Nat, k ≤ ys.length ∧ i = .int .i64 k ∧ (∀ j, j < k → M.nameB (M.syAt ys j).name = true) ∧ wr.heap[w.heap.size]? = some (.cells X 27 (0, 0)) ∧ Below w.heap.size w wr) (fun i _ => ys.length - (intOf i).toNat)
        case atStart => exact ⟨0, by omega, rfl, fun j h => by omega, BOX0.out, HB1.out⟩
        case round =>
          obtain ⟨k1, hk, rfl, hall, hbox, hb⟩ := hrel
          have HA1 := hideC hall
          have BOX1 := hideC hbox
          have HB2 := hideC hb
          have bx0 := B.cell hbox 0 (by rw [HX.out]; rfl)
          have bx1 := B.cell hbox 1 (by rw [HX.out]; rfl)
          have bx2 := B.cell hbox 2 (by rw [HX.out]; rfl)
          have bx3 := B.cell hbox 3 (by rw [HX.out]; rfl)
          have bx4 := B.cell hbox 4 (by rw [HX.out]; rfl)
          have bx5 := B.cell hbox 5 (by rw [HX.out]; rfl)
          clear hall hbox
          by_cases hlt : k1 < ys.length
          · obtain ⟨b, off, hao, hbl, hl⟩ := H3.out (by omega)
            have hli : (k1 : Int) < (ys.length : Int) := by omega
            obtain ⟨c0, c1⟩ := M.lieY hb hbl hl k1 hlt
            have fs := (F7.out k1 hlt).1
            obtain ⟨y, hx⟩ : ∃ y, y = M.syAt ys k1 := ⟨_, rfl⟩
            rw [← hx] at c0 c1 fs
            have HXX := hideC hx
            clear hx hb hl
            obtain ⟨x, xp⟩ := y
            simp only at c0 c1 fs
            subst hao
            cases hc : M.nameB x
            · have HR : Hid ((true && (ns.all M.nameB && (ys.all (fun y => M.nameB y.name) && rs.all M.relNameB))) = false) := by
                show _ = _
                rw [M.all_false (fun y => M.nameB y.name) M.sy0 ys k1 hlt (by show M.nameB (M.syAt ys k1).name = false; rw [← HXX.out]; exact hc)]
                simp
              go_wp2_with (go_at_call 86; refine (isName_any _ _ fs).mono ?_; rintro e w' ⟨rfl, rfl⟩; rw [hc])
              go_ret
              exact ⟨ret_bool HR.out.symm, HB2.out.alloc HB2.out.size _⟩
            · go_wp2_with (go_at_call 86; refine (isName_any _ _ fs).mono ?_; rintro e w' ⟨rfl, rfl⟩; rw [hc])
              go_roundw
              case rel => exact ⟨k1 + 1, by omega, by go_num, fun j h => if e : j = k1 then by rw [e, ← HXX.out]; exact hc else HA1.out j (by omega), B.alloc BOX1.out _, HB2.out.alloc HB2.out.size _⟩
              case measure => simp [intOf]; omega
          · obtain rfl : k1 = ys.length := by omega
            clear hb
            go_wp2_with (go_at_call 86; fail)
            go_loopw [39] (fun i wr => ∃ k : Nat, k ≤ rs.length ∧ i = .int .i64 k ∧ (∀ j, j < k → M.relNameB (M.rlAt rs j) = true) ∧ wr.heap[w.heap.size]? = some (.cells X 27 (0, 0)) ∧ Below w.heap.size w wr) (fun i _ => rs.length - (intOf i).toNat)
            case atStart => exact ⟨0, by omega, rfl, fun j h => by omega, BOX1.out, HB2.out⟩
            case round =>
              obtain ⟨k2, hk, rfl, hall, hbox, hb⟩ := hrel
              have HA2 := hideC hall
              have BOX2 := hideC hbox
              have HB3 := hideC hb
              have bx0 := B.cell hbox 0 (by rw [HX.out]; rfl)
              have bx1 := B.cell hbox 1 (by rw [HX.out]; rfl)
              have bx2 := B.cell hbox 2 (by rw [HX.out]; rfl)
              have bx3 := B.cell hbox 3 (by rw [HX.out]; rfl)
              have bx4 := B.cell hbox 4 (by rw [HX.out]; rfl)
              have bx5 := B.cell hbox 5 (by rw [HX.out]; rfl)
              clear hall hbox
              by_cases hlt : k2 < rs.length
              · obtain ⟨b, off, hao, hbl, hl⟩ := H4.out (by omega)
                have hli : (k2 : Int) < (rs.length : Int) := by omega
                obtain ⟨c0, c1, c2⟩ := M.lieR hb hbl hl k2 hlt
                have fs := (F9.out k2 hlt).2.1
                obtain ⟨y, hx⟩ : ∃ y, y = M.rlAt rs k2 := ⟨_, rfl⟩
                rw [← hx] at c0 c1 c2 fs
                have HXX := hideC hx
                clear hx hb hl
                obtain ⟨xp, x, xa⟩ := y
                simp only at c0 c1 c2 fs
                subst hao
                by_cases he : x.size = 0
                · have hrl : Hid (M.relNameB ⟨xp, x, xa⟩ = true) := by show _ = _; unfold M.relNameB; simp only; rw [decide_eq_true he]; rfl
                  obtain rfl : x = ⟨#[]⟩ := by cases x with | mk d => congr 1; exact Array.eq_empty_of_size_eq_zero he
                  go_wp2
                  go_roundw
                  case rel => exact ⟨k2 + 1, by omega, by go_num, fun j h => if e : j = k2 then by rw [e, ← HXX.out]; exact hrl.out else HA2.out j (by omega), B.alloc BOX2.out _, HB3.out.alloc HB3.out.size _⟩
                  case measure => simp [intOf]; omega
                · have hne : ¬ x.toList = [] := by rw [Lib.toList_data]; intro e; exact he (by rw [Lib.size_eq, e]; rfl)
                  have hne2 : x.toList.isEmpty = false := by cases hh : x.toList with | nil => exact absurd hh hne | cons _ _ => rfl
                  cases hc : M.nameB x
                  · have HR : Hid ((true && (ns.all M.nameB && (ys.all (fun y => M.nameB y.name) && rs.all M.relNameB))) = false) := by
                      show _ = _
                      rw [M.all_false M.relNameB M.rl0 rs k2 hlt (by show M.relNameB (M.rlAt rs k2) = false; rw [← HXX.out]; unfold M.relNameB; simp only; rw [hc, decide_eq_false he]; rfl)]
                      simp
                    go_wp2_with (go_at_call 86; refine (isName_any _ _ fs).mono ?_; rintro e w' ⟨rfl, rfl⟩; rw [hc])
                    go_ret
                    exact ⟨ret_bool HR.out.symm, HB3.out.alloc HB3.out.size _⟩
                  · have hrl : Hid (M.relNameB ⟨xp, x, xa⟩ = true) := by show _ = _; unfold M.relNameB; simp only; rw [hc]; simp
                    go_wp2_with (go_at_call 86; refine (isName_any _ _ fs).mono ?_; rintro e w' ⟨rfl, rfl⟩; rw [hc])
                    go_roundw
                    case rel => exact ⟨k2 + 1, by omega, by go_num, fun j h => if e : j = k2 then by rw [e, ← HXX.out]; exact hrl.out else HA2.out j (by omega), B.alloc BOX2.out _, HB3.out.alloc HB3.out.size _⟩
                    case measure => simp [intOf]; omega
              · obtain rfl : k2 = rs.length := by omega
                clear hb
                have HR : Hid ((true && (ns.all M.nameB && (ys.all (fun y => M.nameB y.name) && rs.all M.relNameB))) = true) := by
                  show _ = _
                  rw [M.all_true M.nameB M.nil ns (fun j hj => HA0.out j hj), M.all_true (fun y => M.nameB y.name) M.sy0 ys (fun j hj => HA1.out j hj), M.all_true M.relNameB M.rl0 rs (fun j hj => HA2.out j hj)]
                  rfl
                go_wp2
                go_ret
                exact ⟨ret_bool HR.out.symm, HB3.out⟩
end Go.Proofs.Ytbgnagognnklbaa.W
namespace Go.Proofs.Ytbgnagognnklbaa.W
open Go.RowKit
set_option linter.unusedVariables false

set_option maxHeartbeats 2000000 in
theorem rightCounts_any (i : M.Im) (a : M.At) (w : World) (hf : M.Fit i) : Calls Try.prog 69 #[.agg (M.cellsI a i)] w fun e w' => e = .returned (.bool (M.countsB i)) ∧ Below w.heap.size w w' := by
  obtain ⟨an, cn, ag, cg, ay, cy, ar, cr⟩ := a
  obtain ⟨nm, ns, gs, ys, rs, en⟩ := i
  obtain ⟨f1, f2, f3, f4, f5, f6, f7, f8, f9, f10⟩ := hf
  simp only at f2 f4 f6 f8
  unfold M.Short at f2 f4 f6 f8
  simp only [M.cellsI, M.countsB]
  have HB0 : ∀ o, Hid (Below w.heap.size w (w.alloc o)) := fun o => (Below.refl w.heap.size w).alloc (Nat.le_refl _) o
  obtain ⟨r, hr⟩ : ∃ r, r = decide (1 ≤ gs.length ∧ gs.length ≤ 6 ∧ ns.length ≤ 4 ∧ ys.length ≤ 12 ∧ rs.length ≤ 16) := ⟨_, rfl⟩
  rw [← hr]
  have HR := hideC hr
  clear hr f1 f3 f5 f7 f9 f10
  obtain ⟨ln, hln⟩ : ∃ n, n = ns.length := ⟨_, rfl⟩
  obtain ⟨lg, hlg⟩ : ∃ n, n = gs.length := ⟨_, rfl⟩
  obtain ⟨ly, hly⟩ : ∃ n, n = ys.length := ⟨_, rfl⟩
  obtain ⟨lr, hlr⟩ : ∃ n, n = rs.length := ⟨_, rfl⟩
  rw [← hln, ← hlg, ← hly, ← hlr] at HR
  rw [← hln, ← hlg, ← hly, ← hlr]
  rw [← hln] at f2
  rw [← hlg] at f4
  rw [← hly] at f6
  rw [← hlr] at f8
  clear hln hlg hly hlr
  by_cases d1 : 1 ≤ (lg : Int)
  · by_cases d2 : (lg : Int) ≤ 6
    · by_cases d3 : (ln : Int) ≤ 4
      · by_cases d4 : (ly : Int) ≤ 12
        · by_cases d5 : (lr : Int) ≤ 16
          · have e : r = true := by rw [HR.out]; exact decide_eq_true (by omega)
            subst e
            have q1 : 1 ≤ lg := by omega
            have q2 : lg ≤ 6 := by omega
            have q3 : ln ≤ 4 := by omega
            have q4 : ly ≤ 12 := by omega
            have q5 : lr ≤ 16 := by omega
            go_enter Try.func69, Try.ntmps69
            go_wp2
            go_ret
            exact ⟨rfl, (HB0 _).out⟩
          · have e : r = false := by rw [HR.out]; exact decide_eq_false (by omega)
            subst e
            have q1 : 1 ≤ lg := by omega
            have q2 : lg ≤ 6 := by omega
            have q3 : ln ≤ 4 := by omega
            have q4 : ly ≤ 12 := by omega
            have q5 : decide ((lr : Int) ≤ 16) = false := decide_eq_false d5
            have q6 : decide (lr ≤ 16) = false := decide_eq_false (by omega)
            have q7 : ¬ lr ≤ 16 := by omega
            go_enter Try.func69, Try.ntmps69
            go_wp2
            go_ret
            exact ⟨rfl, (HB0 _).out⟩
        · have e : r = false := by rw [HR.out]; exact decide_eq_false (by omega)
          subst e
          have q1 : 1 ≤ lg := by omega
          have q2 : lg ≤ 6 := by omega
          have q3 : ln ≤ 4 := by omega
          have q4 : decide ((ly : Int) ≤ 12) = false := decide_eq_false d4
          have q6 : decide (ly ≤ 12) = false := decide_eq_false (by omega)
          have q7 : ¬ ly ≤ 12 := by omega
          go_enter Try.func69, Try.ntmps69
          go_wp2
          go_ret
          exact ⟨rfl, (HB0 _).out⟩
      · have e : r = false := by rw [HR.out]; exact decide_eq_false (by omega)
        subst e
        have q1 : 1 ≤ lg := by omega
        have q2 : lg ≤ 6 := by omega
        have q4 : decide ((ln : Int) ≤ 4) = false := decide_eq_false d3
        have q6 : decide (ln ≤ 4) = false := decide_eq_false (by omega)
        have q7 : ¬ ln ≤ 4 := by omega
        go_enter Try.func69, Try.ntmps69
        go_wp2
        go_ret
        exact ⟨rfl, (HB0 _).out⟩
    · have e : r = false := by rw [HR.out]; exact decide_eq_false (by omega)
      subst e
      have q1 : 1 ≤ lg := by omega
      have q4 : decide ((lg : Int) ≤ 6) = false := decide_eq_false d2
      have q6 : decide (lg ≤ 6) = false := decide_eq_false (by omega)
      have q7 : ¬ lg ≤ 6 := by omega
      go_enter Try.func69, Try.ntmps69
      go_wp2
      go_ret
      exact ⟨rfl, (HB0 _).out⟩
  · have e : r = false := by rw [HR.out]; exact decide_eq_false (by omega)
    subst e
    have q4 : decide ((1 : Int) ≤ (lg : Int)) = false := decide_eq_false d1
    obtain rfl : lg = 0 := by omega
    go_enter Try.func69, Try.ntmps69
    go_wp2
    go_ret
    exact ⟨rfl, (HB0 _).out⟩

set_option maxHeartbeats 4000000 in
theorem rightRanges_any (l : List M.Sg) (ao : Option Addr) (cap : Nat) (w : World) (h : M.HasBy M.LieG w ao l) (hn : M.Short l.length) (hf : ∀ k, k < l.length → M.FitG (M.sgAt l k)) :
    Calls Try.prog 70 #[.slice ao l.length cap] w fun e w' => e = .returned (.bool (l.all M.rangeB)) ∧ Below w.heap.size w w' := by
  unfold M.Short at hn
  have H := hideC h
  have F := hideC hf
  clear h hf
  go_enter Try.func70, Try.ntmps70
  go_wp2
  go_loopw [7] (fun i wr => ∃ k : Nat, k ≤ l.length ∧ i = .int .i64 k ∧ (∀ j, j < k → M.rangeB (M.sgAt l j) = true) ∧ Below w.heap.size w wr) (fun i _ => l.length - (intOf i).toNat)
  case atStart => exact ⟨0, by omega, rfl, fun j h => by omega, Below.refl _ _⟩
  case round =>
    obtain ⟨k, hk, rfl, hall, hb⟩ := hrel
    have HA := hideC hall
    have HB := hideC hb
    clear hall
    by_cases hlt : k < l.length
    · obtain ⟨b, off, hao, hbl, hl⟩ := H.out (by omega)
      subst hao
      obtain ⟨c0, c1, c2, c3, c4⟩ := M.lieG hb hbl hl k hlt
      obtain ⟨g1, g2, g3⟩ := F.out k hlt
      obtain ⟨s, hs⟩ : ∃ s, s = M.sgAt l k := ⟨_, rfl⟩
      rw [← hs] at c0 c1 c2 c3 c4 g1 g2 g3
      have HS := hideC hs
      clear hs hb hl
      obtain ⟨p, n, d, x, y⟩ := s
      simp only at c0 c1 c2 c3 c4 g1 g2 g3
      unfold M.I64 at g1 g2
      unfold M.Short at g3
      have hml : d.size ≤ maxLen := by unfold maxLen; omega
      have hli : (k : Int) < (l.length : Int) := by omega
      have hbad : Hid (¬ (0 ≤ p ∧ 1 ≤ n ∧ p + n ≤ 255 ∧ (d.size : Int) ≤ n * 16) → l.all M.rangeB = false) := fun hx =>
        M.all_false M.rangeB M.sg0 l k hlt (by show M.rangeB (M.sgAt l k) = false; rw [← HS.out]; exact decide_eq_false hx)
      by_cases d1 : 0 ≤ p
      · have d1' : ¬ p < 0 := by omega
        by_cases d2 : 1 ≤ n
        · have d2' : ¬ n < 1 := by omega
          by_cases d3 : p + n ≤ 255
          · have d3' : ¬ 255 - p < n := by omega
            by_cases d4 : (d.size : Int) ≤ n * 16
            · have d4' : ¬ n * 16 < (d.size : Int) := by omega
              have hgood : Hid (M.rangeB ⟨p, n, d, x, y⟩ = true) := decide_eq_true ⟨d1, d2, d3, d4⟩
              go_wp2
              go_roundw
              case rel => exact ⟨k + 1, by omega, by go_num, fun j h => if e : j = k then by rw [e, ← HS.out]; exact hgood.out else HA.out j (by omega), HB.out.alloc HB.out.size _⟩
              case measure => simp [intOf]; omega
            · have d4' : n * 16 < (d.size : Int) := by omega
              have HR := hideC (hbad.out (by omega))
              go_wp2
              go_ret
              exact ⟨ret_bool HR.out.symm, HB.out.alloc HB.out.size _⟩
          · have d3' : 255 - p < n := by omega
            have HR := hideC (hbad.out (by omega))
            go_wp2
            go_ret
            exact ⟨ret_bool HR.out.symm, HB.out.alloc HB.out.size _⟩
        · have d2' : n < 1 := by omega
          have HR := hideC (hbad.out (by omega))
          go_wp2
          go_ret
          exact ⟨ret_bool HR.out.symm, HB.out.alloc HB.out.size _⟩
      · have d1' : p < 0 := by omega
        have HR := hideC (hbad.out (by omega))
        go_wp2
        go_ret
        exact ⟨ret_bool HR.out.symm, HB.out.alloc HB.out.size _⟩
    · obtain rfl : k = l.length := by omega
      have HR := hideC (M.all_true M.rangeB M.sg0 l (fun j hj => HA.out j hj))
      clear hb
      go_wp2
      go_ret
      exact ⟨ret_bool HR.out.symm, HB.out⟩

end Go.Proofs.Ytbgnagognnklbaa.W
