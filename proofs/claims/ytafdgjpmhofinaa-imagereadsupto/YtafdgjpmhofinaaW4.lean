import Derived.Test.YtafdgjpmhofinaaW3
import Derived.Test.YtafdgjpmhofinaaQ
namespace Go.Proofs.Ytafdgjpmhofinaa.W
open Go.RowKit
set_option linter.unusedVariables false

set_option maxHeartbeats 2000000 in
theorem rightCounts_any (i : M.Im) (a : M.At) (w : World) (hf : M.Fit i) : Calls Try.prog 24 #[.agg (M.cellsI a i)] w fun e w' => e = .returned (.bool (M.countsB i)) ∧ Below w.heap.size w w' := by
  obtain ⟨an, cn, ag, cg, ay, cy, ar, cr⟩ := a
  obtain ⟨nm, ns, gs, ys, rs, en⟩ := i
  obtain ⟨f1, f2, f3, f4, f5, f6, f7, f8, f9, f10⟩ := hf
  simp only at f2 f4 f6 f8
  unfold M.Short at f2 f4 f6 f8
  simp only [M.cellsI, M.countsB]
  have HB0 : ∀ o, Hid (Below w.heap.size w (w.alloc o)) := fun o => (Below.refl w.heap.size w).alloc (Nat.le_refl _) o
  obtain ⟨r, hr⟩ : ∃ r, r = decide (1 ≤ gs.length ∧ gs.length ≤ 6 ∧ ns.length ≤ 4 ∧ ys.length ≤ 12 ∧ rs.length ≤ 16) := ⟨_, rfl⟩
  rw [← hr]
  have HR := hideC hr
  clear hr f1 f3 f5 f7 f9 f10
  obtain ⟨ln, hln⟩ : ∃ n, n = ns.length := ⟨_, rfl⟩
  obtain ⟨lg, hlg⟩ : ∃ n, n = gs.length := ⟨_, rfl⟩
  obtain ⟨ly, hly⟩ : ∃ n, n = ys.length := ⟨_, rfl⟩
  obtain ⟨lr, hlr⟩ : ∃ n, n = rs.length := ⟨_, rfl⟩
  rw [← hln, ← hlg, ← hly, ← hlr] at HR
  rw [← hln, ← hlg, ← hly, ← hlr]
  rw [← hln] at f2
  rw [← hlg] at f4
  rw [← hly] at f6
  rw [← hlr] at f8
  clear hln hlg hly hlr
  by_cases d1 : 1 ≤ (lg : Int)
  · by_cases d2 : (lg : Int) ≤ 6
    · by_cases d3 : (ln : Int) ≤ 4
      · by_cases d4 : (ly : Int) ≤ 12
        · by_cases d5 : (lr : Int) ≤ 16
          · have e : r = true := by rw [HR.out]; exact decide_eq_true (by omega)
            subst e
            have q1 : 1 ≤ lg := by omega
            have q2 : lg ≤ 6 := by omega
            have q3 : ln ≤ 4 := by omega
            have q4 : ly ≤ 12 := by omega
            have q5 : lr ≤ 16 := by omega
            go_enter Try.func24, Try.ntmps24
            go_wp2
            go_ret
            exact ⟨rfl, (HB0 _).out⟩
          · have e : r = false := by rw [HR.out]; exact decide_eq_false (by omega)
            subst e
            have q1 : 1 ≤ lg := by omega
            have q2 : lg ≤ 6 := by omega
            have q3 : ln ≤ 4 := by omega
            have q4 : ly ≤ 12 := by omega
            have q5 : decide ((lr : Int) ≤ 16) = false := decide_eq_false d5
            have q6 : decide (lr ≤ 16) = false := decide_eq_false (by omega)
            have q7 : ¬ lr ≤ 16 := by omega
            go_enter Try.func24, Try.ntmps24
            go_wp2
            go_ret
            exact ⟨rfl, (HB0 _).out⟩
        · have e : r = false := by rw [HR.out]; exact decide_eq_false (by omega)
          subst e
          have q1 : 1 ≤ lg := by omega
          have q2 : lg ≤ 6 := by omega
          have q3 : ln ≤ 4 := by omega
          have q4 : decide ((ly : Int) ≤ 12) = false := decide_eq_false d4
          have q6 : decide (ly ≤ 12) = false := decide_eq_false (by omega)
          have q7 : ¬ ly ≤ 12 := by omega
          go_enter Try.func24, Try.ntmps24
          go_wp2
          go_ret
          exact ⟨rfl, (HB0 _).out⟩
      · have e : r = false := by rw [HR.out]; exact decide_eq_false (by omega)
        subst e
        have q1 : 1 ≤ lg := by omega
        have q2 : lg ≤ 6 := by omega
        have q4 : decide ((ln : Int) ≤ 4) = false := decide_eq_false d3
        have q6 : decide (ln ≤ 4) = false := decide_eq_false (by omega)
        have q7 : ¬ ln ≤ 4 := by omega
        go_enter Try.func24, Try.ntmps24
        go_wp2
        go_ret
        exact ⟨rfl, (HB0 _).out⟩
    · have e : r = false := by rw [HR.out]; exact decide_eq_false (by omega)
      subst e
      have q1 : 1 ≤ lg := by omega
      have q4 : decide ((lg : Int) ≤ 6) = false := decide_eq_false d2
      have q6 : decide (lg ≤ 6) = false := decide_eq_false (by omega)
      have q7 : ¬ lg ≤ 6 := by omega
      go_enter Try.func24, Try.ntmps24
      go_wp2
      go_ret
      exact ⟨rfl, (HB0 _).out⟩
  · have e : r = false := by rw [HR.out]; exact decide_eq_false (by omega)
    subst e
    have q4 : decide ((1 : Int) ≤ (lg : Int)) = false := decide_eq_false d1
    obtain rfl : lg = 0 := by omega
    go_enter Try.func24, Try.ntmps24
    go_wp2
    go_ret
    exact ⟨rfl, (HB0 _).out⟩

set_option maxHeartbeats 4000000 in
theorem rightRanges_any (l : List M.Sg) (ao : Option Addr) (cap : Nat) (w : World) (h : M.HasBy M.LieG w ao l) (hn : M.Short l.length) (hf : ∀ k, k < l.length → M.FitG (M.sgAt l k)) :
    Calls Try.prog 25 #[.slice ao l.length cap] w fun e w' => e = .returned (.bool (l.all M.rangeB)) ∧ Below w.heap.size w w' := by
  unfold M.Short at hn
  have H := hideC h
  have F := hideC hf
  clear h hf
  go_enter Try.func25, Try.ntmps25
  go_wp2
  go_loopw [7] (fun i wr => ∃ k : Nat, k ≤ l.length ∧ i = .int .i64 k ∧ (∀ j, j < k → M.rangeB (M.sgAt l j) = true) ∧ Below w.heap.size w wr) (fun i _ => l.length - (intOf i).toNat)
  case atStart => exact ⟨0, by omega, rfl, fun j h => by omega, Below.refl _ _⟩
  case round =>
    obtain ⟨k, hk, rfl, hall, hb⟩ := hrel
    have HA := hideC hall
    have HB := hideC hb
    clear hall
    by_cases hlt : k < l.length
    · obtain ⟨b, off, hao, hbl, hl⟩ := H.out (by omega)
      subst hao
      obtain ⟨c0, c1, c2, c3, c4⟩ := M.lieG hb hbl hl k hlt
      obtain ⟨g1, g2, g3⟩ := F.out k hlt
      obtain ⟨s, hs⟩ : ∃ s, s = M.sgAt l k := ⟨_, rfl⟩
      rw [← hs] at c0 c1 c2 c3 c4 g1 g2 g3
      have HS := hideC hs
      clear hs hb hl
      obtain ⟨p, n, d, x, y⟩ := s
      simp only at c0 c1 c2 c3 c4 g1 g2 g3
      unfold M.I64 at g1 g2
      unfold M.Short at g3
      have hml : d.size ≤ maxLen := by unfold maxLen; omega
      have hli : (k : Int) < (l.length : Int) := by omega
      have hbad : Hid (¬ (0 ≤ p ∧ 1 ≤ n ∧ p + n ≤ 255 ∧ (d.size : Int) ≤ n * 16) → l.all M.rangeB = false) := fun hx =>
        M.all_false M.rangeB M.sg0 l k hlt (by show M.rangeB (M.sgAt l k) = false; rw [← HS.out]; exact decide_eq_false hx)
      by_cases d1 : 0 ≤ p
      · have d1' : ¬ p < 0 := by omega
        by_cases d2 : 1 ≤ n
        · have d2' : ¬ n < 1 := by omega
          by_cases d3 : p + n ≤ 255
          · have d3' : ¬ 255 - p < n := by omega
            by_cases d4 : (d.size : Int) ≤ n * 16
            · have d4' : ¬ n * 16 < (d.size : Int) := by omega
              have hgood : Hid (M.rangeB ⟨p, n, d, x, y⟩ = true) := decide_eq_true ⟨d1, d2, d3, d4⟩
              go_wp2
              go_roundw
              case rel => exact ⟨k + 1, by omega, by go_num, fun j h => if e : j = k then by rw [e, ← HS.out]; exact hgood.out else HA.out j (by omega), HB.out.alloc HB.out.size _⟩
              case measure => simp [intOf]; omega
            · have d4' : n * 16 < (d.size : Int) := by omega
              have HR := hideC (hbad.out (by omega))
              go_wp2
              go_ret
              exact ⟨ret_bool HR.out.symm, HB.out.alloc HB.out.size _⟩
          · have d3' : 255 - p < n := by omega
            have HR := hideC (hbad.out (by omega))
            go_wp2
            go_ret
            exact ⟨ret_bool HR.out.symm, HB.out.alloc HB.out.size _⟩
        · have d2' : n < 1 := by omega
          have HR := hideC (hbad.out (by omega))
          go_wp2
          go_ret
          exact ⟨ret_bool HR.out.symm, HB.out.alloc HB.out.size _⟩
      · have d1' : p < 0 := by omega
        have HR := hideC (hbad.out (by omega))
        go_wp2
        go_ret
        exact ⟨ret_bool HR.out.symm, HB.out.alloc HB.out.size _⟩
    · obtain rfl : k = l.length := by omega
      have HR := hideC (M.all_true M.rangeB M.sg0 l (fun j hj => HA.out j hj))
      clear hb
      go_wp2
      go_ret
      exact ⟨ret_bool HR.out.symm, HB.out⟩

end Go.Proofs.Ytafdgjpmhofinaa.W
