import Derived.Test.YtafdgjpmhofinaaW4
import Derived.Test.YtafdgjpmhofinaaQ
namespace Go.Proofs.Ytafdgjpmhofinaa.W
open Go.RowKit
set_option linter.unusedVariables false

theorem over_mono (l : List M.Sg) (k n : Nat) (h : M.overTo l k = false) (hk : k ≤ n) : M.overTo l n = false := by
  induction n with
  | zero => obtain rfl : k = 0 := by omega
            exact h
  | succ n ih =>
    rcases Nat.lt_or_ge n k with g | g
    · obtain rfl : k = n + 1 := by omega
      exact h
    · simp only [M.overTo]
      rw [ih g]; rfl
theorem apart_no (l : List M.Sg) (k : Nat) (hk : k < l.length) (h : M.overTo l (k + 1) = false) : M.apartB l = false := over_mono l (k + 1) l.length h hk

set_option maxHeartbeats 4000000 in
theorem overlap_any (l : List M.Sg) (ao : Option Addr) (cap : Nat) (w : World) (h : M.HasBy M.LieG w ao l) (hn : M.Short l.length) (hr : l.all M.rangeB = true) :
    Calls Try.prog 26 #[.slice ao l.length cap] w fun e w' => e = .returned (.bool (!M.apartB l)) ∧ Below w.heap.size w w' := by
  unfold M.Short at hn
  have H := hideC h
  have F := hideC hr
  clear h hr
  go_enter Try.func26, Try.ntmps26
  go_wp2
  go_loopw [3] (fun i wr => ∃ k : Nat, 1 ≤ k ∧ (k ≤ l.length ∨ k = 1) ∧ i = .int .i64 k ∧ M.overTo l k = true ∧ Below w.heap.size w wr) (fun i _ => l.length - (intOf i).toNat)
  case atStart => exact ⟨1, by omega, .inr rfl, rfl, rfl, Below.refl _ _⟩
  case round =>
    obtain ⟨k, hk1, hk, rfl, hall, hb⟩ := hrel
    have HA := hideC hall
    have HB := hideC hb
    clear hall
    by_cases hlt : k < l.length
    · obtain ⟨b, off, hao, hbl, hl⟩ := H.out (by omega)
      subst hao
      obtain ⟨c0, c1, c2, c3, c4⟩ := M.lieG hb hbl hl k hlt
      obtain ⟨e0, e1, e2, e3, e4⟩ := M.lieG hb hbl hl (k - 1) (by omega)
      have g1 : 0 ≤ (M.sgAt l (k - 1)).page ∧ 1 ≤ (M.sgAt l (k - 1)).pages ∧ (M.sgAt l (k - 1)).page + (M.sgAt l (k - 1)).pages ≤ 255 ∧ _ := of_decide_eq_true (M.all_at M.rangeB M.sg0 l (k - 1) (by omega) F.out)
      have hov : Hid (M.overTo l (k + 1) = decide ((M.sgAt l (k - 1)).page + (M.sgAt l (k - 1)).pages ≤ (M.sgAt l k).page)) := by
        show _ = _
        simp only [M.overTo, HA.out, Bool.true_and, M.overAt]
        rw [show (k == 0) = false from by simp; omega, Bool.false_or]
      obtain ⟨s, hs⟩ : ∃ s, s = M.sgAt l k := ⟨_, rfl⟩
      obtain ⟨t, ht⟩ : ∃ t, t = M.sgAt l (k - 1) := ⟨_, rfl⟩
      rw [← hs] at c0 c1 c2 c3 c4 hov
      rw [← ht] at e0 e1 e2 e3 e4 g1 hov
      clear hs ht hb hl
      obtain ⟨sp, sn, sd, sx, sy⟩ := s
      obtain ⟨tp, tn, td, tx, ty⟩ := t
      simp only at c0 c1 c2 c3 c4 e0 e1 e2 e3 e4 g1 hov
      obtain ⟨g1, g2, g3, g4⟩ := g1
      clear c1 c2 c3 c4 e2 e3 e4 g4
      have hli : (k : Int) < (l.length : Int) := by omega
      have hkin := Q.kin_some wr
      have hkc := @Q.cell_kin wr
      have hbr : b < wr.heap.size := Nat.lt_of_lt_of_le hbl HB.out.size
      have k0 : ∀ x : Q.Kin wr.heap.size wr, x.world.cell? ⟨b, off + k * 5, none⟩ = some (.int .i64 sp) := fun x => by rw [hkc x _ _ hbr, c0]
      have k1 : ∀ x : Q.Kin wr.heap.size wr, x.world.cell? ⟨b, off + (k - 1) * 5, none⟩ = some (.int .i64 tp) := fun x => by rw [hkc x _ _ hbr, e0]
      have k2 : ∀ x : Q.Kin wr.heap.size wr, x.world.cell? ⟨b, off + (k - 1) * 5 + 1, none⟩ = some (.int .i64 tn) := fun x => by rw [hkc x _ _ hbr, e1]
      clear hkc c0 e0 e1
      by_cases d : sp < tp + tn
      · have hno : Hid (M.overTo l (k + 1) = false) := by show _ = _; rw [hov.out]; exact decide_eq_false (by omega)
        go_wp2
        refine Q.region_kin (by kernel_rfl) (by kernel_rfl) ?_
        repeat (first | go_big_quiet_step (fail) | quiet_step (fail))
        refine wpQuiet_nil ?_
        intro _ hw'
        obtain ⟨x, hw''⟩ := hw'
        subst hw''
        go_wp2
        go_ret
        exact ⟨ret_bool (by rw [apart_no l k hlt hno.out]; rfl), HB.out.trans (x.keeps.mono HB.out.size)⟩
      · have hyes : Hid (M.overTo l (k + 1) = true) := by show _ = _; rw [hov.out]; exact decide_eq_true (by omega)
        go_wp2
        refine Q.region_kin (by kernel_rfl) (by kernel_rfl) ?_
        repeat (first | go_big_quiet_step (fail) | quiet_step (fail))
        refine wpQuiet_nil ?_
        intro _ hw'
        obtain ⟨x, hw''⟩ := hw'
        subst hw''
        go_wp2
        go_roundw
        case rel => exact ⟨k + 1, by omega, .inl (by omega), by go_num, hyes.out, HB.out.trans (x.keeps.mono HB.out.size)⟩
        case measure => simp [intOf]; omega
    · have HR : Hid (M.apartB l = true) := by
        show _ = _
        unfold M.apartB
        rcases hk with hk | hk
        · rw [show l.length = k by omega]; exact HA.out
        · rcases Nat.lt_or_ge l.length 1 with h0 | h0
          · rw [show l.length = 0 by omega]; rfl
          · rw [show l.length = k by omega]; exact HA.out
      have hge : ¬ (k : Int) < (l.length : Int) := by omega
      clear hb
      go_wp2
      go_ret
      exact ⟨ret_bool (by rw [HR.out]; rfl), HB.out⟩
end Go.Proofs.Ytafdgjpmhofinaa.W
