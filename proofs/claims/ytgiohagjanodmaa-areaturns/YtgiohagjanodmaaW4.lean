import Derived.Test.YtgiohagjanodmaaW3
namespace Go.Proofs.Ytgiohagjanodmaa.W
open Go.RowKit
set_option linter.unusedVariables false

set_option maxHeartbeats 1000000 in
theorem total_some (l : List M.Ar) (b off cap : Nat) (w : World) (hl : M.Lie w b off l) (hf : ∀ i, i < l.length → M.Fits (M.at_ l i)) (hn : l.length ≤ 140737488351232) :
    Calls Try.prog 7 #[.slice (some ⟨b, off, none⟩) l.length cap] w fun e w' => e = .returned (.int .i64 (M.totalN l)) ∧ Below w.heap.size w w' := by
  by_cases hc : M.checkN l = 0
  · have hlen := M.good_len l hc
    have HC : Hid (M.totalN l = M.sumTo l l.length) := by show _ = _; simp [M.totalN, hc]
    have HK : Hid (M.checkN l = 0) := hc
    go_enter Try.func7, Try.ntmps7
    go_wp2_with fail
    refine (check_some l b off cap _ hl hf hn).mono ?_
    rintro e w1 ⟨rfl, hb1⟩
    rw [hc]
    clear hc
    go_wp2
    go_loopw [3, 11] (fun s i wr => ∃ k : Nat, k ≤ l.length ∧ i = .int .i64 k ∧ s = .int .i64 (M.sumTo l k) ∧ Below w.heap.size w wr) (fun _ i _ => l.length - (intOf i).toNat)
    case atStart => exact ⟨0, by omega, rfl, rfl, hb1⟩
    case round =>
      obtain ⟨k, hk, rfl, rfl, hb⟩ := hrel
      have hbd := M.sumTo_bd l HK.out k hk
      by_cases hlt : k < l.length
      · obtain ⟨c0, c1, c2, c3⟩ := (hl.below hb) k hlt
        have hsu : Hid (M.sumTo l (k + 1) = M.sumTo l k + (M.at_ l k).pages) := rfl
        have hbk := M.okAt_pages l k (M.good_pages l HK.out k hlt)
        obtain ⟨a, ha⟩ : ∃ a, a = M.at_ l k := ⟨_, rfl⟩
        rw [← ha] at c0 c1 c2 c3 hsu hbk
        clear ha
        go_wp2
        go_roundw
        case rel => exact ⟨k + 1, by omega, by go_num, by rw [hsu.out], hb.alloc hb.size _⟩
        case measure => simp [intOf]; omega
      · obtain rfl : k = l.length := by omega
        go_wp2
        go_ret
        exact ⟨ret_int HC.out.symm, hb⟩
  · have HC : Hid (M.totalN l = 0) := by show _ = _; simp [M.totalN, hc]
    have hc' : (M.checkN l != 0) = true := by simpa using hc
    go_enter Try.func7, Try.ntmps7
    go_wp2_with fail
    refine (check_some l b off cap _ hl hf hn).mono ?_
    rintro e w1 ⟨rfl, hb1⟩
    go_wp2
    go_ret
    exact ⟨ret_int HC.out.symm, hb1⟩

theorem total_nil (ao : Option Addr) (cap : Nat) (w : World) :
    Calls Try.prog 7 #[.slice ao 0 cap] w fun e w' => e = .returned (.int .i64 (M.totalN [])) ∧ Below w.heap.size w w' := by
  have e : M.totalN [] = 0 := by decide
  have e2 : M.checkN [] = 0 := by decide
  rw [e]
  go_enter Try.func7, Try.ntmps7
  go_wp2_with fail
  refine (check_nil ao cap _).mono ?_
  rintro e w1 ⟨rfl, hb1⟩
  rw [e2]
  go_wp2
  refine wp_loop_rounds 1 ?_
  rw [rounds_succ]
  go_wp2
  go_ret
  exact ⟨rfl, hb1⟩

end Go.Proofs.Ytgiohagjanodmaa.W
