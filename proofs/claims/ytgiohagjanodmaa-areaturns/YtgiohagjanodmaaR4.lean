import Derived.Test.YtgiohagjanodmaaA
import Derived.Test.YtgiohagjanodmaaM7
namespace Go.Proofs.Ytgiohagjanodmaa.W
open Go.RowKit
set_option linter.unusedVariables false

set_option maxHeartbeats 1000000 in
theorem pages_some (l : List M.Ar) (b off cap : Nat) (w : World) (hl : M.Lie w b off l) (hc : M.checkN l = 0) :
    Calls Try.prog 12 #[.slice (some ⟨b, off, none⟩) l.length cap] w fun e w' => e = .returned (.int .i64 (M.sumTo l l.length)) ∧ Below w.heap.size w w' := by
  have hlen := M.good_len l hc
  have HK : Hid (M.checkN l = 0) := hc
  clear hc
  go_enter Try.func12, Try.ntmps12
  go_wp2
  go_loopw [3, 4] (fun s i wr => ∃ k : Nat, k ≤ l.length ∧ i = .int .i64 k ∧ s = .int .i64 (M.sumTo l k) ∧ Below w.heap.size w wr) (fun _ i _ => l.length - (intOf i).toNat)
  case atStart => exact ⟨0, by omega, rfl, rfl, Below.refl _ _⟩
  case round =>
    obtain ⟨k, hk, rfl, rfl, hb⟩ := hrel
    have hbd := M.sumTo_bd l HK.out k hk
    by_cases hlt : k < l.length
    · obtain ⟨c0, c1, c2, c3⟩ := (hl.below hb) k hlt
      have hsu : Hid (M.sumTo l (k + 1) = M.sumTo l k + (M.at_ l k).pages) := rfl
      have hbk := M.okAt_pages l k (M.good_pages l HK.out k hlt)
      obtain ⟨a, ha⟩ : ∃ a, a = M.at_ l k := ⟨_, rfl⟩
      rw [← ha] at c0 c1 c2 c3 hsu hbk
      clear ha
      go_wp2
      go_roundw
      case rel => exact ⟨k + 1, by omega, by go_num, by rw [hsu.out], hb⟩
      case measure => simp [intOf]; omega
    · obtain rfl : k = l.length := by omega
      go_wp2
      go_ret
      exact ⟨rfl, hb⟩
theorem pages_nil (ao : Option Addr) (cap : Nat) (w : World) :
    Calls Try.prog 12 #[.slice ao 0 cap] w fun e w' => e = .returned (.int .i64 0) ∧ Below w.heap.size w w' := by
  go_enter Try.func12, Try.ntmps12
  go_wp2
  refine wp_loop_rounds 1 ?_
  rw [rounds_succ]
  go_wp2
  go_ret
  exact ⟨rfl, Below.refl _ _⟩
theorem pages_any (l : List M.Ar) (v : Value) (w : World) (h : Has w v l) (hc : M.checkN l = 0) :
    Calls Try.prog 12 #[v] w fun e w' => e = .returned (.int .i64 (M.totalN l)) ∧ Below w.heap.size w w' := by
  have e : M.totalN l = M.sumTo l l.length := by simp [M.totalN, hc]
  rw [e]
  obtain ⟨ao, cap, rfl, h⟩ := h
  rcases h with rfl | ⟨b, off, rfl, hl⟩
  · exact pages_nil ao cap w
  · exact pages_some l b off cap w hl hc

set_option maxRecDepth 100000 in
set_option maxHeartbeats 2000000 in
theorem areaAt_some (l : List M.Ar) (b off cap : Nat) (p : Int) (w : World) (hl : M.Lie w b off l) (hc : M.checkN l = 0) :
    Calls Try.prog 11 #[.slice (some ⟨b, off, none⟩) l.length cap, .int .i64 p] w fun e w' => e = .returned (.tuple #[.agg (cellsOf (M.findN l p).1), .bool (M.findN l p).2]) ∧ Below w.heap.size w w' := by
  have hbz : Below w.heap.size w (w.alloc (.cells #[.int .i64 0, .int .i64 0, .int .i64 0, .bool false] 24)) := (Below.refl _ _).alloc (Nat.le_refl _) _
  have hlen := M.good_len l hc
  have HC : Hid (M.findN l p = M.findFrom l p) := by show _ = _; simp [M.findN, hc]
  have HK : Hid (M.checkN l = 0) := hc
  clear hc
  go_enter Try.func11, Try.ntmps11
  go_wp2
  go_loopw [6] (fun i wr => ∃ k : Nat, k ≤ l.length ∧ i = .int .i64 k ∧ (∀ j, j < k → M.hit (M.at_ l j) p = false) ∧ Below (w.heap.size + 1) (w.alloc (.cells #[.int .i64 0, .int .i64 0, .int .i64 0, .bool false] 24)) wr) (fun i _ => l.length - (intOf i).toNat)
  case atStart => exact ⟨0, by omega, rfl, fun j hj => by omega, Below.refl _ _⟩
  case round =>
    obtain ⟨k, hk, rfl, hno, hb⟩ := hrel
    have HN : Hid (∀ j, j < k → M.hit (M.at_ l j) p = false) := hno
    have hbw : Hid (Below w.heap.size w wr) := hbz.trans (hb.mono (Nat.le_succ _))
    have hsz : w.heap.size + 1 ≤ wr.heap.size := by have := hb.size; simpa using this
    have hlr := hl.below hbw.out
    have hR : wr.heap[w.heap.size]? = some (.cells #[.int .i64 0, .int .i64 0, .int .i64 0, .bool false] 24 (0, 0)) := B.below (B.new w _ _) hb (Nat.lt_succ_self _)
    have HB : Hid (Below (w.heap.size + 1) (w.alloc (.cells #[.int .i64 0, .int .i64 0, .int .i64 0, .bool false] 24)) wr) := hb
    have t0 := B.cell hR 0 rfl
    have t1 := B.cell hR 1 rfl
    have t2 := B.cell hR 2 rfl
    have t3 := B.cell hR 3 rfl
    have u0 := B.free hR
    clear hno hR hb
    by_cases hlt : k < l.length
    · obtain ⟨c0, c1, c2, c3⟩ := hlr k hlt
      have hbk := M.okAt_pages l k (M.good_pages l HK.out k hlt)
      obtain ⟨a, ha⟩ : ∃ a, a = M.at_ l k := ⟨_, rfl⟩
      rw [← ha] at c0 c1 c2 c3 hbk
      have HA : Hid (a = M.at_ l k) := ha
      clear ha
      have hki : (k : Int) < (l.length : Int) := by omega
      by_cases h1 : a.page ≤ p
      · by_cases h2 : p < a.page + a.pages
        · have hres : Hid (M.findN l p = (a, true)) := by
            show _ = _
            rw [HC.out, M.findFrom_at l p k hlt HN.out (by rw [← HA.out]; simp [M.hit, M.Ar.last0, h1, h2]), ← HA.out]
          go_wp2
          go_quiet (fail)
          go_wp2
          have hbd := below_drewN hbw.out nq
          exact bodyPost_ret (v := .tuple #[.agg #[.int .i64 a.page, .int .i64 a.pages, .int .i64 a.prot, .bool a.zero], .bool true]) (by simp [results, Try.results11, go_sem, t0, t1, t2, t3]) rfl ⟨by rw [hres.out]; rfl, (((hbd.setCell (Nat.le_refl _) _).setCell (Nat.le_refl _) _).setCell (Nat.le_refl _) _).setCell (Nat.le_refl _) _⟩
        · have hmiss : Hid (M.hit (M.at_ l k) p = false) := by show _ = _; rw [← HA.out]; unfold M.hit M.Ar.last0; exact decide_eq_false (by omega)
          have d2 : decide (p < a.page + a.pages) = false := decide_eq_false h2
          go_wp2
          go_quiet (fail)
          go_wp2
          go_roundw
          case rel => exact ⟨k + 1, by omega, by go_num, fun j hj => if e : j = k then by rw [e]; exact hmiss.out else HN.out j (by omega), below_drewN HB.out _⟩
          case measure => simp [intOf]; omega
      · have hmiss : Hid (M.hit (M.at_ l k) p = false) := by show _ = _; rw [← HA.out]; unfold M.hit M.Ar.last0; exact decide_eq_false (by omega)
        have d1 : decide (a.page ≤ p) = false := decide_eq_false h1
        go_wp2
        go_quiet (fail)
        go_wp2
        go_roundw
        case rel => exact ⟨k + 1, by omega, by go_num, fun j hj => if e : j = k then by rw [e]; exact hmiss.out else HN.out j (by omega), below_drewN HB.out _⟩
        case measure => simp [intOf]; omega
    · obtain rfl : k = l.length := by omega
      have hres : Hid (M.findN l p = (M.nil, false)) := by show _ = _; rw [HC.out, M.findFrom_none l p HN.out]
      go_wp2
      exact bodyPost_ret (v := .tuple #[.agg #[.int .i64 0, .int .i64 0, .int .i64 0, .bool false], .bool false]) (by simp [results, Try.results11, go_sem, t0, t1, t2, t3]) rfl ⟨by rw [hres.out]; rfl, (((hbw.out.setCell (Nat.le_refl _) _).setCell (Nat.le_refl _) _).setCell (Nat.le_refl _) _).setCell (Nat.le_refl _) _⟩
theorem areaAt_nil (ao : Option Addr) (cap : Nat) (p : Int) (w : World) :
    Calls Try.prog 11 #[.slice ao 0 cap, .int .i64 p] w fun e w' => e = .returned (.tuple #[.agg (cellsOf (M.findN [] p).1), .bool (M.findN [] p).2]) ∧ Below w.heap.size w w' := by
  have hbz : Below w.heap.size w (w.alloc (.cells #[.int .i64 0, .int .i64 0, .int .i64 0, .bool false] 24)) := (Below.refl _ _).alloc (Nat.le_refl _) _
  go_enter Try.func11, Try.ntmps11
  go_wp2
  refine wp_loop_rounds 1 ?_
  rw [rounds_succ]
  go_wp2
  exact bodyPost_ret (v := .tuple #[.agg #[.int .i64 0, .int .i64 0, .int .i64 0, .bool false], .bool false]) (by simp [results, Try.results11, go_sem]) rfl ⟨rfl, hbz⟩
theorem areaAt_any (l : List M.Ar) (v : Value) (p : Int) (w : World) (h : Has w v l) (hc : M.checkN l = 0) :
    Calls Try.prog 11 #[v, .int .i64 p] w fun e w' => e = .returned (.tuple #[.agg (cellsOf (M.findN l p).1), .bool (M.findN l p).2]) ∧ Below w.heap.size w w' := by
  obtain ⟨ao, cap, rfl, h⟩ := h
  rcases h with rfl | ⟨b, off, rfl, hl⟩
  · exact areaAt_nil ao cap p w
  · exact areaAt_some l b off cap p w hl hc
end Go.Proofs.Ytgiohagjanodmaa.W
