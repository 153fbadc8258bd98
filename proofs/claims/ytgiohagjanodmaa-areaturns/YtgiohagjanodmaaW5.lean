import Derived.Test.YtgiohagjanodmaaW4
import Derived.Test.YtgiohagjanodmaaB
namespace Go.Proofs.Ytgiohagjanodmaa.W
open Go.RowKit
set_option linter.unusedVariables false

/-- the values of an area -/
def cellsOf (a : M.Ar) : Array Value := #[.int .i64 a.page, .int .i64 a.pages, .int .i64 a.prot, .bool a.zero]

set_option maxHeartbeats 2000000 in
theorem find_some (l : List M.Ar) (b off cap : Nat) (p : Int) (w : World) (hl : M.Lie w b off l) (hf : ∀ i, i < l.length → M.Fits (M.at_ l i)) (hn : l.length ≤ 140737488351232) :
    Calls Try.prog 6 #[.slice (some ⟨b, off, none⟩) l.length cap, .int .i64 p] w fun e w' => e = .returned (.tuple #[.agg (cellsOf (M.findN l p).1), .bool (M.findN l p).2]) ∧ Below w.heap.size w w' := by
  have hbz : Below w.heap.size w (w.alloc (.cells #[.int .i64 0, .int .i64 0, .int .i64 0, .bool false] 24)) := (Below.refl _ _).alloc (Nat.le_refl _) _
  by_cases hc : M.checkN l = 0
  · have hlen := M.good_len l hc
    have HC : Hid (M.findN l p = M.findFrom l p) := by show _ = _; simp [M.findN, hc]
    have HK : Hid (M.checkN l = 0) := hc
    go_enter Try.func6, Try.ntmps6
    go_wp2_with fail
    refine (check_some l b off cap _ (hl.below hbz) hf hn).mono ?_
    rintro e w1 ⟨rfl, hb1⟩
    rw [hc]
    clear hc
    go_wp2
    go_loopw [14] (fun i wr => ∃ k : Nat, k ≤ l.length ∧ i = .int .i64 k ∧ (∀ j, j < k → M.hit (M.at_ l j) p = false) ∧ Below (w.heap.size + 1) (w.alloc (.cells #[.int .i64 0, .int .i64 0, .int .i64 0, .bool false] 24)) wr) (fun i _ => l.length - (intOf i).toNat)
    case atStart => exact ⟨0, by omega, rfl, fun j hj => by omega, hb1.mono (by simp)⟩
    case round =>
      obtain ⟨k, hk, rfl, hno, hb⟩ := hrel
      have HN : Hid (∀ j, j < k → M.hit (M.at_ l j) p = false) := hno
      have hbw : Hid (Below w.heap.size w wr) := hbz.trans (hb.mono (Nat.le_succ _))
      have hsz : w.heap.size + 1 ≤ wr.heap.size := by have := hb.size; simpa using this
      have hlr := hl.below hbw.out
      have hR : wr.heap[w.heap.size]? = some (.cells #[.int .i64 0, .int .i64 0, .int .i64 0, .bool false] 24 (0, 0)) := B.below (B.new w _ _) hb (Nat.lt_succ_self _)
      have HR : Hid (wr.heap[w.heap.size]? = some (.cells #[.int .i64 0, .int .i64 0, .int .i64 0, .bool false] 24 (0, 0))) := hR
      have HB : Hid (Below (w.heap.size + 1) (w.alloc (.cells #[.int .i64 0, .int .i64 0, .int .i64 0, .bool false] 24)) wr) := hb
      clear hR hb
      clear hno hb1
      by_cases hlt : k < l.length
      · obtain ⟨c0, c1, c2, c3⟩ := hlr k hlt
        have hbk := M.okAt_pages l k (M.good_pages l HK.out k hlt)
        obtain ⟨a, ha⟩ : ∃ a, a = M.at_ l k := ⟨_, rfl⟩
        rw [← ha] at c0 c1 c2 c3 hbk
        have HA : Hid (a = M.at_ l k) := ha
        clear ha
        by_cases h1 : a.page ≤ p
        · by_cases h2 : p < a.page + a.pages
          · have hres : Hid (M.findN l p = (a, true)) := by
              show _ = _
              rw [HC.out, M.findFrom_at l p k hlt HN.out (by rw [← HA.out]; simp [M.hit, M.Ar.last0, h1, h2]), ← HA.out]
            go_wp2_with fail
            refine (end_any _ _ _ _ _ (by omega) (by omega)).mono ?_
            rintro e w2 ⟨rfl, hb2⟩
            have hA2 := B.below (B.new wr #[.int .i64 a.page, .int .i64 a.pages, .int .i64 a.prot, .bool a.zero] 24) hb2 (by simp)
            have hR2 := B.below (B.alloc HR.out _) hb2 (by simp; omega)
            have s0 := B.cell hA2 0 rfl
            have s1 := B.cell hA2 1 rfl
            have s2 := B.cell hA2 2 rfl
            have s3 := B.cell hA2 3 rfl
            have t0 := B.cell hR2 0 rfl
            have t1 := B.cell hR2 1 rfl
            have t2 := B.cell hR2 2 rfl
            have t3 := B.cell hR2 3 rfl
            have u0 := B.free hR2
            have hbe : Hid (Below w.heap.size w w2) := (hbw.out.alloc hbw.out.size _).trans (hb2.mono (by simp; omega))
            have hsz2 : wr.heap.size + 1 ≤ w2.heap.size := by have := hb2.size; simpa using this
            clear hb2 hA2 hR2
            go_wp2
            exact bodyPost_ret (v := .tuple #[.agg #[.int .i64 a.page, .int .i64 a.pages, .int .i64 a.prot, .bool a.zero], .bool true]) (by simp [results, Try.results6, go_sem, t0, t1, t2, t3]) rfl ⟨by rw [hres.out]; rfl, (((hbe.out.setCell (Nat.le_refl _) _).setCell (Nat.le_refl _) _).setCell (Nat.le_refl _) _).setCell (Nat.le_refl _) _⟩
          · have hmiss : Hid (M.hit (M.at_ l k) p = false) := by show _ = _; rw [← HA.out]; unfold M.hit M.Ar.last0; exact decide_eq_false (by omega)
            go_wp2_with fail
            refine (end_any _ _ _ _ _ (by omega) (by omega)).mono ?_
            rintro e w2 ⟨rfl, hb2⟩
            have hbe : Hid (Below (w.heap.size + 1) (w.alloc (.cells #[.int .i64 0, .int .i64 0, .int .i64 0, .bool false] 24)) w2) := (HB.out.alloc (by omega) _).trans (hb2.mono (by simp; omega))
            clear hb2
            go_wp2
            go_roundw
            case rel => exact ⟨k + 1, by omega, by go_num, fun j hj => if e : j = k then by rw [e]; exact hmiss.out else HN.out j (by omega), hbe.out⟩
            case measure => simp [intOf]; omega
        · have hmiss : Hid (M.hit (M.at_ l k) p = false) := by show _ = _; rw [← HA.out]; unfold M.hit M.Ar.last0; exact decide_eq_false (by omega)
          have d1 : decide (a.page ≤ p) = false := by simp; omega
          go_wp2
          go_roundw
          case rel => exact ⟨k + 1, by omega, by go_num, fun j hj => if e : j = k then by rw [e]; exact hmiss.out else HN.out j (by omega), HB.out.alloc (by omega) _⟩
          case measure => simp [intOf]; omega
      · obtain rfl : k = l.length := by omega
        have hres : Hid (M.findN l p = (M.nil, false)) := by show _ = _; rw [HC.out, M.findFrom_none l p HN.out]
        have t0 := B.cell HR.out 0 rfl
        have t1 := B.cell HR.out 1 rfl
        have t2 := B.cell HR.out 2 rfl
        have t3 := B.cell HR.out 3 rfl
        have u0 := B.free HR.out
        go_wp2
        exact bodyPost_ret (v := .tuple #[.agg #[.int .i64 0, .int .i64 0, .int .i64 0, .bool false], .bool false]) (by simp [results, Try.results6, go_sem, t0, t1, t2, t3]) rfl ⟨by rw [hres.out]; rfl, (((hbw.out.setCell (Nat.le_refl _) _).setCell (Nat.le_refl _) _).setCell (Nat.le_refl _) _).setCell (Nat.le_refl _) _⟩
  · have HC : Hid (M.findN l p = (M.nil, false)) := by show _ = _; simp [M.findN, hc]
    have hc' : (M.checkN l != 0) = true := by simpa using hc
    go_enter Try.func6, Try.ntmps6
    go_wp2_with fail
    refine (check_some l b off cap _ (hl.below hbz) hf hn).mono ?_
    rintro e w1 ⟨rfl, hb1⟩
    have hR1 := B.below (B.new w #[.int .i64 0, .int .i64 0, .int .i64 0, .bool false] 24) hb1 (by simp)
    have t0 := B.cell hR1 0 rfl
    have t1 := B.cell hR1 1 rfl
    have t2 := B.cell hR1 2 rfl
    have t3 := B.cell hR1 3 rfl
    have u0 := B.free hR1
    clear hR1
    go_wp2
    exact bodyPost_ret (v := .tuple #[.agg #[.int .i64 0, .int .i64 0, .int .i64 0, .bool false], .bool false]) (by simp [results, Try.results6, go_sem, t0, t1, t2, t3]) rfl ⟨by rw [HC.out]; rfl, ((((hbz.trans (hb1.mono (by simp))).setCell (Nat.le_refl _) _).setCell (Nat.le_refl _) _).setCell (Nat.le_refl _) _).setCell (Nat.le_refl _) _⟩

theorem find_nil (ao : Option Addr) (cap : Nat) (p : Int) (w : World) :
    Calls Try.prog 6 #[.slice ao 0 cap, .int .i64 p] w fun e w' => e = .returned (.tuple #[.agg (cellsOf (M.findN [] p).1), .bool (M.findN [] p).2]) ∧ Below w.heap.size w w' := by
  have hbz : Below w.heap.size w (w.alloc (.cells #[.int .i64 0, .int .i64 0, .int .i64 0, .bool false] 24)) := (Below.refl _ _).alloc (Nat.le_refl _) _
  have e2 : M.checkN [] = 0 := by decide
  go_enter Try.func6, Try.ntmps6
  go_wp2_with fail
  refine (check_nil ao cap _).mono ?_
  rintro e w1 ⟨rfl, hb1⟩
  rw [e2]
  have hR1 := B.below (B.new w #[.int .i64 0, .int .i64 0, .int .i64 0, .bool false] 24) hb1 (by simp)
  have t0 := B.cell hR1 0 rfl
  have t1 := B.cell hR1 1 rfl
  have t2 := B.cell hR1 2 rfl
  have t3 := B.cell hR1 3 rfl
  have u0 := B.free hR1
  clear hR1
  go_wp2
  refine wp_loop_rounds 1 ?_
  rw [rounds_succ]
  go_wp2
  exact bodyPost_ret (v := .tuple #[.agg #[.int .i64 0, .int .i64 0, .int .i64 0, .bool false], .bool false]) (by simp [results, Try.results6, go_sem, t0, t1, t2, t3]) rfl ⟨rfl, ((((hbz.trans (hb1.mono (by simp))).setCell (Nat.le_refl _) _).setCell (Nat.le_refl _) _).setCell (Nat.le_refl _) _).setCell (Nat.le_refl _) _⟩
end Go.Proofs.Ytgiohagjanodmaa.W
