import Derived.Test.YtamocjifffbhpaaPW7
import Derived.Test.YtamocjifffbhpaaPW9
namespace Go.Proofs.Ytamocjifffbhpaa.PW
open Go.RowKit
set_option linter.unusedVariables false
set_option maxRecDepth 100000

set_option maxHeartbeats 2000000 in
theorem askR_any (p : PM.Pr) (i : PM.Ins) (w : World) (hfit : i.fits) (hbad : i.bad = false) : Calls Try.prog 15 #[p.val, .agg i.cells] w fun e w' => e = .returned (.agg (PM.askN p i)) ∧ Below w.heap.size w w' := by
  have HD := hideC (isBadR_any i)
  rw [hbad] at HD
  obtain ⟨op, a, b, c, m⟩ := i
  have HRg := hideC (fun h => regs_of op a b c m hfit h hbad)
  have HAsk : Hid (PM.askN p ⟨op, a, b, c, m⟩ = if op = 9 then #[.int .i64 1, .int .i64 (wrap64 (p.r b.toNat + m)), .int .i64 c, .int .i64 0, .int .i64 0] else if op = 10 then #[.int .i64 2, .int .i64 (wrap64 (p.r b.toNat + m)), .int .i64 c, .int .i64 (p.r a.toNat), .int .i64 0] else if op = 16 then #[.int .i64 3, .int .i64 0, .int .i64 0, .int .i64 0, .int .i64 m] else #[.int .i64 0, .int .i64 0, .int .i64 0, .int .i64 0, .int .i64 0]) := hideC (by unfold PM.askN; rw [hbad]; rfl)
  obtain ⟨Q, hQ⟩ : ∃ Q, Q = PM.askN p ⟨op, a, b, c, m⟩ := ⟨_, rfl⟩
  rw [← hQ] at HAsk ⊢
  clear hQ hfit hbad
  unfold PM.Ins.cells at HD ⊢
  simp only at HD ⊢
  unfold PM.Pr.val
  by_cases h1 : op = 9
  · obtain ⟨na, nb, rfl, rfl, hna, hnb⟩ := HRg.out (.inl h1)
    subst h1
    obtain rfl := HAsk.out
    clear HRg HAsk
    rw [if_pos rfl, Int.toNat_natCast]
    have HB0 := hideC ((((Below.refl w.heap.size w).alloc (Nat.le_refl _) (.cells p.row 38)).alloc (by simp) (.cells #[.int .i64 9, .int .i64 na, .int .i64 nb, .int .i64 c, .int .i64 m] 23)).alloc (by simp; omega) (.cells #[.int .i64 0, .int .i64 0, .int .i64 0, .int .i64 0, .int .i64 0] 40))
    have BP := hideC (B.alloc (B.alloc (B.new w p.row 38) (.cells #[.int .i64 9, .int .i64 na, .int .i64 nb, .int .i64 c, .int .i64 m] 23)) (.cells #[.int .i64 0, .int .i64 0, .int .i64 0, .int .i64 0, .int .i64 0] 40))
    have BI := hideC (B.alloc (B.new (w.alloc (.cells p.row 38)) #[.int .i64 9, .int .i64 na, .int .i64 nb, .int .i64 c, .int .i64 m] 23) (.cells #[.int .i64 0, .int .i64 0, .int .i64 0, .int .i64 0, .int .i64 0] 40))
    have BR := hideC (B.new ((w.alloc (.cells p.row 38)).alloc (.cells #[.int .i64 9, .int .i64 na, .int .i64 nb, .int .i64 c, .int .i64 m] 23)) #[.int .i64 0, .int .i64 0, .int .i64 0, .int .i64 0, .int .i64 0] 40)
    rw [World.size_alloc] at BI
    rw [World.size_alloc, World.size_alloc] at BR
    go_enter Try.func15, Try.ntmps15
    go_wp2_with fail
    refine (HD.out _).mono ?_
    rintro e w1 ⟨rfl, hb1⟩
    have HB1 := hideC (HB0.out.trans (hb1.mono HB0.out.size))
    have BP1 := hideC (B.below BP.out hb1 (B.isLt BP.out))
    have BI1 := hideC (B.below BI.out hb1 (B.isLt BI.out))
    have BR1 := hideC (B.below BR.out hb1 (B.isLt BR.out))
    clear hb1 HB0 BP BI BR HD
    have sz1 := HB1.out.size
    have l1 := B.isLt BR1.out
    have i0 : w1.cell? ⟨w.heap.size + 1, 0, none⟩ = some (.int .i64 9) := B.cell BI1.out 0 rfl
    have t0 : w1.cell? ⟨w.heap.size + 1 + 1, 0, none⟩ = some (.int .i64 0) := B.cell BR1.out 0 rfl
    have t1 : w1.cell? ⟨w.heap.size + 1 + 1, 1, none⟩ = some (.int .i64 0) := B.cell BR1.out 1 rfl
    have t2 : w1.cell? ⟨w.heap.size + 1 + 1, 2, none⟩ = some (.int .i64 0) := B.cell BR1.out 2 rfl
    have t3 : w1.cell? ⟨w.heap.size + 1 + 1, 3, none⟩ = some (.int .i64 0) := B.cell BR1.out 3 rfl
    have t4 : w1.cell? ⟨w.heap.size + 1 + 1, 4, none⟩ = some (.int .i64 0) := B.cell BR1.out 4 rfl
    have u0 : ∀ j, w1.frozen? ⟨w.heap.size + 1 + 1, j, none⟩ = false := fun j => B.free BR1.out j
    have cb : w1.cell? ⟨w.heap.size, nb, none⟩ = some (.int .i64 (p.r nb)) := B.cell BP1.out nb (PM.row_get p nb hnb)
    have i2 : w1.cell? ⟨w.heap.size + 1, 2, none⟩ = some (.int .i64 nb) := B.cell BI1.out 2 rfl
    have i3 : w1.cell? ⟨w.heap.size + 1, 3, none⟩ = some (.int .i64 c) := B.cell BI1.out 3 rfl
    have i4 : w1.cell? ⟨w.heap.size + 1, 4, none⟩ = some (.int .i64 m) := B.cell BI1.out 4 rfl
    go_wp2_with fail
    go_region
    go_wp2
    refine bodyPost_ret (v := .agg #[.int .i64 1, .int .i64 (wrap64 (p.r nb + m)), .int .i64 c, .int .i64 0, .int .i64 0]) (by simp [results, Try.results15, go_sem, t0, t1, t2, t3, t4]) rfl ?_
    exact ⟨rfl, (by first | exact set5_below HB1.out (by omega) _ _ _ _ _ | exact (set5_below HB1.out (by omega) _ _ _ _ _).drew)⟩
  · by_cases h2 : op = 10
    · obtain ⟨na, nb, rfl, rfl, hna, hnb⟩ := HRg.out (.inr h2)
      subst h2
      obtain rfl := HAsk.out
      clear HRg HAsk h1
      rw [if_neg (by decide), if_pos rfl, Int.toNat_natCast, Int.toNat_natCast]
      have HB0 := hideC ((((Below.refl w.heap.size w).alloc (Nat.le_refl _) (.cells p.row 38)).alloc (by simp) (.cells #[.int .i64 10, .int .i64 na, .int .i64 nb, .int .i64 c, .int .i64 m] 23)).alloc (by simp; omega) (.cells #[.int .i64 0, .int .i64 0, .int .i64 0, .int .i64 0, .int .i64 0] 40))
      have BP := hideC (B.alloc (B.alloc (B.new w p.row 38) (.cells #[.int .i64 10, .int .i64 na, .int .i64 nb, .int .i64 c, .int .i64 m] 23)) (.cells #[.int .i64 0, .int .i64 0, .int .i64 0, .int .i64 0, .int .i64 0] 40))
      have BI := hideC (B.alloc (B.new (w.alloc (.cells p.row 38)) #[.int .i64 10, .int .i64 na, .int .i64 nb, .int .i64 c, .int .i64 m] 23) (.cells #[.int .i64 0, .int .i64 0, .int .i64 0, .int .i64 0, .int .i64 0] 40))
      have BR := hideC (B.new ((w.alloc (.cells p.row 38)).alloc (.cells #[.int .i64 10, .int .i64 na, .int .i64 nb, .int .i64 c, .int .i64 m] 23)) #[.int .i64 0, .int .i64 0, .int .i64 0, .int .i64 0, .int .i64 0] 40)
      rw [World.size_alloc] at BI
      rw [World.size_alloc, World.size_alloc] at BR
      go_enter Try.func15, Try.ntmps15
      go_wp2_with fail
      refine (HD.out _).mono ?_
      rintro e w1 ⟨rfl, hb1⟩
      have HB1 := hideC (HB0.out.trans (hb1.mono HB0.out.size))
      have BP1 := hideC (B.below BP.out hb1 (B.isLt BP.out))
      have BI1 := hideC (B.below BI.out hb1 (B.isLt BI.out))
      have BR1 := hideC (B.below BR.out hb1 (B.isLt BR.out))
      clear hb1 HB0 BP BI BR HD
      have sz1 := HB1.out.size
      have l1 := B.isLt BR1.out
      have i0 : w1.cell? ⟨w.heap.size + 1, 0, none⟩ = some (.int .i64 10) := B.cell BI1.out 0 rfl
      have t0 : w1.cell? ⟨w.heap.size + 1 + 1, 0, none⟩ = some (.int .i64 0) := B.cell BR1.out 0 rfl
      have t1 : w1.cell? ⟨w.heap.size + 1 + 1, 1, none⟩ = some (.int .i64 0) := B.cell BR1.out 1 rfl
      have t2 : w1.cell? ⟨w.heap.size + 1 + 1, 2, none⟩ = some (.int .i64 0) := B.cell BR1.out 2 rfl
      have t3 : w1.cell? ⟨w.heap.size + 1 + 1, 3, none⟩ = some (.int .i64 0) := B.cell BR1.out 3 rfl
      have t4 : w1.cell? ⟨w.heap.size + 1 + 1, 4, none⟩ = some (.int .i64 0) := B.cell BR1.out 4 rfl
      have u0 : ∀ j, w1.frozen? ⟨w.heap.size + 1 + 1, j, none⟩ = false := fun j => B.free BR1.out j
      have ca : w1.cell? ⟨w.heap.size, na, none⟩ = some (.int .i64 (p.r na)) := B.cell BP1.out na (PM.row_get p na hna)
      have i1 : w1.cell? ⟨w.heap.size + 1, 1, none⟩ = some (.int .i64 na) := B.cell BI1.out 1 rfl
      have cb : w1.cell? ⟨w.heap.size, nb, none⟩ = some (.int .i64 (p.r nb)) := B.cell BP1.out nb (PM.row_get p nb hnb)
      have i2 : w1.cell? ⟨w.heap.size + 1, 2, none⟩ = some (.int .i64 nb) := B.cell BI1.out 2 rfl
      have i3 : w1.cell? ⟨w.heap.size + 1, 3, none⟩ = some (.int .i64 c) := B.cell BI1.out 3 rfl
      have i4 : w1.cell? ⟨w.heap.size + 1, 4, none⟩ = some (.int .i64 m) := B.cell BI1.out 4 rfl
      go_wp2_with fail
      go_region
      go_wp2
      refine bodyPost_ret (v := .agg #[.int .i64 2, .int .i64 (wrap64 (p.r nb + m)), .int .i64 c, .int .i64 (p.r na), .int .i64 0]) (by simp [results, Try.results15, go_sem, t0, t1, t2, t3, t4]) rfl ?_
      exact ⟨rfl, (by first | exact set5_below HB1.out (by omega) _ _ _ _ _ | exact (set5_below HB1.out (by omega) _ _ _ _ _).drew)⟩
    · by_cases h3 : op = 16
      · subst h3
        obtain rfl := HAsk.out
        clear HRg HAsk h1 h2
        rw [if_neg (by decide), if_neg (by decide), if_pos rfl]
        have HB0 := hideC ((((Below.refl w.heap.size w).alloc (Nat.le_refl _) (.cells p.row 38)).alloc (by simp) (.cells #[.int .i64 16, .int .i64 a, .int .i64 b, .int .i64 c, .int .i64 m] 23)).alloc (by simp; omega) (.cells #[.int .i64 0, .int .i64 0, .int .i64 0, .int .i64 0, .int .i64 0] 40))
        have BP := hideC (B.alloc (B.alloc (B.new w p.row 38) (.cells #[.int .i64 16, .int .i64 a, .int .i64 b, .int .i64 c, .int .i64 m] 23)) (.cells #[.int .i64 0, .int .i64 0, .int .i64 0, .int .i64 0, .int .i64 0] 40))
        have BI := hideC (B.alloc (B.new (w.alloc (.cells p.row 38)) #[.int .i64 16, .int .i64 a, .int .i64 b, .int .i64 c, .int .i64 m] 23) (.cells #[.int .i64 0, .int .i64 0, .int .i64 0, .int .i64 0, .int .i64 0] 40))
        have BR := hideC (B.new ((w.alloc (.cells p.row 38)).alloc (.cells #[.int .i64 16, .int .i64 a, .int .i64 b, .int .i64 c, .int .i64 m] 23)) #[.int .i64 0, .int .i64 0, .int .i64 0, .int .i64 0, .int .i64 0] 40)
        rw [World.size_alloc] at BI
        rw [World.size_alloc, World.size_alloc] at BR
        go_enter Try.func15, Try.ntmps15
        go_wp2_with fail
        refine (HD.out _).mono ?_
        rintro e w1 ⟨rfl, hb1⟩
        have HB1 := hideC (HB0.out.trans (hb1.mono HB0.out.size))
        have BP1 := hideC (B.below BP.out hb1 (B.isLt BP.out))
        have BI1 := hideC (B.below BI.out hb1 (B.isLt BI.out))
        have BR1 := hideC (B.below BR.out hb1 (B.isLt BR.out))
        clear hb1 HB0 BP BI BR HD
        have sz1 := HB1.out.size
        have l1 := B.isLt BR1.out
        have i0 : w1.cell? ⟨w.heap.size + 1, 0, none⟩ = some (.int .i64 16) := B.cell BI1.out 0 rfl
        have t0 : w1.cell? ⟨w.heap.size + 1 + 1, 0, none⟩ = some (.int .i64 0) := B.cell BR1.out 0 rfl
        have t1 : w1.cell? ⟨w.heap.size + 1 + 1, 1, none⟩ = some (.int .i64 0) := B.cell BR1.out 1 rfl
        have t2 : w1.cell? ⟨w.heap.size + 1 + 1, 2, none⟩ = some (.int .i64 0) := B.cell BR1.out 2 rfl
        have t3 : w1.cell? ⟨w.heap.size + 1 + 1, 3, none⟩ = some (.int .i64 0) := B.cell BR1.out 3 rfl
        have t4 : w1.cell? ⟨w.heap.size + 1 + 1, 4, none⟩ = some (.int .i64 0) := B.cell BR1.out 4 rfl
        have u0 : ∀ j, w1.frozen? ⟨w.heap.size + 1 + 1, j, none⟩ = false := fun j => B.free BR1.out j
        have i4 : w1.cell? ⟨w.heap.size + 1, 4, none⟩ = some (.int .i64 m) := B.cell BI1.out 4 rfl
        go_wp2
        refine bodyPost_ret (v := .agg #[.int .i64 3, .int .i64 0, .int .i64 0, .int .i64 0, .int .i64 m]) (by simp [results, Try.results15, go_sem, t0, t1, t2, t3, t4]) rfl ?_
        exact ⟨rfl, (by first | exact set5_below HB1.out (by omega) _ _ _ _ _ | exact (set5_below HB1.out (by omega) _ _ _ _ _).drew)⟩
      · obtain rfl : Q = #[.int .i64 0, .int .i64 0, .int .i64 0, .int .i64 0, .int .i64 0] := by rw [HAsk.out, if_neg h1, if_neg h2, if_neg h3]
        clear HRg HAsk
        have HB0 := hideC ((((Below.refl w.heap.size w).alloc (Nat.le_refl _) (.cells p.row 38)).alloc (by simp) (.cells #[.int .i64 op, .int .i64 a, .int .i64 b, .int .i64 c, .int .i64 m] 23)).alloc (by simp; omega) (.cells #[.int .i64 0, .int .i64 0, .int .i64 0, .int .i64 0, .int .i64 0] 40))
        have BP := hideC (B.alloc (B.alloc (B.new w p.row 38) (.cells #[.int .i64 op, .int .i64 a, .int .i64 b, .int .i64 c, .int .i64 m] 23)) (.cells #[.int .i64 0, .int .i64 0, .int .i64 0, .int .i64 0, .int .i64 0] 40))
        have BI := hideC (B.alloc (B.new (w.alloc (.cells p.row 38)) #[.int .i64 op, .int .i64 a, .int .i64 b, .int .i64 c, .int .i64 m] 23) (.cells #[.int .i64 0, .int .i64 0, .int .i64 0, .int .i64 0, .int .i64 0] 40))
        have BR := hideC (B.new ((w.alloc (.cells p.row 38)).alloc (.cells #[.int .i64 op, .int .i64 a, .int .i64 b, .int .i64 c, .int .i64 m] 23)) #[.int .i64 0, .int .i64 0, .int .i64 0, .int .i64 0, .int .i64 0] 40)
        rw [World.size_alloc] at BI
        rw [World.size_alloc, World.size_alloc] at BR
        go_enter Try.func15, Try.ntmps15
        go_wp2_with fail
        refine (HD.out _).mono ?_
        rintro e w1 ⟨rfl, hb1⟩
        have HB1 := hideC (HB0.out.trans (hb1.mono HB0.out.size))
        have BP1 := hideC (B.below BP.out hb1 (B.isLt BP.out))
        have BI1 := hideC (B.below BI.out hb1 (B.isLt BI.out))
        have BR1 := hideC (B.below BR.out hb1 (B.isLt BR.out))
        clear hb1 HB0 BP BI BR HD
        have sz1 := HB1.out.size
        have l1 := B.isLt BR1.out
        have i0 : w1.cell? ⟨w.heap.size + 1, 0, none⟩ = some (.int .i64 op) := B.cell BI1.out 0 rfl
        have t0 : w1.cell? ⟨w.heap.size + 1 + 1, 0, none⟩ = some (.int .i64 0) := B.cell BR1.out 0 rfl
        have t1 : w1.cell? ⟨w.heap.size + 1 + 1, 1, none⟩ = some (.int .i64 0) := B.cell BR1.out 1 rfl
        have t2 : w1.cell? ⟨w.heap.size + 1 + 1, 2, none⟩ = some (.int .i64 0) := B.cell BR1.out 2 rfl
        have t3 : w1.cell? ⟨w.heap.size + 1 + 1, 3, none⟩ = some (.int .i64 0) := B.cell BR1.out 3 rfl
        have t4 : w1.cell? ⟨w.heap.size + 1 + 1, 4, none⟩ = some (.int .i64 0) := B.cell BR1.out 4 rfl
        have u0 : ∀ j, w1.frozen? ⟨w.heap.size + 1 + 1, j, none⟩ = false := fun j => B.free BR1.out j
        go_wp2
        refine bodyPost_ret (v := .agg #[.int .i64 0, .int .i64 0, .int .i64 0, .int .i64 0, .int .i64 0]) (by simp [results, Try.results15, go_sem, t0, t1, t2, t3, t4]) rfl ?_
        exact ⟨rfl, (by first | exact set5_below HB1.out (by omega) _ _ _ _ _ | exact (set5_below HB1.out (by omega) _ _ _ _ _).drew)⟩
end Go.Proofs.Ytamocjifffbhpaa.PW
