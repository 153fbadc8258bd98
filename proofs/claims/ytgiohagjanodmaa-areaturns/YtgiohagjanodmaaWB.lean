import Derived.Test.YtgiohagjanodmaaW8
import Derived.Test.YtgiohagjanodmaaM4
namespace Go.Proofs.Ytgiohagjanodmaa.W
open Go.RowKit
set_option linter.unusedVariables false

set_option maxRecDepth 100000 in
set_option maxHeartbeats 2000000 in
theorem turn_protect (l : List M.Ar) (v : Value) (page pages q : Int) (P : Nat) (w : World) (h : Has w v l) (hf : AllFit l) (hp : -9223372036854775808 ≤ page ∧ page ≤ 9223372036854775807) (hn : -9223372036854775808 ≤ pages ∧ pages ≤ 9223372036854775807) (hP : w.cell? ⟨P, 0, none⟩ = some (.int .i64 q)) :
    Calls Try.prog 28 #[v, .int .i64 page, .int .i64 pages, .int .i64 q, .func (.func 31) #[] #[.pointer (some ⟨P, 0, none⟩)]] w fun e w' => ∃ r, e = .returned (.tuple #[r, .int .i64 (M.turnN l page pages q (howProtect q)).2]) ∧ Has w' r (M.turnN l page pages q (howProtect q)).1 ∧ Below w.heap.size w w' := by
  by_cases hc : M.checkN l = 0
  · by_cases hpp : M.pagesB page pages = true
    · by_cases hqq : M.protB q = true
      · have HT : Hid (M.turnN l page pages q (howProtect q) = if M.errFrom (M.spreadN l) (howProtect q) page.toNat pages.toNat = 0 then (M.gatherN (M.turned (M.spreadN l) (howProtect q) page (page + pages)), 0) else ([], M.errFrom (M.spreadN l) (howProtect q) page.toNat pages.toNat)) := by
          show _ = _; simp [M.turnN, hc, hpp, hqq]
        have hpb := (M.pagesB_iff page pages).1 hpp
        obtain ⟨Z, hZ⟩ : ∃ Z, Z = M.cellsL (fun _ => M.off) := ⟨_, rfl⟩
        have hz := zv56
        rw [← hZ] at hz
        have hZs : Z.size = 768 := by rw [hZ]; exact M.cellsL_size _
        clear hZ
        go_enter Try.func28, Try.ntmps28
        go_wp2_with fail
        refine (check_any l v _ h hf).mono ?_
        rintro e w1 ⟨rfl, hb1⟩
        rw [hc]
        have HC : Hid (M.checkN l = 0) := hc
        clear hc
        go_wp2_with fail
        refine (rightPages_any _ _ _ hp hn).mono ?_
        rintro e w' ⟨rfl, rfl⟩
        go_wp2_with fail
        refine (rightProt_any _ _).mono ?_
        rintro e w' ⟨rfl, rfl⟩
        go_wp2_with fail
        refine (spread_any l v _ (h.below hb1) HC.out).mono ?_
        rintro e w2 ⟨rfl, hb2⟩
        have HB2 : Hid (Below w.heap.size w w2) := hb1.trans (hb2.mono hb1.size)
        obtain ⟨F, hF⟩ : ∃ F, F = M.spreadN l := ⟨_, rfl⟩
        rw [← hF] at HT ⊢
        obtain ⟨C, hC⟩ : ∃ C, C = M.cellsL F := ⟨_, rfl⟩
        have hCs : C.size = 768 := by rw [hC]; exact M.cellsL_size _
        have HCF : Hid (C = M.cellsL F) := hC
        rw [← hC]
        clear hb1 hb2 hF hC hpp hqq
        have hn2 : Hid ((w2.alloc (.cells Z 56)).heap[w2.heap.size]? = some (.cells Z 56 (0, 0))) := B.new w2 Z 56
        go_wp2_with (refine wpList_store_row rfl 56 _ _ rfl w2.heap.size C rfl rfl 56 Z hn2.out (by rw [hCs]; exact size56) (by rw [hZs, hCs]) (by rw [HCF.out]; exact M.cellsL_one _) ?_)
        have HA0 : Hid (((w2.alloc (.cells Z 56)).setRow w2.heap.size C).heap[w2.heap.size]? = some (.cells C 56 (0, 0))) := setRow_heap _ _ _ _ 56 (0, 0) hn2.out
        have HB3 : Hid (Below w.heap.size w ((w2.alloc (.cells Z 56)).setRow w2.heap.size C)) := below_setRow (HB2.out.alloc HB2.out.size _) HB2.out.size _
        have hsz2 := HB2.out.size
        go_loopw [14] (fun t wr => ∃ n : Nat, page ≤ (n : Int) ∧ (n : Int) ≤ page + pages ∧ t = .int .i64 n ∧ (∀ k : Nat, page.toNat ≤ k → k < n → ((howProtect q) (F k)).2 = 0) ∧ wr.heap[w2.heap.size]? = some (.cells (M.cellsL (M.turned F (howProtect q) page n)) 56 (0, 0)) ∧ Below w.heap.size w wr) (fun t _ => (page + pages - intOf t).toNat)
        case atStart =>
          refine ⟨page.toNat, by omega, by omega, by rw [Int.toNat_of_nonneg (by omega)], fun k h1 h2 => by omega, ?_, HB3.out⟩
          rw [Int.toNat_of_nonneg (by omega), M.turned_begin, ← HCF.out]
          exact HA0.out
        case round =>
          obtain ⟨n, hn1, hn3, rfl, hno, hA, hb⟩ := hrel
          have HN : Hid (∀ k : Nat, page.toNat ≤ k → k < n → ((howProtect q) (F k)).2 = 0) := hno
          have HA : Hid (wr.heap[w2.heap.size]? = some (.cells (M.cellsL (M.turned F (howProtect q) page n)) 56 (0, 0))) := hA
          have HB : Hid (Below w.heap.size w wr) := hb
          have hAl : w2.heap.size < wr.heap.size := B.isLt hA
          have hPw : wr.cell? ⟨P, 0, none⟩ = some (.int .i64 q) := (hb.cell (p := ⟨P, 0, none⟩) (World.block_lt_of_cell? w _ hP)).trans hP
          by_cases hin : (n : Int) < page + pages
          · have z0 := B.cell hA (n * 3) (M.cellsL_get0 _ n (by omega))
            have z1 := B.cell hA (n * 3 + 1) (M.cellsL_get1 _ n (by omega))
            have z2 := B.cell hA (n * 3 + 2) (M.cellsL_get2 _ n (by omega))
            rw [M.turned_at] at z0 z1 z2
            have hn256 : (n : Int) < 256 := by omega
            clear hno hA hb
            obtain ⟨s, hs⟩ : ∃ s, s = F n := ⟨_, rfl⟩
            rw [← hs] at z0 z1 z2
            have HS : Hid (s = F n) := hs
            clear hs
            go_wp2_with fail
            refine (protect1_any s q P _ hPw).mono ?_
            rintro e w3 ⟨rfl, hb3⟩
            have bA := B.below HA.out hb3 hAl
            have y0 := B.cell bA (n * 3) (M.cellsL_get0 _ n (by omega))
            have y1 := B.cell bA (n * 3 + 1) (M.cellsL_get1 _ n (by omega))
            have y2 := B.cell bA (n * 3 + 2) (M.cellsL_get2 _ n (by omega))
            have yf := B.free bA
            have HA3 : Hid (w3.heap[w2.heap.size]? = some (.cells (M.cellsL (M.turned F (howProtect q) page n)) 56 (0, 0))) := bA
            have HBB : Hid (Below w.heap.size w w3) := HB.out.trans (hb3.mono HB.out.size)
            have hsz3 : w2.heap.size < w3.heap.size := B.isLt bA
            clear bA hb3 z0 z1 z2
            obtain ⟨r, hr⟩ : ∃ r, r = (howProtect q) s := ⟨_, rfl⟩
            rw [← hr]
            have HR : Hid (r = (howProtect q) s) := hr
            clear hr
            unfold aggSt
            by_cases he : r.2 = 0
            · have he' : (r.2 != 0) = false := by simp [he]
              have HE : Hid (r.2 = 0) := he
              clear he
              go_wp2
              go_roundw
              case rel =>
                have hset := B.set (B.set (B.set HA3.out (n * 3) (.bool r.1.m)) (n * 3 + 1) (.int .i64 r.1.p)) (n * 3 + 2) (.bool r.1.z)
                have est := M.turned_step F (howProtect q) page n hn1
                rw [← HS.out, ← HR.out] at est
                rw [M.cellsL_set (M.turned F (howProtect q) page n) n r.1 (by omega), est] at hset
                refine ⟨n + 1, by omega, by omega, by go_num, fun k h1 h2 => if e : k = n then by rw [e, ← HS.out, ← HR.out]; exact HE.out else HN.out k h1 (by omega), ?_, ?_⟩
                · rw [show ((n + 1 : Nat) : Int) = (n : Int) + 1 from by omega]
                  exact B.alloc hset _
                · have hb4 := ((HBB.out.setCell (p := ⟨w2.heap.size, n * 3, none⟩) hsz2 (.bool r.1.m)).setCell (p := ⟨w2.heap.size, n * 3 + 1, none⟩) hsz2 (.int .i64 r.1.p)).setCell (p := ⟨w2.heap.size, n * 3 + 2, none⟩) hsz2 (.bool r.1.z)
                  exact hb4.alloc hb4.size _
              case measure => simp [intOf]; omega
            · have he' : (r.2 != 0) = true := by simpa using he
              have HE : Hid (r.2 ≠ 0) := he
              clear he
              have ht : Hid (M.turnN l page pages q (howProtect q) = ([], r.2)) := by
                have herr : M.errFrom F (howProtect q) page.toNat pages.toNat = r.2 := by
                  rw [HR.out, HS.out]
                  exact M.errFrom_at F (howProtect q) _ _ n (by omega) (by omega) HN.out (by rw [← HS.out, ← HR.out]; exact HE.out)
                show _ = _
                rw [HT.out, herr, if_neg HE.out]
              go_wp2
              go_ret2
              exact ⟨.slice none 0 0, by rw [ht.out]; rfl, by rw [ht.out]; exact ⟨none, 0, rfl, .inl rfl⟩, HBB.out.alloc HBB.out.size _⟩
          · have hend : Hid ((n : Int) = page + pages) := by show _ = _; omega
            have ht : Hid (M.turnN l page pages q (howProtect q) = (M.gatherN (M.turned F (howProtect q) page n), 0)) := by
              have herr : M.errFrom F (howProtect q) page.toNat pages.toNat = 0 := M.errFrom_zero F (howProtect q) _ _ (fun k h1 h2 => HN.out k h1 (by have := hend.out; omega))
              show _ = _
              rw [HT.out, herr, if_pos rfl, hend.out]
            clear hno hA hb
            go_wp2_with (refine wpList_load_row rfl 56 _ rfl w2.heap.size rfl 56 _ (0, 0) _ HA.out Try.underlying56 rfl (by rw [M.cellsL_size]; exact size56) ?_)
            refine (gather_any _ _).mono ?_
            rintro e w4 ⟨r, rfl, hr, hb4⟩
            go_wp2
            go_ret2
            exact ⟨r, by rw [ht.out]; rfl, by rw [ht.out]; exact hr, HB.out.trans (hb4.mono HB.out.size)⟩
      · have hqq' : M.protB q = false := by simpa using hqq
        have HT : Hid (M.turnN l page pages q (howProtect q) = ([], 3)) := by show _ = _; simp [M.turnN, hc, hpp, hqq']
        clear hqq
        go_enter Try.func28, Try.ntmps28
        go_wp2_with fail
        refine (check_any l v _ h hf).mono ?_
        rintro e w1 ⟨rfl, hb1⟩
        rw [hc]
        clear hc
        go_wp2_with fail
        refine (rightPages_any _ _ _ hp hn).mono ?_
        rintro e w' ⟨rfl, rfl⟩
        go_wp2_with fail
        refine (rightProt_any _ _).mono ?_
        rintro e w' ⟨rfl, rfl⟩
        go_wp2
        go_ret2
        exact ⟨.slice none 0 0, by rw [HT.out]; rfl, by rw [HT.out]; exact ⟨none, 0, rfl, .inl rfl⟩, hb1⟩
    · have hpp' : M.pagesB page pages = false := by simpa using hpp
      have HT : Hid (M.turnN l page pages q (howProtect q) = ([], 3)) := by show _ = _; simp [M.turnN, hc, hpp']
      clear hpp
      go_enter Try.func28, Try.ntmps28
      go_wp2_with fail
      refine (check_any l v _ h hf).mono ?_
      rintro e w1 ⟨rfl, hb1⟩
      rw [hc]
      clear hc
      go_wp2_with fail
      refine (rightPages_any _ _ _ hp hn).mono ?_
      rintro e w' ⟨rfl, rfl⟩
      go_wp2
      go_ret2
      exact ⟨.slice none 0 0, by rw [HT.out]; rfl, by rw [HT.out]; exact ⟨none, 0, rfl, .inl rfl⟩, hb1⟩
  · have HT : Hid (M.turnN l page pages q (howProtect q) = ([], M.checkN l)) := by show _ = _; simp [M.turnN, hc]
    have hc' : (M.checkN l != 0) = true := by simpa using hc
    go_enter Try.func28, Try.ntmps28
    go_wp2_with fail
    refine (check_any l v _ h hf).mono ?_
    rintro e w1 ⟨rfl, hb1⟩
    go_wp2
    go_ret2
    exact ⟨.slice none 0 0, by rw [HT.out]; rfl, by rw [HT.out]; exact ⟨none, 0, rfl, .inl rfl⟩, hb1⟩
end Go.Proofs.Ytgiohagjanodmaa.W
