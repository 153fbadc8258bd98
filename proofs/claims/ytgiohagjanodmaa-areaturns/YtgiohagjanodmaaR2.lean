import Derived.Test.YtgiohagjanodmaaA
import Derived.Test.YtgiohagjanodmaaM7
namespace Go.Proofs.Ytgiohagjanodmaa.W
open Go.RowKit
set_option linter.unusedVariables false

theorem size42' : (Try.prog.info? 42).map (·.size) = some 256 := by kernel_rfl

set_option maxRecDepth 100000 in
set_option maxHeartbeats 2000000 in
theorem areasOf_any (F : Nat → M.St) (hF : M.Fine F) (w : World) :
    Calls Try.prog 24 #[.agg (M.cellsB (fun n => M.enc (F n)))] w fun e w' => ∃ v, e = .returned v ∧ Has w' v (M.gatherN F) ∧ Below w.heap.size w w' := by
  have HF : Hid (M.Fine F) := hF
  clear hF
  obtain ⟨C, hC⟩ : ∃ C, C = M.cellsB (fun n => M.enc (F n)) := ⟨_, rfl⟩
  have hCg : Hid (∀ n, n < 256 → C[n]? = some (.int .i64 (M.enc (F n)))) := by show ∀ n, _; rw [hC]; exact fun n hn => M.cellsB_get _ n hn
  rw [← hC]
  clear hC
  obtain ⟨i0, hi, hz0, hz1, hz2⟩ := info_parts info24
  have HX : Hid ((w.alloc (.cells C 42)).heap[w.heap.size]? = some (.cells C 42 (0, 0))) := B.new w C 42
  have HB0 : Hid (Below w.heap.size w (w.alloc (.cells C 42))) := (Below.refl _ _).alloc (Nat.le_refl _) _
  go_enter Try.func24, Try.ntmps24
  go_wp2
  go_loopw [3, 4] (fun v i wr => ∃ k : Nat, 1 ≤ k ∧ k ≤ 256 ∧ i = .int .i64 k ∧ wr.ownsRow (w.heap.size + 1) 24 4 v (M.gatherTo F k).length (M.areaCells (M.gatherTo F k)) ∧ wr.heap[w.heap.size]? = some (.cells C 42 (0, 0)) ∧ Below w.heap.size w wr) (fun _ i _ => 256 - (intOf i).toNat)
  case atStart =>
    have e : M.gatherTo F 1 = [] := by simp only [M.gatherTo]; rw [if_pos HF.out.zero]
    refine ⟨1, by omega, by omega, rfl, ?_, HX.out, HB0.out⟩
    rw [e]
    exact World.ownsRow_nil _ _ _ _
  case round =>
    obtain ⟨k, hk1, hk, rfl, hown, hx, hb⟩ := hrel
    have HO : Hid (wr.ownsRow (w.heap.size + 1) 24 4 u3 (M.gatherTo F k).length (M.areaCells (M.gatherTo F k))) := hown
    have HXr : Hid (wr.heap[w.heap.size]? = some (.cells C 42 (0, 0))) := hx
    have HB : Hid (Below w.heap.size w wr) := hb
    have hsz : w.heap.size < wr.heap.size := B.isLt hx
    by_cases hlt : k < 256
    · have l0 := B.cell hx k (hCg.out k hlt)
      have l1 := B.cell hx (k - 1) (hCg.out (k - 1) (by omega))
      have hki : (k : Int) ≤ 255 := by omega
      have hk1i : (1 : Int) ≤ (k : Int) := by omega
      have hkb : (k : Int) < 256 := by omega
      clear hown hx hb
      have hlast : M.lastTo F k = F (k - 1) := by
        cases k with
        | zero => omega
        | succ k => rfl
      have hpk := HF.out.prot k
      have hpl := HF.out.prot (k - 1)
      obtain ⟨s, hs⟩ : ∃ s, s = F k := ⟨_, rfl⟩
      obtain ⟨t, ht⟩ : ∃ t, t = M.lastTo F k := ⟨_, rfl⟩
      rw [← hlast, ← ht] at l1 hpl
      rw [← hs] at l0 hpk
      have HS : Hid (s = F k) := hs
      have HT : Hid (t = M.lastTo F k) := ht
      clear hs ht hlast
      by_cases hm : s.m = true
      · have hen := M.enc_prot s hpk hm
        have hinj := M.enc_inj s t hpk hpl hm
        obtain ⟨x, hx⟩ : ∃ x, x = M.enc s := ⟨_, rfl⟩
        obtain ⟨y, hy⟩ : ∃ y, y = M.enc t := ⟨_, rfl⟩
        rw [← hx] at l0 hen hinj
        rw [← hy] at l1 hinj
        obtain ⟨hp1, hp2, hp3, hp4⟩ := hen
        have HP1 : Hid ((x - 1) % 8 / 2 = s.p) := hp1
        have HP2 : Hid (decide (8 ≤ x - 1) = s.z) := hp2
        have HI : Hid (y = x ↔ M.stEq s t = true) := hinj
        have hx0 : (x == 0) = false := beq_eq_false_iff_ne.2 (by omega)
        clear hx hy hp1 hp2 hinj hpk hpl
        by_cases hyx : y = x
        · have he : M.stEq s t = true := HI.out.1 hyx
          have hyx' : (y == x) = true := by simp [hyx]
          have HG : Hid (M.gatherTo F (k + 1) = M.bump (M.gatherTo F k)) := by show _ = _; simp only [M.gatherTo]; rw [← HS.out, ← HT.out, hm, he]; rfl
          have hpos := M.gather_some F k (by rw [← HT.out, ← M.stEq_eq s t he]; exact hm)
          have hlen := M.gather_len F k
          have hpg := M.gather_pages F k ((M.gatherTo F k).length - 1) (by omega)
          obtain ⟨G, hG⟩ : ∃ G, G = M.gatherTo F k := ⟨_, rfl⟩
          rw [← hG] at HO HG hpos hlen hpg
          clear hG he hm hyx
          rcases HO.out.2 with ⟨_, h0⟩ | ⟨g, cap, cur, hv, hbg, hg, hnc, hcm, hcs, htake⟩
          · omega
          · have HO2 := HO.out
            rw [hv] at HO2
            have p1 : wr.cell? ⟨g, (G.length - 1) * 4 + 1, none⟩ = some (.int .i64 (M.at_ G (G.length - 1)).pages) := by
              rw [HO2.cellAt _ (by omega), M.areaCells_get G _ 1 (by omega) (by omega)]; rfl
            have pf := HO2.frozenAt
            have HOv : Hid (wr.ownsRow (w.heap.size + 1) 24 4 (.slice (some ⟨g, 0, none⟩) G.length cap) G.length (M.areaCells G)) := HO2
            have hgl : g < wr.heap.size := B.isLt hg
            rw [hv]
            clear HO HO2 hv hg htake hcs
            obtain ⟨pp, hpp⟩ : ∃ pp, pp = (M.at_ G (G.length - 1)).pages := ⟨_, rfl⟩
            rw [← hpp] at p1 hpg
            have HP : Hid (pp = (M.at_ G (G.length - 1)).pages) := hpp
            clear hpp
            have hG1 : (1 : Int) ≤ (G.length : Int) := by omega
            have hG2 : (G.length : Int) ≤ 256 := by omega
            go_wp2
            go_quiet (fail)
            obtain ⟨V, hV⟩ : ∃ V : World, V = wr.drewN nq := ⟨_, rfl⟩
            rw [← hV]
            have p1V : V.cell? ⟨g, (G.length - 1) * 4 + 1, none⟩ = some (.int .i64 pp) := by rw [hV]; exact p1
            have pfV : ∀ j, V.frozen? ⟨g, j, none⟩ = false := by rw [hV]; exact pf
            have HXV : Hid (V.heap[w.heap.size]? = some (.cells C 42 (0, 0))) := by show _ = _; rw [hV]; exact HXr.out
            have HOV : Hid (V.ownsRow (w.heap.size + 1) 24 4 (.slice (some ⟨g, 0, none⟩) G.length cap) G.length (M.areaCells G)) := by show World.ownsRow _ _ _ _ _ _ _; rw [hV]; exact HOv.out
            have HBV : Hid (Below w.heap.size w V) := by show Below _ _ _; rw [hV]; exact below_drewN HB.out _
            clear hV p1 pf l0 l1 HXr HOv HB
            go_wp2
            go_roundw
            case rel =>
              have ho := (HOV.out.stored ((G.length - 1) * 4 + 1) (.int .i64 (pp + 1))).1
              have e : (M.areaCells G).set ((G.length - 1) * 4 + 1) (.int .i64 (pp + 1)) = M.areaCells (M.bump G) := by
                rw [HP.out]; exact (M.areaCells_set G (G.length - 1) _ (by omega)).symm
              rw [e] at ho
              refine ⟨k + 1, by omega, by omega, by go_num, ?_, B.other HXV.out _ _ _ (by omega), HBV.out.setCell (by simp; omega) _⟩
              rw [HG.out, M.bump_length]; exact ho
            case measure => simp [intOf]; omega
        · have he : M.stEq s t = false := by
            cases e : M.stEq s t
            · rfl
            · exact absurd (HI.out.2 e) hyx
          have hyx' : (y == x) = false := beq_eq_false_iff_ne.2 hyx
          have HG : Hid (M.gatherTo F (k + 1) = M.gatherTo F k ++ [⟨(k : Int), 1, s.p, s.z⟩]) := by show _ = _; simp only [M.gatherTo]; rw [← HS.out, ← HT.out, hm, he]; rfl
          have hlen := M.gather_len F k
          obtain ⟨G, hG⟩ : ∃ G, G = M.gatherTo F k := ⟨_, rfl⟩
          rw [← hG] at HO HG hlen
          clear hG he hm hyx
          have hrow : Hid (∀ j, u3.ownBlock = some j → w.heap.size + 1 ≤ j ∧ j < wr.heap.size) := HO.out.lt
          go_wp2
          go_quiet (fail)
          obtain ⟨V, hV⟩ : ∃ V : World, V = wr.drewN nq := ⟨_, rfl⟩
          rw [← hV]
          have l0V : V.cell? ⟨w.heap.size, k, none⟩ = some (.int .i64 x) := by rw [hV]; exact l0
          have HXV : Hid (V.heap[w.heap.size]? = some (.cells C 42 (0, 0))) := by show _ = _; rw [hV]; exact HXr.out
          have HOV : Hid (V.ownsRow (w.heap.size + 1) 24 4 u3 G.length (M.areaCells G)) := by show World.ownsRow _ _ _ _ _ _ _; rw [hV]; exact HO.out
          have HBV : Hid (Below w.heap.size w V) := by show Below _ _ _; rw [hV]; exact below_drewN HB.out _
          have hrV : Hid (∀ j, u3.ownBlock = some j → w.heap.size + 1 ≤ j ∧ j < V.heap.size) := HOV.out.lt
          have hszV : w.heap.size < V.heap.size := B.isLt HXV.out
          clear hV l0 l1 HXr HO HB hrow hsz
          have HN : Hid ((V.alloc (.cells #[.int .i64 (k : Int), .int .i64 1, .int .i64 ((x - 1) % 8 / 2), .bool (decide (8 ≤ x - 1))] 24)).heap[V.heap.size]? = some (.cells #[.int .i64 (k : Int), .int .i64 1, .int .i64 ((x - 1) % 8 / 2), .bool (decide (8 ≤ x - 1))] 24 (0, 0))) := B.new _ _ _
          go_wp2_with (at_builtin; refine wpList_append_lies _ rfl _ _ 22 rfl (w.heap.size + 1) 24 i0 (.agg #[.int .i64 0, .int .i64 0, .int .i64 0, .bool false]) 4 32 Try.underlying22 hi hz0 hz1 hz2 rfl (by decide) _ _ _ rfl (HOV.out.alloc _) ⟨V.heap.size, 0, none⟩ 1 1 [.int .i64 (k : Int), .int .i64 1, .int .i64 ((x - 1) % 8 / 2), .bool (decide (8 ≤ x - 1))] rfl rfl (B.news HN.out) (M.areaCells_one [⟨(k : Int), 1, (x - 1) % 8 / 2, decide (8 ≤ x - 1)⟩]) (by decide) (by unfold maxLen; omega) (by omega) (by simp; omega) (V.heap.size + 1) (by simp) ?_)
          intro g cap w1 hown1 hgrow hat hlt1
          have bX := B.grown (B.alloc HXV.out (.cells #[.int .i64 (k : Int), .int .i64 1, .int .i64 ((x - 1) % 8 / 2), .bool (decide (8 ≤ x - 1))] 24)) hgrow (fun e => by have := hrV.out _ e.symm; omega)
          have HO1 : Hid (w1.ownsRow (w.heap.size + 1) 24 4 (Value.slice (some ⟨g, 0, none⟩) (G.length + 1) cap) (G.length + 1) (M.areaCells G ++ [.int .i64 (k : Int), .int .i64 1, .int .i64 ((x - 1) % 8 / 2), .bool (decide (8 ≤ x - 1))])) := hown1
          have HX1 : Hid (w1.heap[w.heap.size]? = some (.cells C 42 (0, 0))) := bX
          have HB1 : Hid (Below w.heap.size w w1) := (HBV.out.alloc HBV.out.size _).grown hgrow (by have := HBV.out.size; simp; omega) (fun k' e => by have := hrV.out _ e; omega)
          clear bX hown1 hgrow hat
          go_wp2
          go_roundw
          case rel =>
            refine ⟨k + 1, by omega, by omega, by go_num, ?_, HX1.out, HB1.out⟩
            rw [HG.out, List.length_append, M.areaCells_append]
            have h := HO1.out
            rw [HP1.out, HP2.out] at h
            exact h
          case measure => simp [intOf]; omega
      · have hm' : s.m = false := by simpa using hm
        have hx0 := (M.enc_zero s hpk.1).2 hm'
        have HG : Hid (M.gatherTo F (k + 1) = M.gatherTo F k) := by show _ = _; simp only [M.gatherTo]; rw [← HS.out, hm']; rfl
        rw [hx0] at l0
        clear hm hx0
        go_wp2
        go_roundw
        case rel =>
          refine ⟨k + 1, by omega, by omega, by go_num, ?_, HXr.out, HB.out⟩
          rw [HG.out]; exact HO.out
        case measure => simp [intOf]; omega
    · obtain rfl : k = 256 := by omega
      clear hown hx hb
      go_wp2
      go_ret
      refine ⟨_, rfl, ?_, HB.out⟩
      show Has wr u3 (M.gatherN F)
      rcases HO.out.2 with ⟨hv, h0⟩ | ⟨g, cap, cur, hv, hbg, hg, hnc, hcm, hcs, htake⟩
      · have h0' : (M.gatherN F).length = 0 := h0
        exact ⟨none, 0, by rw [hv, h0'], .inl (List.eq_nil_of_length_eq_zero h0')⟩
      · have ho := HO.out
        rw [hv] at ho
        refine ⟨some ⟨g, 0, none⟩, cap, hv, .inr ⟨g, 0, rfl, fun i hi => ?_⟩⟩
        have hi' : i < (M.gatherTo F 256).length := hi
        rw [Nat.zero_add]
        exact ⟨(ho.cellAt _ (by omega)).trans (M.areaCells_get _ i 0 hi' (by omega)), (ho.cellAt _ (by omega)).trans (M.areaCells_get _ i 1 hi' (by omega)), (ho.cellAt _ (by omega)).trans (M.areaCells_get _ i 2 hi' (by omega)), (ho.cellAt _ (by omega)).trans (M.areaCells_get _ i 3 hi' (by omega))⟩
end Go.Proofs.Ytgiohagjanodmaa.W
